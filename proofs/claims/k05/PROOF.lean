import PyProof.Rows.All
import Wide.All
import OpenK.AllK
import Wide.FinOn
import HandS.Base
import HandS.Call
import HandS.List
import HandS.Dict
import HandS.Set
import HandS.Strs
import HandS.TupSets
import HandS.Ends
import HandS.Words
import HandS.More
import HandS.Comp
import HandS.WordsList
import HandS.Wide
import HandS.TupAny
import HandS.Style
import HandS.Text
import HandS.Codes
import HandS.Deep
import KE.KDictPairs
import HandS.Small
import HandS.ForSpec
import KE.KExcInit
import HandS.ExcInit
import HandS.NoneIn
import HandS.TryElse
import HandS.Walk
import HandS.DeepEq
import PyProof.EqKinds
import PyProof.FactsAll.dict
import HandS.IsInst
import PySem.Challenge.RW_countedonce_k05_whole_checked
set_option Elab.async false
set_option linter.all false
set_option maxRecDepth 100000
set_option maxHeartbeats 4000000
namespace Yk
open PySem PySem.Spec PyProof.Rows L2
/-! ### sets of ints and texts, their members told -/
def kOf : Value → L2.Key
  | .int i _ => .inl i
  | .str x _ => .inr x
  | _ => .inl 0
/-- an int or a text -/
def Plain (v : Value) : Prop := (∃ i t, v = .int i t) ∨ ∃ x t, v = .str x t
theorem plain_scan {v : Value} (h : Plain v) : v.scannable = true := by
  rcases h with ⟨i, t, rfl⟩ | ⟨x, t, rfl⟩ <;> rfl
section
variable {P : Program} {w : World}
theorem plain_is {v : Value} (h : Plain v) : (mixKind P w).is (kOf v) v = true := by
  rcases h with ⟨i, t, rfl⟩ | ⟨x, t, rfl⟩
  · exact mixKind_int P w i t
  · exact mixKind_str P w x t
theorem is_iff {v : Value} (h : Plain v) (k : L2.Key) : (mixKind P w).is k v = true ↔ kOf v = k :=
  ⟨fun e => (mixKind P w).inj v _ _ (plain_is h) e, fun e => e ▸ plain_is h⟩
theorem rel_plain {k : L2.Key} {u : Value} (r : RelV (kV k) u) : Plain u ∧ kOf u = k := by
  cases k with
  | inl i =>
    obtain ⟨t, rfl⟩ : ∃ t, u = Value.int i t := r
    exact ⟨.inl ⟨i, t, rfl⟩, rfl⟩
  | inr x =>
    obtain ⟨t, rfl⟩ : ∃ t, u = Value.str x t := r
    exact ⟨.inr ⟨x, t, rfl⟩, rfl⟩
def Row (P : Program) (w : World) (e : Int × Value) : Prop := Plain e.2 ∧ e.1 = (mixKind P w).hash (kOf e.2)
/-- at a: a set, its members L in the order of its rows -/
def SetQ (P : Program) (w : World) (h : Heap) (a : Addr) (L : List L2.Key) : Prop :=
  ∃ o es ep t, h.get? a = some o ∧ o.ExactSet ∧ o.data = .set es ep t ∧ (∀ e ∈ es.toList, Row P w e) ∧ L = es.toList.map (fun e => kOf e.2) ∧ L.Nodup ∧
    es.size < scanBound ∧ t.fits es.size = true ∧ Ris t.place.toList ∧ (w.params.followText "set-order" = true ∨ t.led = true)
variable {h h' : Heap} {a : Addr} {L : List L2.Key}
theorem SetQ.at (R : SetQ P w h a L) (k : ∀ o, h.get? a = some o → h'.get? a = some o) : SetQ P w h' a L := by
  obtain ⟨o, es, ep, t, ho, r⟩ := R
  exact ⟨o, es, ep, t, k o ho, r⟩
theorem SetQ.there (R : SetQ P w h a L) : ∃ o, h.get? a = some o := let ⟨o, _, _, _, ho, _⟩ := R; ⟨o, ho⟩
theorem rows_elems {l : List (Int × Value)} (g : ∀ e ∈ l, Row P w e) : ElemsOf (mixKind P w) l := fun e he => ⟨⟨kOf e.2, plain_is (g e he).1, (g e he).2⟩, plain_scan (g e he).1⟩
theorem new_set {led : Bool} (hl : w.params.followText "set-order" = true ∨ led = true) (hg : h.get? a = some { cls := .type "set", dict := none, data := .set #[] 0 (.fresh 0 0 led), slots := #[] }) : SetQ P w h a [] :=
  ⟨_, #[], 0, _, hg, ⟨rfl, rfl, rfl⟩, rfl, fun e he => by simp at he, rfl, List.nodup_nil, by decide, rfl, List.Pairwise.nil, hl⟩
end
section
variable {P : Program} {w : World} {A : Around} {E : Value → Shared → Prop} {s : Shared} {a : Addr} {L : List L2.Key}
/-- behind the laying of a row: perhaps the whole table is laid anew -/
theorem lay_rest {g : Bool → Sem Unit} (hg : ∀ (b : Bool) (s₁ : Shared) (R : Unit → Shared → Prop), R () s₁ → wpAny (model P w) A (g b) R E s₁) {o : Obj} {es : Array (Int × Value)} {ep : Nat} {t : SetTable} (ho : s.heap.get? a = some o) (hx : o.ExactSet)
    (hd : o.data = .set es ep t) {fs : Array (Int × Value)} {u : SetTable} (gr : ∀ e ∈ fs.toList, Row P w e) (nd : (fs.toList.map fun e => kOf e.2).Nodup) (hb : fs.size < scanBound) (hf : u.fits fs.size = true) (hr : Ris u.place.toList)
    (hl : w.params.followText "set-order" = true ∨ u.led = true) {dum : Bool} {R : Option Bool → Shared → Prop}
    (q : ∀ h' M, Heap.SameBut a s.heap h' → M.Perm (fs.toList.map fun e => kOf e.2) → SetQ P w h' a M → R (some true) { s with heap := h' }) :
    wpAny (model P w) A (do
      storeSet a fs u
      if (!dum && u.tooFull) = true then do
        g (relayAll u fs (SetTable.grown fs.size)).2.2
        storeSet a (relayAll u fs (SetTable.grown fs.size)).1 (relayAll u fs (SetTable.grown fs.size)).2.1
        pure (some true)
      else pure (some true)) R E s := by
  refine wpAny_bind (wpAny_storeSet_of ho hd ?_ (fits_of_scanBound hb))
  have o1 := store_at (es' := fs) (t' := u) ho hd
  have b1 := Heap.SameBut.update s.heap a (Obj.putSet fs u)
  split
  · have p1 := relayAll_perm u fs (SetTable.grown fs.size)
    have p2 := relayAll_fits u fs (SetTable.grown fs.size)
    have p3 := relayAll_ris u fs (SetTable.grown fs.size)
    have p4 := relayAll_led u fs (SetTable.grown fs.size)
    generalize relayAll u fs (SetTable.grown fs.size) = Z at p1 p2 p3 p4 ⊢
    obtain ⟨gs, v, gv⟩ := Z
    dsimp only at p1 p2 p3 p4 ⊢
    have sz : gs.size = fs.size := by
      have z := p1.length_eq
      rw [Array.length_toList, Array.length_toList] at z
      exact z
    refine wpAny_bind (hg _ _ _ ?_)
    refine wpAny_bind (wpAny_storeSet_of o1 rfl ?_ (fits_of_scanBound (by rw [sz]; exact hb)))
    have o2 := store_at (es' := gs) (t' := v) o1 rfl
    have pk := p1.map fun e : Int × Value => kOf e.2
    refine wpAny_pure (q _ (gs.toList.map fun e => kOf e.2) (b1.trans (Heap.SameBut.update _ a _)) pk ?_)
    refine ⟨_, gs, _, v, o2, hx, rfl, fun e he => gr e (p1.mem_iff.mp he), rfl, pk.nodup_iff.mpr nd, by rw [sz]; exact hb, p2, p3, ?_⟩
    rcases hl with z | z
    · exact .inl z
    · exact .inr (p4.trans z)
  · exact wpAny_pure (q _ _ b1 (List.Perm.refl _) ⟨_, fs, _, u, o1, hx, rfl, gr, rfl, nd, hb, hf, hr, hl⟩)
/-- s.add(x) behind the hash -/
theorem add_row {x : Value} (hx : Plain x) {Q : Bool → Shared → Prop} (R : SetQ P w s.heap a L) (room : L.length + 1 < scanBound)
    (q : ∀ h' M b, Heap.SameBut a s.heap h' → SetQ P w h' a M → ((kOf x ∈ L ∧ M = L) ∨ (kOf x ∉ L ∧ M.Perm (kOf x :: L))) → Q b { s with heap := h' }) :
    wpAny (model P w) A (setAddHashed a x ((mixKind P w).hash (kOf x))) Q E s := by
  obtain ⟨o, es, ep, t, ho, hex, hd, g, rfl, nd, hb, hf, hr, hl⟩ := R
  have key := plain_is (P := P) (w := w) hx
  have el : ElemsOf (mixKind P w) es.toList := rows_elems g
  unfold setAddHashed setAddHashedIn
  refine wpAny_holding (wpAny_bind (wpAny_setState_of ho hd hf ?_))
  dsimp only
  rw [byScan_of (plain_scan hx) hb el]
  simp only [↓reduceIte]
  unfold setAddByScan
  refine wpAny_bind ?_
  refine wpAny_bind (wpAny_rule ?_)
  refine wpAny_bind (wpAny_setScan_of key ho hd hf el ?_)
  cases fi : List.findIdx? (fun e => (mixKind P w).is (kOf x) e.2) es.toList with
  | some j =>
    dsimp only
    obtain ⟨hj, pj, _⟩ := List.findIdx?_eq_some_iff_getElem.mp fi
    have hm : kOf x ∈ es.toList.map fun e => kOf e.2 := List.mem_map.mpr ⟨es.toList[j], List.getElem_mem hj, (is_iff (g _ (List.getElem_mem hj)).1 _).mp pj⟩
    exact wpAny_pure (wpAny_pure (q s.heap _ _ (Heap.SameBut.refl a s.heap) ⟨o, es, ep, t, ho, hex, hd, g, rfl, nd, hb, hf, hr, hl⟩ (.inl ⟨hm, rfl⟩)))
  | none =>
    dsimp only
    have hm : kOf x ∉ es.toList.map fun e => kOf e.2 := fun z => by
      obtain ⟨e, he, k⟩ := List.mem_map.mp z
      have c := List.findIdx?_eq_none_iff.mp fi e he
      rw [(is_iff (g e he).1 _).mpr k] at c
      cases c
    have gw : ∀ (b : Bool) {s₁ : Shared} {R : Unit → Shared → Prop}, R () s₁ → wpAny (model P w) A (match b with | true => rule "set.scan.the-table-gave-way" | false => pure ()) R E s₁ := fun b s₁ R z => by
      cases b
      · exact wpAny_pure z
      · exact wpAny_rule z
    have p1 := layNew_perm t es ((mixKind P w).hash (kOf x)) x
    have p2 := layNew_fits t es ((mixKind P w).hash (kOf x)) x
    have p3 := layNew_ris t es ((mixKind P w).hash (kOf x)) x hr
    have p4 := layNew_led t es ((mixKind P w).hash (kOf x)) x
    generalize layNew t es ((mixKind P w).hash (kOf x)) x = Z at p1 p2 p3 p4 ⊢
    obtain ⟨fs, u, dum, gv⟩ := Z
    dsimp only at p1 p2 p3 p4 ⊢
    rw [Array.toList_push] at p1
    have pc : fs.toList.Perm (((mixKind P w).hash (kOf x), x) :: es.toList) := p1.trans (List.perm_append_singleton _ _)
    have pk : (fs.toList.map fun e => kOf e.2).Perm (kOf x :: es.toList.map fun e => kOf e.2) := pc.map fun e : Int × Value => kOf e.2
    have gr : ∀ e ∈ fs.toList, Row P w e := fun e he => by
      rcases List.mem_cons.mp (pc.mem_iff.mp he) with rfl | z
      · exact ⟨hx, rfl⟩
      · exact g e z
    have n1 : (fs.toList.map fun e => kOf e.2).Nodup := pk.nodup_iff.mpr (List.nodup_cons.mpr ⟨hm, nd⟩)
    have sz : fs.size < scanBound := by
      have z := pc.length_eq
      rw [Array.length_toList, List.length_cons] at z
      rw [List.length_map] at room
      omega
    have ld : w.params.followText "set-order" = true ∨ u.led = true := by
      rcases hl with z | z
      · exact .inl z
      · exact .inr (p4.trans z)
    have fin : ∀ h' M, Heap.SameBut a s.heap h' → M.Perm (fs.toList.map fun e => kOf e.2) → SetQ P w h' a M → Q true { s with heap := h' } := fun h' M sb pm r => q h' M true sb r (.inr ⟨hm, pm.trans pk⟩)
    refine wpAny_bind (gw _ ?_)
    split
    · refine wpAny_bind ?_
      rw [hashByValue_scannable 8 (plain_scan hx)]
      refine wpAny_pure ?_
      refine lay_rest (fun b s₁ R z => gw b z) ho hex hd gr n1 sz ?_ ?_ ?_ fun h' M sb pm r => ?_
      · split
        · exact p2
        · exact SetTable.fits_plain_off p2
      · split <;> exact p3
      · split <;> exact ld
      · dsimp only
        exact wpAny_pure (fin h' M sb pm r)
    · refine wpAny_bind (wpAny_pure ?_)
      simp only [↓reduceIte]
      refine lay_rest (fun b s₁ R z => gw b z) ho hex hd gr n1 sz p2 p3 ld fun h' M sb pm r => ?_
      dsimp only
      exact wpAny_pure (fin h' M sb pm r)
/-- the loop of set(xs) -/
theorem fill {R : Result → Shared → Prop} {I : Addr} {fp wr : List Addr} {G : Array GenState → Array GenState → Prop} {n : Nat} {V : Nat → Value → Prop} {St : Nat → Shared → Prop} (W : WalksS P w A.in1 I fp wr G n V St) (S : Addr) (hS : S ∉ fp)
    (ks : List L2.Key) (hn : ks.length = n) (hb : n < 1000) (hv : ∀ i v, V i v → Plain v ∧ ks[i]? = some (kOf v)) :
    ∀ (k i : Nat) (s : Shared) (M : List L2.Key), n - i = k → i ≤ n → St i s → SetQ P w s.heap S M → M.length ≤ i → (∀ z, z ∈ M ↔ z ∈ ks.take i) →
      (∀ s' M', Moved (S :: wr) G s s' → SetQ P w s'.heap S M' → (∀ z, z ∈ M' ↔ z ∈ ks) → R (.ok (.ret .none)) s') → codeAny (model P w) A (.builtin "set.update.loop" ⟨[.ref S, .ref I], []⟩) R s := by
  have hw : S ∉ wr := fun z => hS (W.sub _ z)
  have sub : ∀ b ∈ wr, b ∈ S :: wr := fun b z => List.mem_cons_of_mem _ z
  intro k
  induction k with
  | zero =>
    intro i s M hk hi st hM _ hz q
    have e : i = n := by omega
    subst e
    refine codeAny_builtin PyProof.Rows.F.entry_set_update_loop ?_
    rw [Around.under_plainId PyProof.Rows.F.plain_set_update_loop _]
    show wpAny _ A.in1 (pyNext (.ref I) >>= _) _ _ s
    refine wpAny_bind (W.done s _ _ st fun s' mv => ?_)
    show wpAny _ A.in1 (ret Value.none) _ _ s'
    refine wpAny_pure (q s' M (mv.mono sub) (hM.at fun o z => mv.heap S o hw z) fun z => ?_)
    rw [hz z, ← hn, List.take_length]
  | succ k ih =>
    intro i s M hk hi st hM hl hz q
    have lt : i < n := by omega
    refine codeAny_builtin PyProof.Rows.F.entry_set_update_loop ?_
    rw [Around.under_plainId PyProof.Rows.F.plain_set_update_loop _]
    show wpAny _ A.in1 (pyNext (.ref I) >>= _) _ _ s
    refine wpAny_bind (W.item i s _ _ lt st fun v s' hP st' mv => ?_)
    obtain ⟨pl, kv⟩ := hv i v hP
    have hM' : SetQ P w s'.heap S M := hM.at fun o z => mv.heap S o hw z
    show wpAny _ A.in1 (holding [v] (setAdd S v) >>= _) _ _ s'
    refine wpAny_bind (wpAny_holding ?_)
    unfold setAdd
    refine wpAny_holding ?_
    refine wpAny_bind ((mixKind P w).pyHash (plain_is pl) ?_)
    refine add_row (s := { s' with toks := s'.toks + 1 }) pl hM' (by unfold scanBound; omega) fun h' M' b sb r hM2 => ?_
    have tk : ks.take (i + 1) = ks.take i ++ [kOf v] := by
      obtain ⟨hlt, e⟩ := List.getElem?_eq_some_iff.mp kv
      rw [← e]
      exact List.take_succ_eq_append_getElem hlt
    have l2 : M'.length ≤ i + 1 := by
      rcases hM2 with ⟨_, rfl⟩ | ⟨_, pm⟩
      · omega
      · rw [pm.length_eq, List.length_cons]
        omega
    have z2 : ∀ z, z ∈ M' ↔ z ∈ ks.take (i + 1) := fun z => by
      rw [tk, List.mem_append, List.mem_singleton, ← hz z]
      rcases hM2 with ⟨hm, rfl⟩ | ⟨_, pm⟩
      · exact ⟨.inl, fun y => y.elim id fun e => e ▸ hm⟩
      · rw [pm.mem_iff, List.mem_cons]
        exact Or.comm
    refine wpAny_pure ⟨plainId_quiet PyProof.Rows.F.plain_set_update_loop _, ih (i + 1) _ M' (by omega) lt (W.frame _ s' _ _ st' (Nat.le_succ _) fun c hc o z => ?_) r l2 z2 fun s2 M2 mv2 r2 f2 => ?_⟩
    · exact (sb.2 c fun e => hS (e ▸ hc)).trans z
    · refine q s2 M2 (Moved.trans W.gtrans ((mv.mono sub).then_heap (Nat.le_succ _) fun c o hc z => ?_) mv2) r2 f2
      exact (sb.2 c fun e => hc (e ▸ List.mem_cons_self)).trans z
end
end Yk

namespace Yk
open PySem PySem.Spec PyProof.Rows L2
abbrev ob0 (w : World) : Obj := { cls := .type "set", dict := none, data := .set #[] 0 (.fresh 0 0 (!w.params.followText "set-order")) }
section
variable {P : Program} {w : World} {A : Around} {E : Value → Shared → Prop} {s : Shared}

set_option maxHeartbeats 8000000 in
/-- set(x), x a list of ints and texts -/
theorem call_set_list {l : Addr} {items : Array Value} {ks : List L2.Key} {Q : Value → Shared → Prop} (hh : A.handled = none) (hl : s.heap.IsList l items) (hk : ks.length = items.size) (hv : ∀ (i : Nat) (v : Value), items[i]? = some v → Plain v ∧ ks[i]? = some (kOf v)) (few : ks.length < 1000)
    (q : ∀ (h' : Heap) (tk : Nat) (M : List L2.Key), SetQ P w h' s.heap.objs.size M → (∀ z, z ∈ M ↔ z ∈ ks) → (∀ b o, s.heap.get? b = some o → h'.get? b = some o) → Q (.ref s.heap.objs.size) { s with heap := h', toks := tk }) :
    wpAny (model P w) A (call (.type "set") [.ref l]) Q E s := by
  obtain ⟨c, tl, mr⟩ := PySem.F.called_set.mro
  have md := PySem.F.called_set.made
  have sb := PySem.F.called_set.sub
  refine wpAny_call (codeAny_of_tree ?_)
  show wpAny _ _ (callAny (.type "set") _) _ _ _
  refine wpAny_pure ⟨Code.quiet_builtin _ (by decide +kernel), codeAny_builtin PySem.F.entry_type_call ?_⟩
  rw [Around.under_plain (weight_type_call_type "set" [.ref l] []) rfl]
  have t1 := PySem.F.called_set.notType
  have t2 := PySem.F.called_set.canCreate
  have t3 := PySem.F.typeCall_set_1 (.ref l)
  repeat (any_goals (first | assumption | wp_step))
  refine codeAny_mono (code_set_led1 (.ref l) (E := E) (Q₁ := fun ob s₁ => ob = .ref s.heap.objs.size ∧ s₁ = { s with heap := s.heap.push (ob0 w) }) ⟨rfl, rfl⟩) fun r s₁ hr => ?_
  cases r with
  | error e => exact hr
  | ok fl =>
    cases fl with
    | ret ob =>
      obtain ⟨rfl, rfl⟩ := hr
      have gS : (s.heap.push (ob0 w)).get? s.heap.objs.size = some (ob0 w) := Heap.get?_push_size _ rfl
      have ty : Shared.TypeIs { s with heap := s.heap.push (ob0 w) } (.ref s.heap.objs.size) "set" := ⟨_, gS, rfl⟩
      have i1 := PySem.F.called_set.init.lookup
      have i2 := PySem.F.called_set.init.bind (.ref s.heap.objs.size)
      repeat (any_goals (first | assumption | wp_step))
      refine codeAny_mono (codeAny_call_builtin (R := wants (fun r s₂ => r = .none ∧ ∃ h' tk M, s₂ = { s with heap := h', toks := tk } ∧ SetQ P w h' s.heap.objs.size M ∧ (∀ z, z ∈ M ↔ z ∈ ks) ∧ (∀ b o, s.heap.get? b = some o → h'.get? b = some o)) E)
        PySem.F.called_set.init.plain PySem.F.entry_set_init (check_set_init_1 ty ?_)) fun r₂ s₂ hr₂ => ?_
      · obtain ⟨ol, go, cl, nl, da⟩ := hl
        obtain ⟨oc, od, odt, osl⟩ := ol
        simp only at cl da
        subst cl
        subst da
        have g1 : (s.heap.push (ob0 w)).get? l = some { cls := .type "list", dict := od, data := .seq items nl, slots := osl } := Heap.get?_push_of_some _ go
        have u1 := PySem.F.sub_list_set
        have u2 := PySem.F.sub_list_frozenset
        have u3 : (Value.type "list" == Value.type "dict") = false := by decide
        have l1 : (s.heap.push (ob0 w)).IsList l items := ⟨_, g1, rfl, nl, rfl⟩
        unfold Builtin.«set.__init__» noKeywords Builtin.Frozenset.updateFrom
        generalize hPI : pyIter = PI
        wp_walk
        subst hPI
        refine wpAny_pyIter_list l1 ?_
        refine wpAny_bind (wpAny_runValue ?_)
        have lt : l < s.heap.objs.size := Heap.lt_size go
        have h3 : A.in1.in1.in1.handled = none := by simp [hh]
        have z1 : (s.heap.push (ob0 w)).objs.size = s.heap.objs.size + 1 := Heap.size_push ..
        have n1 : l ≠ (s.heap.push (ob0 w)).objs.size := by
          rw [z1]
          exact Nat.ne_of_lt (Nat.lt_succ_of_lt lt)
        have n2 : s.heap.objs.size ∉ [(s.heap.push (ob0 w)).objs.size, l] := by
          rw [z1]
          simp only [List.mem_cons, List.not_mem_nil, or_false, not_or]
          exact ⟨Nat.ne_of_lt (Nat.lt_succ_self _), Nat.ne_of_gt lt⟩
        refine fill ((Walks.list h3 _ l n1 items).toS) s.heap.objs.size n2 ks hk (by omega) hv (items.size - 0) 0 _ [] rfl (Nat.zero_le _) ⟨⟨_, Heap.get?_push_size _ rfl, rfl, rfl⟩, l1.push _⟩ (new_set (led := !w.params.followText "set-order") ?_ (Heap.get?_push_of_some _ gS)) (Nat.le_refl _)
          (fun z => by simp) fun s' M mv r f => ?_
        · cases w.params.followText "set-order"
          · exact .inr rfl
          · exact .inl rfl
        · obtain ⟨h', g2, d', tk', os'⟩ := s'
          have eg : g2 = s.gens := mv.gens
          have ed : d' = s.drawn := mv.drawn
          have eo : os' = s.os := mv.os
          subst eg
          subst ed
          subst eo
          show wpAny _ _ _ _ _ _
          refine wpAny_pure ?_
          show wpAny _ _ (ret Value.none) _ _ _
          refine wpAny_pure ⟨rfl, h', tk', M, rfl, r, f, fun b o e => ?_⟩
          have hb := Heap.lt_size e
          refine mv.heap b o ?_ (Heap.get?_push_of_some _ (Heap.get?_push_of_some _ e))
          rw [z1]
          simp only [List.mem_cons, List.not_mem_nil, or_false, not_or]
          exact ⟨Nat.ne_of_lt hb, Nat.ne_of_lt (Nat.lt_succ_of_lt hb)⟩
      · cases r₂ with
        | error e => exact hr₂
        | ok fl₂ =>
          cases fl₂ with
          | ret r =>
            obtain ⟨rfl, h', tk, M, rfl, r, f, k⟩ := hr₂
            repeat (any_goals (first | assumption | wp_step))
            exact q _ _ M r f k
          | _ => exact hr₂.elim
    | _ => exact hr.elim

set_option maxHeartbeats 8000000 in
/-- set(x), x a tuple of ints and texts -/
theorem call_set_tuple {l : Addr} {items : Array Value} {ks : List L2.Key} {Q : Value → Shared → Prop} (hh : A.handled = none) (hl : s.heap.IsTuple l items) (hk : ks.length = items.size) (hv : ∀ (i : Nat) (v : Value), items[i]? = some v → Plain v ∧ ks[i]? = some (kOf v)) (few : ks.length < 1000)
    (q : ∀ (h' : Heap) (tk : Nat) (M : List L2.Key), SetQ P w h' s.heap.objs.size M → (∀ z, z ∈ M ↔ z ∈ ks) → (∀ b o, s.heap.get? b = some o → h'.get? b = some o) → Q (.ref s.heap.objs.size) { s with heap := h', toks := tk }) :
    wpAny (model P w) A (call (.type "set") [.ref l]) Q E s := by
  obtain ⟨c, tl, mr⟩ := PySem.F.called_set.mro
  have md := PySem.F.called_set.made
  have sb := PySem.F.called_set.sub
  refine wpAny_call (codeAny_of_tree ?_)
  show wpAny _ _ (callAny (.type "set") _) _ _ _
  refine wpAny_pure ⟨Code.quiet_builtin _ (by decide +kernel), codeAny_builtin PySem.F.entry_type_call ?_⟩
  rw [Around.under_plain (weight_type_call_type "set" [.ref l] []) rfl]
  have t1 := PySem.F.called_set.notType
  have t2 := PySem.F.called_set.canCreate
  have t3 := PySem.F.typeCall_set_1 (.ref l)
  repeat (any_goals (first | assumption | wp_step))
  refine codeAny_mono (code_set_led1 (.ref l) (E := E) (Q₁ := fun ob s₁ => ob = .ref s.heap.objs.size ∧ s₁ = { s with heap := s.heap.push (ob0 w) }) ⟨rfl, rfl⟩) fun r s₁ hr => ?_
  cases r with
  | error e => exact hr
  | ok fl =>
    cases fl with
    | ret ob =>
      obtain ⟨rfl, rfl⟩ := hr
      have gS : (s.heap.push (ob0 w)).get? s.heap.objs.size = some (ob0 w) := Heap.get?_push_size _ rfl
      have ty : Shared.TypeIs { s with heap := s.heap.push (ob0 w) } (.ref s.heap.objs.size) "set" := ⟨_, gS, rfl⟩
      have i1 := PySem.F.called_set.init.lookup
      have i2 := PySem.F.called_set.init.bind (.ref s.heap.objs.size)
      repeat (any_goals (first | assumption | wp_step))
      refine codeAny_mono (codeAny_call_builtin (R := wants (fun r s₂ => r = .none ∧ ∃ h' tk M, s₂ = { s with heap := h', toks := tk } ∧ SetQ P w h' s.heap.objs.size M ∧ (∀ z, z ∈ M ↔ z ∈ ks) ∧ (∀ b o, s.heap.get? b = some o → h'.get? b = some o)) E)
        PySem.F.called_set.init.plain PySem.F.entry_set_init (check_set_init_1 ty ?_)) fun r₂ s₂ hr₂ => ?_
      · obtain ⟨ol, go, cl, nl, da⟩ := hl
        obtain ⟨oc, od, odt, osl⟩ := ol
        simp only at cl da
        subst cl
        subst da
        have g1 : (s.heap.push (ob0 w)).get? l = some { cls := .type "tuple", dict := od, data := .seq items nl, slots := osl } := Heap.get?_push_of_some _ go
        have u1 := PySem.F.sub_tuple_set
        have u2 := PySem.F.sub_tuple_frozenset
        have u3 : (Value.type "tuple" == Value.type "dict") = false := by decide
        have l1 : (s.heap.push (ob0 w)).IsTuple l items := ⟨_, g1, rfl, nl, rfl⟩
        unfold Builtin.«set.__init__» noKeywords Builtin.Frozenset.updateFrom
        generalize hPI : pyIter = PI
        wp_walk
        subst hPI
        refine wpAny_pyIter_tuple l1 ?_
        refine wpAny_bind (wpAny_runValue ?_)
        have lt : l < s.heap.objs.size := Heap.lt_size go
        have h3 : A.in1.in1.in1.handled = none := by simp [hh]
        have z1 : (s.heap.push (ob0 w)).objs.size = s.heap.objs.size + 1 := Heap.size_push ..
        have n1 : l ≠ (s.heap.push (ob0 w)).objs.size := by
          rw [z1]
          exact Nat.ne_of_lt (Nat.lt_succ_of_lt lt)
        have n2 : s.heap.objs.size ∉ [(s.heap.push (ob0 w)).objs.size, l] := by
          rw [z1]
          simp only [List.mem_cons, List.not_mem_nil, or_false, not_or]
          exact ⟨Nat.ne_of_lt (Nat.lt_succ_self _), Nat.ne_of_gt lt⟩
        refine fill ((Walks.tuple h3 _ l n1 items).toS) s.heap.objs.size n2 ks hk (by omega) hv (items.size - 0) 0 _ [] rfl (Nat.zero_le _) ⟨⟨_, Heap.get?_push_size _ rfl, rfl, rfl⟩, l1.push _⟩ (new_set (led := !w.params.followText "set-order") ?_ (Heap.get?_push_of_some _ gS)) (Nat.le_refl _)
          (fun z => by simp) fun s' M mv r f => ?_
        · cases w.params.followText "set-order"
          · exact .inr rfl
          · exact .inl rfl
        · obtain ⟨h', g2, d', tk', os'⟩ := s'
          have eg : g2 = s.gens := mv.gens
          have ed : d' = s.drawn := mv.drawn
          have eo : os' = s.os := mv.os
          subst eg
          subst ed
          subst eo
          show wpAny _ _ _ _ _ _
          refine wpAny_pure ?_
          show wpAny _ _ (ret Value.none) _ _ _
          refine wpAny_pure ⟨rfl, h', tk', M, rfl, r, f, fun b o e => ?_⟩
          have hb := Heap.lt_size e
          refine mv.heap b o ?_ (Heap.get?_push_of_some _ (Heap.get?_push_of_some _ e))
          rw [z1]
          simp only [List.mem_cons, List.not_mem_nil, or_false, not_or]
          exact ⟨Nat.ne_of_lt hb, Nat.ne_of_lt (Nat.lt_succ_of_lt hb)⟩
      · cases r₂ with
        | error e => exact hr₂
        | ok fl₂ =>
          cases fl₂ with
          | ret r =>
            obtain ⟨rfl, h', tk, M, rfl, r, f, k⟩ := hr₂
            repeat (any_goals (first | assumption | wp_step))
            exact q _ _ M r f k
          | _ => exact hr₂.elim
    | _ => exact hr.elim

end
/-! ### as rules -/
def SetKO (P : Program) (w : World) (a : Addr) (L : List L2.Key) : HO := .ext fun h => SetQ P w h a L
theorem setKO_new {P : Program} {w : World} {H : Hp} {h : Heap} {a : Addr} {L : List L2.Key} (R : SetQ P w h a L) : ObjOk P w H h a (SetKO P w a L) := ⟨R, R.there, fun h1 h2 p k => SetQ.at p k⟩
section
variable {X : Cx}
theorem setKO_get {pins : List (Addr × Obj)} {σ : L2.St} {H : Hp} {s : Shared} {a : Addr} {L : List L2.Key} (I : Inv X pins σ H s) (ha : H a = some (SetKO X.prog X.w a L)) : SetQ X.prog X.w s.heap a L := (I.hok a _ ha).1
theorem keys_at {ks : List L2.Key} {us : List Value} (r : Vals (ks.map kV) us) : ks.length = us.toArray.size ∧ ∀ (i : Nat) (v : Value), us.toArray[i]? = some v → Plain v ∧ ks[i]? = some (kOf v) := by
  have hl : ks.length = us.length := by
    have z := r.length
    rw [List.length_map] at z
    exact z
  refine ⟨by simpa using hl, fun i v hv => ?_⟩
  have hv' : us[i]? = some v := by simpa using hv
  have hi : i < ks.length := by
    rw [hl]
    exact (List.getElem?_eq_some_iff.mp hv').1
  obtain ⟨u, hu, ru⟩ := r.get (i := i) (x := kV ks[i]) (by rw [List.getElem?_map, List.getElem?_eq_getElem hi] <;> rfl)
  rw [hv'] at hu
  cases hu
  obtain ⟨p, e⟩ := rel_plain ru
  exact ⟨p, by rw [e]; exact List.getElem?_eq_getElem hi⟩
/-- set(xs), a list or a tuple of ints and texts -/
def rSetK (K : PySem.W.Frag) (P : Program) (w : World) : List V → Hp → VK → Prop := fun xs H Q => ∃ (a : Addr) (ks : List L2.Key), xs = [.ref a] ∧ (SqL K H a (ks.map kV) ∨ SqT K H a (ks.map kV)) ∧ ks.length < 1000 ∧
  ∀ (p : Addr) (M : List L2.Key), M.Nodup → (∀ z, z ∈ M ↔ z ∈ ks) → H p = none → Q (.ref p) (upd H p (SetKO P w p M))
theorem SetQ.nd {P : Program} {w : World} {h : Heap} {a : Addr} {L : List L2.Key} (R : SetQ P w h a L) : L.Nodup := let ⟨_, _, _, _, _, _, _, _, _, n, _⟩ := R; n
theorem cr_setK (hc : X.calm = true) : CallR X (.type "set") (rSetK X.K X.prog X.w) := by
  intro pins s σ H xs us Q I r h
  obtain ⟨a, ks, rfl, hs, few, q⟩ := h
  rw [Vals.ref1 r]
  have fin : ∀ (h' : Heap) (tk : Nat) (M : List L2.Key), SetQ X.prog X.w h' s.heap.objs.size M → (∀ z, z ∈ M ↔ z ∈ ks) → (∀ b o, s.heap.get? b = some o → h'.get? b = some o) → EP X pins σ Q (.ref s.heap.objs.size) { s with heap := h', toks := tk } := fun h' tk M R f k =>
    ⟨.ref _, upd H s.heap.objs.size (SetKO X.prog X.w s.heap.objs.size M), I.laid (t' := tk) k (Nat.le_refl _) (setKO_new R), rfl, q _ M R.nd f (I.hok.fresh (Nat.le_refl _))⟩
  rcases hs with hs | hs
  · obtain ⟨its, rv, pl, _⟩ := I.list hs
    obtain ⟨e, v⟩ := keys_at rv
    exact call_set_list (I.ok.hd hc) pl.isList e v few fin
  · obtain ⟨its, rv, pl, _⟩ := I.tuple hs
    obtain ⟨e, v⟩ := keys_at rv
    exact call_set_tuple (I.ok.hd hc) (show s.heap.IsTuple a its.toArray from pl) e v few fin
end
end Yk

namespace Yk
open PySem PySem.Spec PyProof.Rows L2
section
variable {P : Program} {w : World} {A : Around} {E : Value → Shared → Prop} {s : Shared} {a : Addr} {L : List L2.Key}
/-- what sorted makes of a set: the list of its members, in some order, put in order by list.sort -/
theorem sorted_of {Q : Value → Shared → Prop} (R : SetQ P w s.heap a L) (hh : A.handled = none)
    (q : ∀ (s1 : Shared) (vs : List Value), (∀ b o, s.heap.get? b = some o → s1.heap.get? b = some o) → s.heap.objs.size ≤ s1.heap.objs.size → s1.gens = s.gens → s1.os = s.os → (∀ v ∈ vs, Plain v) → (vs.map kOf).Perm L →
      wpAny (model P w) A.in1 (call (.builtin "list.sort") [.ref s1.heap.objs.size]) (fun _ s2 => Q (.ref s1.heap.objs.size) s2) E { s1 with heap := s1.heap.push (seqObj "list" vs.toArray 0) }) :
    wpAny (model P w) A (call (.builtin "sorted") [.ref a]) Q E s := by
  obtain ⟨o, es, ep, t, ho, hex, hd, g, rfl, nd, hb, hf, hr, hl⟩ := R
  refine Calls.call_function_entry kind_sorted plain_sorted entry_sorted (args_sorted1 _) ?_
  unfold Builtin.«sorted»
  refine wpAny_bind (m := checkCount "sorted" 1 1 _) (wpAny_pure ?_)
  refine wpAny_bind (collect_set (A := A.in1) hh ⟨o, ho, hex.1, hd⟩ hf hb hr hl fun s1 vs k1 hz g1 o1 pm => ?_)
  have sz : vs.length = es.size := by
    have z := pm.length_eq
    rw [List.length_map, Array.length_toList] at z
    exact z
  have pl : ∀ v ∈ vs, Plain v := fun v hv => by
    obtain ⟨e, he, rfl⟩ := List.mem_map.mp (pm.mem_iff.mp hv)
    exact (g e he).1
  have pk : (vs.map kOf).Perm (es.toList.map fun e => kOf e.2) := by
    have z := pm.map kOf
    rw [List.map_map] at z
    exact z
  refine wpAny_bind (wpAny_newList ?_ (by rw [sz]; exact fits_of_scanBound hb))
  refine wpAny_bind (wpAny_holding (wpAny_mono (q s1 vs k1 hz g1 o1 pl pk) (fun r s2 z => ?_) fun _ _ z => z))
  exact wpAny_pure ⟨_, rfl, z⟩
end
section
variable {X : Cx}
theorem ints_keys : ∀ {vs : List Value} {ns : List Int}, (∀ v ∈ vs, Plain v) → vs.map kOf = ns.map Sum.inl → IntsAre vs ns
  | [], [], _, _ => .nil
  | v :: vs, n :: ns, p, e => by
    injection e with e1 e2
    rcases p v List.mem_cons_self with ⟨i, t, rfl⟩ | ⟨x, t, rfl⟩
    · have : i = n := Sum.inl.inj e1
      subst this
      exact .cons _ _ (ints_keys (fun u hu => p u (List.mem_cons_of_mem _ hu)) e2)
    · cases e1
theorem strs_keys : ∀ {vs : List Value} {ns : List Str}, (∀ v ∈ vs, Plain v) → vs.map kOf = ns.map Sum.inr → StrsAre vs ns
  | [], [], _, _ => .nil
  | v :: vs, n :: ns, p, e => by
    injection e with e1 e2
    rcases p v List.mem_cons_self with ⟨i, t, rfl⟩ | ⟨x, t, rfl⟩
    · cases e1
    · have : x = n := Sum.inr.inj e1
      subst this
      exact .cons _ _ (strs_keys (fun u hu => p u (List.mem_cons_of_mem _ hu)) e2)
theorem perm_ints {l : List L2.Key} {ms : List Int} (h : l.Perm (ms.map Sum.inl)) : ∃ ns : List Int, l = ns.map Sum.inl ∧ ns.Perm ms := by
  have all : ∀ k ∈ l, ∃ n : Int, k = Sum.inl n := fun k hk => by
    obtain ⟨n, _, e⟩ := List.mem_map.mp (h.mem_iff.mp hk)
    exact ⟨n, e.symm⟩
  have e : l = (l.map fun k => match k with | Sum.inl n => n | Sum.inr _ => (0 : Int)).map Sum.inl := by
    rw [List.map_map]
    conv => lhs; rw [← List.map_id l]
    refine List.map_congr_left fun k hk => ?_
    obtain ⟨n, rfl⟩ := all k hk
    rfl
  refine ⟨_, e, ?_⟩
  have z := h.map fun k : L2.Key => match k with | Sum.inl n => n | Sum.inr _ => (0 : Int)
  rw [List.map_map] at z
  have e2 : ms.map ((fun k : L2.Key => match k with | Sum.inl n => n | Sum.inr _ => (0 : Int)) ∘ Sum.inl) = ms := by
    conv => rhs; rw [← List.map_id ms]
    exact List.map_congr_left fun _ _ => rfl
  rw [e2] at z
  exact z
theorem perm_strs {l : List L2.Key} {ms : List Str} (h : l.Perm (ms.map Sum.inr)) : ∃ ns : List Str, l = ns.map Sum.inr ∧ ns.Perm ms := by
  have all : ∀ k ∈ l, ∃ n : Str, k = Sum.inr n := fun k hk => by
    obtain ⟨n, _, e⟩ := List.mem_map.mp (h.mem_iff.mp hk)
    exact ⟨n, e.symm⟩
  have e : l = (l.map fun k => match k with | Sum.inl _ => Str.empty | Sum.inr n => n).map Sum.inr := by
    rw [List.map_map]
    conv => lhs; rw [← List.map_id l]
    refine List.map_congr_left fun k hk => ?_
    obtain ⟨n, rfl⟩ := all k hk
    rfl
  refine ⟨_, e, ?_⟩
  have z := h.map fun k : L2.Key => match k with | Sum.inl _ => Str.empty | Sum.inr n => n
  rw [List.map_map] at z
  have e2 : ms.map ((fun k : L2.Key => match k with | Sum.inl _ => Str.empty | Sum.inr n => n) ∘ Sum.inr) = ms := by
    conv => rhs; rw [← List.map_id ms]
    exact List.map_congr_left fun _ _ => rfl
  rw [e2] at z
  exact z
/-- sorted of such a set, fewer than 64 members -/
def rSortedK (P : Program) (w : World) : List V → Hp → VK → Prop := fun vs H Q => ∃ (a : Addr) (L : List L2.Key), vs = [.ref a] ∧ H a = some (SetKO P w a L) ∧ L.length < 64 ∧
  ((∃ ms : List Int, L = ms.map Sum.inl ∧ ∀ (ns : List Int) (p : Addr), ns.Perm ms → ns.Pairwise (· ≤ ·) → H p = none → Q (.ref p) (upd H p (.lst (ns.map V.int)))) ∨
   ∃ ms : List Str, L = ms.map Sum.inr ∧ ∀ (ns : List Str) (p : Addr), ns.Perm ms → sortedS ns = true → H p = none → Q (.ref p) (upd H p (.lst (ns.map V.str))))
theorem cr_sortedK (hc : X.calm = true) : CallR X (.builtin "sorted") (rSortedK X.prog X.w) := by
  intro pins s σ H xs us Q I r h
  obtain ⟨a, L, rfl, ha, h64, q⟩ := h
  rw [Vals.ref1 r]
  refine sorted_of (setKO_get I ha) (I.ok.hd hc) fun s1 vs k1 hz g1 o1 pl pk => ?_
  have hv : vs.length < 64 := by
    have z := pk.length_eq
    rw [List.length_map] at z
    omega
  have gL : (s1.heap.push (seqObj "list" vs.toArray 0)).get? s1.heap.objs.size = some (seqObj "list" vs.toArray 0) := Heap.get?_push_size _ rfl
  have fin : ∀ (ys : List V) (out : Array Value), Vals ys out.toList → ys.length ≤ sizeLine → Q (.ref s1.heap.objs.size) (upd H s1.heap.objs.size (.lst ys)) →
      EP X pins σ Q (.ref s1.heap.objs.size) { s1 with heap := sortedHeap (s1.heap.push (seqObj "list" vs.toArray 0)) s1.heap.objs.size vs out } := fun ys out rv hy z => by
    obtain ⟨c, hcc⟩ := sortedHeap_at (vs := vs) (out := out) gL
    have k : ∀ b u, s.heap.get? b = some u → (sortedHeap (s1.heap.push (seqObj "list" vs.toArray 0)) s1.heap.objs.size vs out).get? b = some u := fun b u e => by
      have e1 := k1 b u e
      have lt := Heap.lt_size e1
      rw [sortedHeap_old (Nat.ne_of_lt lt) (by rw [size_push']; exact Nat.lt_succ_of_lt lt)]
      exact Heap.get?_push_of_some _ e1
    have hn := I.hok.fresh hz
    have J : Inv X pins σ (upd H s1.heap.objs.size (.lst ys)) { s with heap := sortedHeap (s1.heap.push (seqObj "list" vs.toArray 0)) s1.heap.objs.size vs out, gens := s1.gens, drawn := s1.drawn, toks := s1.toks } :=
      I.call (ch := []) (Un.laid k hz hn) (I.hok.laid k hz ⟨hy, out.toList, c, rv, hcc⟩) (by rw [g1]; exact I.bare) (fun _ z => nomatch z)
    have e : { s1 with heap := sortedHeap (s1.heap.push (seqObj "list" vs.toArray 0)) s1.heap.objs.size vs out } = { s with heap := sortedHeap (s1.heap.push (seqObj "list" vs.toArray 0)) s1.heap.objs.size vs out, gens := s1.gens, drawn := s1.drawn, toks := s1.toks } := by
      cases s1
      cases s
      cases o1
      rfl
    rw [e]
    exact ⟨.ref _, _, J, rfl, z⟩
  rcases q with ⟨ms, rfl, q⟩ | ⟨ms, rfl, q⟩
  · obtain ⟨ns, en, pn⟩ := perm_ints pk
    have iv := ints_keys pl en
    refine wpAny_call_entry slot_list_sort ⟨_, gL, rfl⟩ entry_list_sort (list_sort_tree gL iv hv fun out ns' a1 a2 a3 => ⟨_, rfl, ?_⟩) (args_list_sort _)
    refine fin (ns'.map V.int) out (vals_of_ints a1) ?_ (q ns' _ (a2.trans pn) a3 (I.hok.fresh hz))
    rw [List.length_map, (a2.trans pn).length_eq]
    rw [List.length_map] at h64
    exact Nat.le_trans (Nat.le_of_lt h64) (by decide)
  · obtain ⟨ns, en, pn⟩ := perm_strs pk
    have iv := strs_keys pl en
    refine wpAny_call_entry slot_list_sort ⟨_, gL, rfl⟩ entry_list_sort (list_sort_treeK strKind_oneLt gL iv.keysOf (fun v₁ v₂ rest e => keyKind_strs (by rw [← e]; exact iv)) hv fun st' hp hs => ?_) (args_list_sort _)
    obtain ⟨ys, b1, b2, b3⟩ := sorted_out_str iv hp hs
    refine ⟨_, rfl, ?_⟩
    refine fin (ys.map V.str) _ (vals_of_strs b1) ?_ (q ys _ (b2.trans pn) b3 (I.hok.fresh hz))
    rw [List.length_map, (b2.trans pn).length_eq]
    rw [List.length_map] at h64
    exact Nat.le_trans (Nat.le_of_lt h64) (by decide)
end
end Yk

namespace Kx
open PySem PySem.Spec PyProof.Rows L2
def topS (i : Nat) : Stmt := PySem.Challenge.pw_countedonce_k05_whole_checked.main.body.getD i (.Pass ⟨0, 0, 0, 0⟩)
abbrev sCell : Stmt := topS 22
abbrev sDraw : Stmt := topS 23
abbrev sNumb : Stmt := topS 24
abbrev sNext : Stmt := topS 25
abbrev sPick : Stmt := topS 26
section
variable {P : Program} {w : World} {K : PySem.W.Frag} {mg : Str → Option Value} {base : Heap}
/-- a def of the top that keeps a promise, and may be called by its name -/
structure Ready (P : Program) (w : World) (K : PySem.W.Frag) (mg : Str → Option Value) (base : Heap) (k : Nat) (x : Str) (ps : List Str) (sp : Sp) : Prop where
  ex : ∃ f fd, FnOk P w K mg base CX0 k f fd ps sp ∧ Binds K fd ps [] ∧ mg x = some (.ref f) ∧ PySem.W.keepIn K (.ref f) = true
end
theorem pe_fn {X : Cx} {k : Nat} {x : Str} {ps : List Str} {sp : Sp} {p pos : Pos} {e : Expr} {es : List Expr} {t : TA} (G : Ready X.prog X.w X.K X.mg X.base k x ps sp) (hr : Room k X.A) (ha : PA X (e :: es) t) (hg : Gl X x := by rfl)
    (hdb : (x == ("__debug__" : Str)) = false := by decide) (he : starEach (e :: es) X.env = (false, eval e X.env) :: starEach es X.env := by rfl) (hpl : (backTo pos (starEach es X.env)).any (·.1) = false := by rfl) :
    PE X (.Call (.Name x p) (e :: es) [] pos) (tCall sp [] E0 t) := by
  obtain ⟨f, fd, h, hb, hm, hk⟩ := G.ex
  exact pe_call h hr hg hm hk hb .nil pass0 ha hdb he hpl
/-- all that was tracked is as it was, but what stands at d -/
def But (d : Addr) (H H' : Hp) : Prop := ∀ b o, b ≠ d → H b = some o → H' b = some o
theorem But.refl (d : Addr) (H : Hp) : But d H H := fun _ _ _ h => h
theorem But.trans {d : Addr} {H H1 H2 : Hp} (a : But d H H1) (b : But d H1 H2) : But d H H2 := fun c o n h => b c o n (a c o n h)
theorem same_but {d : Addr} {H H' : Hp} (a : Same H H') : But d H H' := fun c o _ h => a c o h
theorem same_upd {H : Hp} {p : Addr} {o : HO} (h : H p = none) : Same H (upd H p o) := fun b x e => by
  rw [upd_ne (ne_of_none e h)]
  exact e
section
variable {P : Program} {w : World} {K : PySem.W.Frag} {mg : Str → Option Value} {base : Heap}
/-! ### the law's draws -/
def spCell (K : PySem.W.Frag) : Sp := fun vs H Q _ => ∃ (a : Addr) (ns : List Int) (k : Int), vs = [.ref a, .int k] ∧ SqL K H a (ns.map V.int) ∧ 0 ≤ k ∧ ∀ c : Int, Q (.int c) H
theorem sc_cell : FnScope ["script", "k"] ["script", "k"] (defScope sCell) := ⟨rfl, rfl, rfl, by decide +kernel, rfl, by decide +kernel, by decide +kernel⟩
theorem ok_cell {f : Addr} {fd : FuncData} (F : Fun K "_law_cell_at" "_law_cell_at" sCell f fd) (m_len : mg "len" = none) : FnOk P w K mg base CX0 1 f fd ["script", "k"] (spCell K) := by
  refine F.ok sc_cell (fun vs H Q E h => ?_) (fun cdv A outer s H vs Q E hr h => ?_)
  · obtain ⟨a, ns, k, rfl, _⟩ := h
    rfl
  obtain ⟨a, ns, k, rfl, hS, h0, q⟩ := h
  refine ⟨_, pss_cons (ps_if (pt_cmpR op_lt (pv 1) (pe_callB call_len_seq (by rfl) m_len PySem.boot_len (pa_cons (pv 0) pa_nil)) (nomark _)) (pss_one (ps_ret (pe_ix ix_list (pv 0) (pv 1) (fun _ _ => rfl)))) (pss_nil))
      (pss_one (ps_ret pe_int)), ?_⟩
  refine ⟨_, rfl, _, rfl, a, _, rfl, .inl hS, _, _, rfl, rfl, _, rfl, ?_⟩
  refine ite2 (fun c => ?_) (fun c => q 0)
  have c' : k < ((ns.map V.int).length : Int) := of_decide_eq_true c
  have ek : k = ((k.toNat : Nat) : Int) := by omega
  have hk : k.toNat < ns.length := by rw [List.length_map] at c'; omega
  have ha : atI (ns.map V.int) ((k.toNat : Nat) : Int) = some (.int ns[k.toNat]) := atI_nat (by rw [List.getElem?_map, List.getElem?_eq_getElem hk] <;> rfl)
  rw [← ek] at ha
  exact ⟨_, rfl, _, rfl, a, _, _, _, rfl, rfl, hS, ha, q _⟩
def spDraw : Sp := fun vs H Q _ => ∃ (c k b : Int), vs = [.int c, .int k, .int b] ∧ 0 < b ∧ ∀ (r : Int) (H' : Hp), 0 ≤ r → r < b → Same H H' → Q (.int r) H'
theorem sc_draw : FnScope ["cell", "k", "bound", "primes"] ["cell", "k", "bound"] (defScope sDraw) := ⟨rfl, rfl, rfl, by decide +kernel, rfl, by decide +kernel, by decide +kernel⟩
def primesL : List Int := [1000003, 1000033, 1000037, 1000039, 1000081, 1000099, 1000117, 1000121, 1000133, 1000151, 1000159, 1000171, 1000183, 1000187, 1000193, 1000199]
theorem primes_at {i : Int} (h0 : 0 ≤ i) (h : i < 16) : ∃ p : Int, 0 < p ∧ atI (primesL.map V.int) i = some (.int p) := by
  have ei : i = ((i.toNat : Nat) : Int) := by omega
  have hk : i.toNat < primesL.length := by show i.toNat < 16; omega
  refine ⟨primesL[i.toNat], ?_, ?_⟩
  · have : ∀ x ∈ primesL, (0 : Int) < x := by decide
    exact this _ (List.getElem_mem hk)
  · have q : atI (primesL.map V.int) ((i.toNat : Nat) : Int) = some (.int primesL[i.toNat]) := atI_nat (by rw [List.getElem?_map, List.getElem?_eq_getElem hk] <;> rfl)
    rw [← ei] at q
    exact q
theorem ok_draw {f : Addr} {fd : FuncData} (F : Fun K "_law_draw" "_law_draw" sDraw f fd) (m_int : mg "int" = none) : FnOk P w K mg base CX0 1 f fd ["cell", "k", "bound"] spDraw := by
  refine F.ok sc_draw (fun vs H Q E h => ?_) (fun cdv A outer s H vs Q E hr h => ?_)
  · obtain ⟨c, k, b, rfl, _⟩ := h
    rfl
  obtain ⟨c, k, b, rfl, hb, q⟩ := h
  have nd := sc_draw.nd
  refine ⟨_, pss_cons (ps_set (i := 3) nd rfl (.inl rfl) (pe_tup (pa_cons pe_int (pa_cons pe_int (pa_cons pe_int (pa_cons pe_int (pa_cons pe_int (pa_cons pe_int (pa_cons pe_int (pa_cons pe_int (pa_cons pe_int (pa_cons pe_int (pa_cons pe_int (pa_cons pe_int (pa_cons pe_int (pa_cons pe_int (pa_cons pe_int (pa_cons pe_int pa_nil))))))))))))))))))
      (pss_one (ps_ret (pe_op op_mod (pe_op op_mod (pe_callTy call_int1 (by rfl) m_int boot_int (pa_cons (pe_op op_add (pe_op op_mul (pv 0) pe_int) (pe_op op_mul (pv 1) pe_int)) pa_nil)) (pe_ix ix_tup (pv 3) (pe_op op_mod (pe_callTy call_int1 (by rfl) m_int boot_int (pa_cons (pv 1) pa_nil)) pe_int) (fun _ _ => rfl))) (pv 2)))), ?_⟩
  refine ⟨by show 16 ≤ sizeLine; decide, fun t ht => ?_⟩
  obtain ⟨p, hp, hat⟩ := primes_at (i := k % 16) (by omega) (by omega)
  refine ⟨_, rfl, _, _, rfl, rfl, .inr (by show _ ∧ _; decide), _, rfl, _, _, rfl, rfl, .inr (by show _ ∧ _; decide), _, _, rfl, rfl, .inl ⟨_, rfl, ?_⟩⟩
  refine ⟨_, rfl, _, rfl, .inl ⟨_, rfl, _, _, rfl, rfl, (by show (0 : Int) < 16; decide), ?_⟩⟩
  refine ⟨t, primesL.map V.int, _, _, rfl, rfl, SqT.of upd_same, hat, _, _, rfl, rfl, hp, _, rfl, _, _, rfl, rfl, hb, ?_⟩
  exact q _ _ (Int.emod_nonneg _ (by omega)) (Int.emod_lt_of_pos _ hb) (same_upd ht)
end
end Kx

namespace Kx
open PySem PySem.Spec PyProof.Rows L2
section
variable {P : Program} {w : World} {K : PySem.W.Frag} {mg : Str → Option Value} {base : Heap}
theorem pow_lt : ∀ i : Nat, i < 24 → (1009 ^ i : Nat) < 2 ^ 240 := by decide +kernel
theorem sc_numb : FnScope ["cell", "k", "bound", "power", "lap", "remains", "small"] ["cell", "k", "bound"] (defScope sNumb) := ⟨rfl, rfl, rfl, by decide +kernel, rfl, by decide +kernel, by decide +kernel⟩
def spNumb : Sp := fun vs H Q _ => ∃ (c k b : Int), vs = [.int c, .int k, .int b] ∧ 0 ≤ k ∧ k ≤ 100 ∧ 0 < b ∧ ∀ (r : Int) (H' : Hp), 0 ≤ r → r < b → Same H H' → Q (.int r) H'
theorem ok_numb {f : Addr} {fd : FuncData} (F : Fun K "_law_number" "_law_number" sNumb f fd) (m_int : mg "int" = none) (m_range : mg "range" = none) (G_law_draw : Ready P w K mg base 1 "_law_draw" ["cell", "k", "bound"] spDraw) :
    FnOk P w K mg base CX0 2 f fd ["cell", "k", "bound"] spNumb := by
  refine F.ok sc_numb (fun vs H Q E h => ?_) (fun cdv A outer s H vs Q E hr h => ?_)
  · obtain ⟨c, k, b, rfl, _⟩ := h
    rfl
  obtain ⟨c, k, b, rfl, k0, k1, hb, q⟩ := h
  have nd := sc_numb.nd
  refine ⟨_, pss_cons (ps_set (i := 3) nd rfl (.inl rfl) pe_int)
      (pss_cons (ps_for PassesOwn.never rfl (pi_range1 rfl m_range (pa_cons (pe_op op_mod (pe_callTy call_int1 (by rfl) m_int boot_int (pa_cons (pv 1) pa_nil)) pe_int) pa_nil)) (pg_name (i := 4) nd rfl (.inl rfl)) (pss_one (ps_set (i := 3) nd rfl (.inl rfl) (pe_op op_mul (pv 3) pe_int))))
      (pss_cons (ps_set (i := 5) nd rfl (.inl rfl) (pe_op op_fdivW (pe_op op_sub (pv 0) (pe_op op_pow pe_int pe_int)) (pv 3)))
      (pss_cons (ps_if (pt_cmpR op_gt (pv 5) pe_int (nomark _)) (pss_one (ps_ret (pe_op op_mod (pe_op op_mod (pe_callTy call_int1 (by rfl) m_int boot_int (pa_cons (pv 5) pa_nil)) pe_int) (pv 2)))) (pss_nil))
      (pss_cons (ps_set (i := 6) nd rfl (.inl rfl) (pe_op op_mod (pe_callTy call_int1 (by rfl) m_int boot_int (pa_cons (pv 0) pa_nil)) pe_int))
      (pss_one (ps_ret (pe_op op_mod (pe_fn (G_law_draw) (hr.mono (by decide)) (pa_cons (pe_op op_mul (pe_op op_add (pv 6) (pe_op op_mul pe_int (pv 1))) (pe_op op_add (pe_op op_add (pv 6) (pe_op op_mul pe_int (pv 1))) pe_int)) (pa_cons (pe_op op_add (pe_op op_mod (pe_callTy call_int1 (by rfl) m_int boot_int (pa_cons (pv 1) pa_nil)) pe_int) pe_int) (pa_cons pe_int pa_nil)))) (pv 2)))))))), ?_⟩
  refine ⟨_, rfl, .inl ⟨_, rfl, _, _, rfl, rfl, (by show (0 : Int) < 24; decide), _, rfl, by omega, by omega, ?_⟩⟩
  have m0 : 0 ≤ k % 24 := Int.emod_nonneg _ (by omega)
  have m1 : k % 24 < 24 := Int.emod_lt_of_pos _ (by omega)
  refine for_range (fun i σ H' => ∃ y4, σ = [some (.int c), some (.int k), some (.int b), some (.int ((1009 ^ i : Nat) : Int)), y4, none, none] ∧ H' = H) ⟨none, rfl, rfl⟩ ?_ ?_
  · rintro i σ H' hi ⟨y4, rfl, rfl⟩
    refine ⟨_, rfl, _, _, rfl, rfl, .inr (by show _ ∧ _; decide), ?_⟩
    refine ⟨some (.int (0 + (i : Nat))), ?_, rfl⟩
    rw [Nat.pow_succ, Int.natCast_mul]
    rfl
  · rintro σ H' ⟨y4, rfl, rfl⟩
    have hj : (k % 24).toNat < 24 := by omega
    have hp := pow_lt _ hj
    have hp0 : 0 < (1009 ^ (k % 24).toNat : Nat) := Nat.pow_pos (by decide)
    generalize (1009 ^ (k % 24).toNat : Nat) = pw at hp hp0
    refine ⟨_, rfl, _, _, rfl, rfl, (by show _ ∧ _ ∧ _; decide), _, _, rfl, rfl, _, rfl, _, _, rfl, rfl, wide_div (b := 240) (by omega) (by omega) (by decide) (by decide), ?_⟩
    refine ⟨_, rfl, _, _, rfl, rfl, _, rfl, ?_⟩
    refine ite2 (fun _ => ?_) (fun _ => ?_)
    · refine ⟨_, rfl, .inl ⟨_, rfl, _, _, rfl, rfl, (by show (0 : Int) < 1009; decide), _, rfl, _, _, rfl, rfl, hb, ?_⟩⟩
      exact q _ _ (Int.emod_nonneg _ (by omega)) (Int.emod_lt_of_pos _ hb) (Same.refl _)
    · refine ⟨_, rfl, .inl ⟨_, rfl, _, _, rfl, rfl, (by show (0 : Int) < 1000003; decide), ?_⟩⟩
      have s0 : 0 ≤ c % 1000003 := Int.emod_nonneg _ (by omega)
      have s1 : c % 1000003 < 1000003 := Int.emod_lt_of_pos _ (by omega)
      refine ⟨_, rfl, _, rfl, _, _, rfl, rfl, .inl (by show _ ∧ _; decide), _, _, rfl, rfl, ?_⟩
      refine ⟨_, rfl, _, rfl, _, _, rfl, rfl, .inl (by show _ ∧ _; decide), _, _, rfl, rfl, _, _, rfl, rfl, _, _, rfl, rfl, .inl (by show _ ∧ _; omega), ?_⟩
      refine ⟨_, rfl, .inl ⟨_, rfl, _, _, rfl, rfl, (by show (0 : Int) < 9; decide), _, _, rfl, rfl, _, _, _, rfl, by decide, fun r H2 r0 r1 sm => ?_⟩⟩
      refine ⟨_, rfl, _, _, rfl, rfl, hb, ?_⟩
      exact q _ _ (Int.emod_nonneg _ (by omega)) (Int.emod_lt_of_pos _ hb) sm
theorem at0 {a b c : V} {tl : List V} : atI (a :: b :: c :: tl) 0 = some a := atI_nat (j := 0) rfl
theorem at1 {a b c : V} {tl : List V} : atI (a :: b :: c :: tl) 1 = some b := atI_nat (j := 1) rfl
theorem at2 {a b c : V} {tl : List V} : atI (a :: b :: c :: tl) 2 = some c := atI_nat (j := 2) rfl
theorem ix2 {a b c : V} {tl : List V} : ixN (a :: b :: c :: tl).length 2 = some 2 := by
  have h : (2 : Int) < (((a :: b :: c :: tl).length : Nat) : Int) := by show (2 : Int) < ((tl.length + 1 + 1 + 1 : Nat) : Int); omega
  exact (if_pos (by decide)).trans (if_pos h)
/-- the three things of a draw: the script's first cells, where it begins, how many were drawn -/
structure DrawAt (H : Hp) (d s : Addr) (ns : List Int) (xs : List V) (n : Int) : Prop where
  at_d : H d = some (.lst (.ref s :: .int 0 :: .int n :: xs))
  at_s : H s = some (.lst (ns.map V.int))
  n0 : 0 ≤ n
theorem DrawAt.ne {H : Hp} {d s : Addr} {ns : List Int} {tl : List V} {n : Int} (D : DrawAt H d s ns tl n) : s ≠ d := fun e => by
  have a := D.at_s
  rw [e, D.at_d] at a
  cases ns with
  | nil => cases a
  | cons x r => cases a
theorem DrawAt.keep {H H' : Hp} {d s : Addr} {ns : List Int} {tl : List V} {n : Int} (D : DrawAt H d s ns tl n) (h : Same H H') : DrawAt H' d s ns tl n := ⟨h _ _ D.at_d, h _ _ D.at_s, D.n0⟩
def spNext : Sp := fun vs H Q _ => ∃ (d s : Addr) (ns : List Int) (tl : List V) (n b : Int), vs = [.ref d, .int b] ∧ DrawAt H d s ns tl n ∧ 0 < b ∧ ∀ (r : Int) (H' : Hp), 0 ≤ r → r < b → But d H H' → DrawAt H' d s ns tl (n + 1) → Q (.int r) H'
theorem sc_next : FnScope ["draw", "bound", "at", "cell"] ["draw", "bound"] (defScope sNext) := ⟨rfl, rfl, rfl, by decide +kernel, rfl, by decide +kernel, by decide +kernel⟩
theorem ok_next {f : Addr} {fd : FuncData} (F : Fun K "_law_next" "_law_next" sNext f fd) (m_int : mg "int" = none) (G_law_cell_at : Ready P w K mg base 1 "_law_cell_at" ["script", "k"] (spCell K)) (G_law_number : Ready P w K mg base 2 "_law_number" ["cell", "k", "bound"] spNumb) :
    FnOk P w K mg base CX0 3 f fd ["draw", "bound"] spNext := by
  refine F.ok sc_next (fun vs H Q E h => ?_) (fun cdv A outer s H vs Q E hr h => ?_)
  · obtain ⟨d, s, ns, tl, n, b, rfl, _⟩ := h
    rfl
  obtain ⟨d, s, ns, tl, n, b, rfl, D, hb, q⟩ := h
  have nd := sc_next.nd
  refine ⟨_, pss_cons (ps_asg (pe_op op_add (pe_ix ix_list (pv 0) pe_int (fun _ _ => rfl)) pe_int) (pg_sub (pv 0) pe_int set_list))
      (pss_cons (ps_set (i := 2) nd rfl (.inl rfl) (pe_op op_fdiv (pe_ix ix_list (pv 0) pe_int (fun _ _ => rfl)) pe_int))
      (pss_cons (ps_set (i := 3) nd rfl (.inl rfl) (pe_op op_add (pe_fn (G_law_cell_at) (hr.mono (by decide)) (pa_cons (pe_ix ix_list (pv 0) pe_int (fun _ _ => rfl)) (pa_cons (pe_op op_add (pe_ix ix_list (pv 0) pe_int (fun _ _ => rfl)) (pv 2)) pa_nil))) (pe_op op_mul pe_int (pv 2))))
      (pss_one (ps_ret (pe_fn (G_law_number) (hr.mono (by decide)) (pa_cons (pv 3) (pa_cons (pe_op op_add (pe_op op_mod (pe_callTy call_int1 (by rfl) m_int boot_int (pa_cons (pe_ix ix_list (pv 0) pe_int (fun _ _ => rfl)) pa_nil)) pe_int) pe_int) (pa_cons (pv 1) pa_nil)))))))), ?_⟩
  refine ⟨_, rfl, d, _, 2, _, rfl, rfl, SqL.of D.at_d, at2, _, _, rfl, rfl, _, rfl, d, _, _, _, rfl, rfl, D.at_d, ix2, ?_⟩
  have D1 : DrawAt (upd H d (.lst (.ref s :: .int 0 :: .int (n + 1) :: tl))) d s ns tl (n + 1) := ⟨upd_same, by rw [upd_ne D.ne]; exact D.at_s, by have := D.n0; omega⟩
  have b1 : But d H (upd H d (.lst (.ref s :: .int 0 :: .int (n + 1) :: tl))) := fun c o hc e => by rw [upd_ne hc]; exact e
  have n0 := D1.n0
  refine ⟨_, rfl, d, _, 2, _, rfl, rfl, SqL.of D1.at_d, at2, _, _, rfl, rfl, (by show _ ∧ _; decide), ?_⟩
  refine ⟨_, rfl, d, _, 0, _, rfl, rfl, SqL.of D1.at_d, at0, _, rfl, d, _, 1, _, rfl, rfl, SqL.of D1.at_d, at1, _, rfl, _, _, rfl, rfl, s, ns, _, rfl, SqL.of D1.at_s, by omega, fun c => ?_⟩
  refine ⟨_, rfl, _, _, rfl, rfl, .inl (by show _ ∧ _; decide), _, _, rfl, rfl, ?_⟩
  refine ⟨_, rfl, _, rfl, d, _, 2, _, rfl, rfl, SqL.of D1.at_d, at2, .inl ⟨_, rfl, _, _, rfl, rfl, (by show (0 : Int) < 12; decide), _, _, rfl, rfl, _, rfl, ?_⟩⟩
  refine ⟨_, _, _, rfl, by omega, by omega, hb, fun r H' r0 r1 sm => ?_⟩
  exact q r H' r0 r1 (b1.trans (same_but sm)) (D1.keep sm)
/-- a list or a tuple of values -/
def Seq (K : PySem.W.Frag) (H : Hp) (a : Addr) (xs : List V) : Prop := SqL K H a xs ∨ SqT K H a xs
theorem nth {xs : List V} {r : Int} (h0 : 0 ≤ r) (h1 : r < (xs.length : Int)) : ∃ v, v ∈ xs ∧ atI xs r = some v := by
  have er : r = ((r.toNat : Nat) : Int) := by omega
  have hk : r.toNat < xs.length := by omega
  have q : atI xs ((r.toNat : Nat) : Int) = some xs[r.toNat] := atI_nat (List.getElem?_eq_getElem hk)
  rw [← er] at q
  exact ⟨_, List.getElem_mem hk, q⟩
theorem But.sqT {H H' : Hp} {d a : Addr} {xs : List V} (h : But d H H') (hd : ∃ l, H d = some (.lst l)) (q : SqT K H a xs) : SqT K H' a xs := by
  rcases q with (q | ⟨o, q⟩) | q
  · refine .inl (.inl (h _ _ (fun e => ?_) q))
    obtain ⟨l, hl⟩ := hd
    rw [e, hl] at q
    cases q
  · refine .inl (.inr ⟨o, h _ _ (fun e => ?_) q⟩)
    obtain ⟨l, hl⟩ := hd
    rw [e, hl] at q
    cases q
  · exact .inr q
def spPick (K : PySem.W.Frag) : Sp := fun vs H Q _ => ∃ (d s t : Addr) (ns : List Int) (tl : List V) (n : Int) (xs : List V), vs = [.ref d, .ref t] ∧ DrawAt H d s ns tl n ∧ t ≠ d ∧ Seq K H t xs ∧ xs ≠ [] ∧ ∀ (v : V) (H' : Hp), v ∈ xs → But d H H' → DrawAt H' d s ns tl (n + 1) → Q v H'
theorem sc_pick : FnScope ["draw", "things"] ["draw", "things"] (defScope sPick) := ⟨rfl, rfl, rfl, by decide +kernel, rfl, by decide +kernel, by decide +kernel⟩
theorem But.seq {H H' : Hp} {d a : Addr} {xs : List V} (h : But d H H') (hd : a ≠ d) (q : Seq K H a xs) : Seq K H' a xs := by
  rcases q with ((q | ⟨o, q⟩) | q) | ((q | ⟨o, q⟩) | q)
  · exact .inl (.inl (.inl (h _ _ hd q)))
  · exact .inl (.inl (.inr ⟨o, h _ _ hd q⟩))
  · exact .inl (.inr q)
  · exact .inr (.inl (.inl (h _ _ hd q)))
  · exact .inr (.inl (.inr ⟨o, h _ _ hd q⟩))
  · exact .inr (.inr q)
theorem ok_pick {f : Addr} {fd : FuncData} (F : Fun K "_law_pick" "_law_pick" sPick f fd) (m_len : mg "len" = none) (G_law_next : Ready P w K mg base 3 "_law_next" ["draw", "bound"] spNext) :
    FnOk P w K mg base CX0 4 f fd ["draw", "things"] (spPick K) := by
  refine F.ok sc_pick (fun vs H Q E h => ?_) (fun cdv A outer s H vs Q E hr h => ?_)
  · obtain ⟨d, s, t, ns, tl, n, xs, rfl, _⟩ := h
    rfl
  obtain ⟨d, s, t, ns, tl, n, xs, rfl, D, td, hS, hne, q⟩ := h
  have nd := sc_pick.nd
  refine ⟨_, pss_one (ps_ret (pe_ix ix_seq (pv 1) (pe_fn (G_law_next) (hr.mono (by decide)) (pa_cons (pv 0) (pa_cons (pe_callB call_len_seq (by rfl) m_len PySem.boot_len (pa_cons (pv 1) pa_nil)) pa_nil))) (fun _ _ => rfl))), ?_⟩
  have hl : 0 < (xs.length : Int) := by
    have := List.length_pos_iff.mpr hne
    omega
  refine ⟨_, rfl, _, rfl, _, rfl, t, xs, rfl, hS, d, s, ns, tl, n, _, rfl, D, hl, fun r H' r0 r1 bt D' => ?_⟩
  obtain ⟨v, hv, hat⟩ := nth r0 r1
  rcases bt.seq td hS with hL | hT
  · exact .inl ⟨t, xs, _, _, rfl, rfl, hL, hat, q _ _ hv bt D'⟩
  · exact .inr (.inl ⟨t, xs, _, _, rfl, rfl, hT, hat, q _ _ hv bt D'⟩)
end
end Kx

namespace Kx
open PySem PySem.Spec PyProof.Rows L2
abbrev sInt : Stmt := topS 27
/-! ### expressions, and how they stand -/
/-- the six comparisons; the five others -/
def cmps : List Str := ["=", "!=", "<", "<=", ">", ">="]
/-- those that texts are compared by -/
def cmpsT : List Str := ["=", "!=", "<", ">="]
theorem cmpsT_sub : ∀ op ∈ cmpsT, op ∈ cmps := by decide +kernel
def sums : List Str := ["+", "-", "*", "/", "mod"]
inductive Ex where
  | num (i : Int)
  | quo (z : Str)
  | col (x : Str)
  | two (op : Str) (a b : Ex)
  | nt (a : Ex)
  | mn (a : Ex)
  | ln (a : Ex)
def Ex.dep : Ex → Nat
  | .two _ a b => max a.dep b.dep + 1
  | .nt a => a.dep + 1
  | .mn a => a.dep + 1
  | .ln a => a.dep + 1
  | _ => 1
theorem Ex.dep_pos (e : Ex) : 0 < e.dep := by cases e <;> exact Nat.succ_pos _
/-- the kinds: true an int, false a text; c the kinds of the columns -/
inductive Kind (c : Str → Option Bool) : Ex → Bool → Prop where
  | num {i : Int} (h : -9223372036854775808 ≤ i ∧ i < 9223372036854775808) : Kind c (.num i) true
  | quo {z : Str} (h : z.length ≤ 100) : Kind c (.quo z) false
  | col {x : Str} {b : Bool} (h : c x = some b) : Kind c (.col x) b
  | arith {op : Str} {a b : Ex} (h : op ∈ sums ∨ op ∈ cmps ∨ op = "and" ∨ op = "or") (ha : Kind c a true) (hb : Kind c b true) : Kind c (.two op a b) true
  | text {op : Str} {a b : Ex} (h : op ∈ cmpsT) (ha : Kind c a false) (hb : Kind c b false) : Kind c (.two op a b) true
  | nt {a : Ex} (ha : Kind c a true) : Kind c (.nt a) true
  | mn {a : Ex} (ha : Kind c a true) : Kind c (.mn a) true
  | ln {a : Ex} (ha : Kind c a false) : Kind c (.ln a) true
/-- how an expression stands in the heap -/
def ExAt (H : Hp) : V → Ex → Prop
  | v, .num i => ∃ a, v = .ref a ∧ H a = some (.tup [.str "number", .int i])
  | v, .quo z => ∃ a, v = .ref a ∧ H a = some (.tup [.str "quoted", .str z])
  | v, .col x => ∃ a, v = .ref a ∧ H a = some (.tup [.str "column", .str x])
  | v, .two op x y => ∃ a vx vy, v = .ref a ∧ H a = some (.tup [.str "two", .str op, vx, vy]) ∧ ExAt H vx x ∧ ExAt H vy y
  | v, .nt x => ∃ a vx, v = .ref a ∧ H a = some (.tup [.str "not", vx]) ∧ ExAt H vx x
  | v, .mn x => ∃ a vx, v = .ref a ∧ H a = some (.tup [.str "minus", vx]) ∧ ExAt H vx x
  | v, .ln x => ∃ a vx, v = .ref a ∧ H a = some (.tup [.str "length", vx]) ∧ ExAt H vx x
theorem ExAt.keep {H H' : Hp} (h : ∀ (a : Addr) (xs : List V), H a = some (.tup xs) → H' a = some (.tup xs)) : ∀ {e : Ex} {v : V}, ExAt H v e → ExAt H' v e
  | .num _, _, ⟨a, e, q⟩ => ⟨a, e, h _ _ q⟩
  | .quo _, _, ⟨a, e, q⟩ => ⟨a, e, h _ _ q⟩
  | .col _, _, ⟨a, e, q⟩ => ⟨a, e, h _ _ q⟩
  | .two _ _ _, _, ⟨a, vx, vy, e, q, x, y⟩ => ⟨a, vx, vy, e, h _ _ q, x.keep h, y.keep h⟩
  | .nt _, _, ⟨a, vx, e, q, x⟩ => ⟨a, vx, e, h _ _ q, x.keep h⟩
  | .mn _, _, ⟨a, vx, e, q, x⟩ => ⟨a, vx, e, h _ _ q, x.keep h⟩
  | .ln _, _, ⟨a, vx, e, q, x⟩ => ⟨a, vx, e, h _ _ q, x.keep h⟩
theorem But.tup {H H' : Hp} {d : Addr} {l : List V} (h : But d H H') (hd : H d = some (.lst l)) : ∀ (a : Addr) (xs : List V), H a = some (.tup xs) → H' a = some (.tup xs) := fun a xs e => h a _ (fun q => by rw [q, hd] at e; cases e) e
/-! ### the columns of a table, in a list -/
abbrev Col : Type := Addr × Str × Bool
def kW (b : Bool) : Str := if b then "int" else "text"
structure ColsAt (H : Hp) (cs : Addr) (cl : List Col) : Prop where
  all : H cs = some (.lst (cl.map fun c => .ref c.1))
  each : ∀ c ∈ cl, H c.1 = some (.tup [.str c.2.1, .str (kW c.2.2)])
  few : cl.length ≤ 1000
  ok : ∀ c ∈ cl, PyData.canLay0 (.str c.2.1) = true
theorem ColsAt.keep {H H' : Hp} {cs : Addr} {cl : List Col} (C : ColsAt H cs cl) (h : Same H H') : ColsAt H' cs cl := ⟨h _ _ C.all, fun c hc => h _ _ (C.each c hc), C.few, C.ok⟩
theorem ColsAt.ne {H : Hp} {cs d s : Addr} {cl : List Col} {ns : List Int} {tl : List V} {n : Int} (C : ColsAt H cs cl) (D : DrawAt H d s ns tl n) : cs ≠ d := fun e => by
  have a := C.all
  rw [e, D.at_d] at a
  match cl, a with
  | [], a => cases a
  | [_], a => cases a
  | _ :: _ :: _, a => cases a
theorem ColsAt.but {H H' : Hp} {cs d s : Addr} {cl : List Col} {ns : List Int} {tl : List V} {n : Int} (C : ColsAt H cs cl) (D : DrawAt H d s ns tl n) (h : But d H H') : ColsAt H' cs cl :=
  ⟨h _ _ (C.ne D) C.all, fun c hc => h.tup D.at_d _ _ (C.each c hc), C.few, C.ok⟩
def strsOf (b : Bool) (cl : List Col) : List Str := (cl.filter fun c => c.2.2 == b).map fun c => c.2.1
theorem strs_le (b : Bool) (cl : List Col) : (strsOf b cl).length ≤ cl.length := by
  unfold strsOf
  rw [List.length_map]
  exact List.length_filter_le _ _
theorem take_at {cl : List Col} {i : Nat} {c : Col} (h : cl[i]? = some c) : cl.take (i + 1) = cl.take i ++ [c] := by
  rw [List.take_add_one, h]
  rfl
theorem strs_yes {b : Bool} {cl : List Col} {i : Nat} {a : Addr} {x : Str} (h : cl[i]? = some (a, x, b)) : strsOf b (cl.take (i + 1)) = strsOf b (cl.take i) ++ [x] := by
  unfold strsOf
  rw [take_at h, List.filter_append, List.map_append]
  simp
theorem strs_no {b : Bool} {cl : List Col} {i : Nat} {a : Addr} {x : Str} {k : Bool} (h : cl[i]? = some (a, x, k)) (hk : (k == b) = false) : strsOf b (cl.take (i + 1)) = strsOf b (cl.take i) := by
  unfold strsOf
  rw [take_at h, List.filter_append, List.map_append]
  simp [hk]
theorem mem_strsOf {b : Bool} {cl : List Col} {v : V} {kf : Str → Option Bool} (hk : ∀ c ∈ cl, kf c.2.1 = some c.2.2) (h : v ∈ (strsOf b cl).map V.str) : ∃ x, v = .str x ∧ kf x = some b := by
  obtain ⟨x, hx, rfl⟩ := List.mem_map.mp h
  obtain ⟨c, hc, rfl⟩ := List.mem_map.mp hx
  obtain ⟨hc, e⟩ := List.mem_filter.mp hc
  refine ⟨_, rfl, ?_⟩
  rw [hk c hc]
  exact congrArg some (eq_of_beq e)
theorem strsAll_can : ∀ l : List Str, (∀ x ∈ l, PyData.canLay0 (.str x) = true) → PyData.canLayAll0 (l.map PyData.str) = true
  | [], _ => rfl
  | x :: l, h => by
    show (PyData.canLay0 (.str x) && PyData.canLayAll0 (l.map PyData.str)) = true
    rw [strsAll_can l fun y hy => h y (List.mem_cons_of_mem _ hy), h x List.mem_cons_self]
    rfl
theorem strsAll_depth : ∀ l : List Str, PyData.depthAll (l.map PyData.str) = 0
  | [] => rfl
  | x :: l => by
    show max (PyData.depth (.str x)) (PyData.depthAll (l.map PyData.str)) = 0
    rw [strsAll_depth l]
    rfl
theorem strs_shaped {l : List Str} (h : ∀ x ∈ l, PyData.canLay0 (.str x) = true) : SeqAt.shaped (.list (l.map PyData.str)) = true := by
  refine Bool.and_eq_true_iff.mpr ⟨strsAll_can l h, decide_eq_true ?_⟩
  show PyData.depthAll (l.map PyData.str) + 1 ≤ 64
  rw [strsAll_depth l]
  decide
theorem ColsAt.shaped {H : Hp} {cs : Addr} {cl : List Col} (C : ColsAt H cs cl) (b : Bool) : SeqAt.shaped (.list ((strsOf b cl).map PyData.str)) = true := strs_shaped fun x hx => by
  obtain ⟨c, hc, rfl⟩ := List.mem_map.mp hx
  exact C.ok c (List.mem_filter.mp hc).1
theorem dpa_strs {K : PySem.W.Frag} {H : Hp} : ∀ l : List Str, DpAll K H (l.map V.str) (l.map PyData.str)
  | [] => .nil
  | x :: l => .cons (.str x) (dpa_strs l)
end Kx

namespace Kx
open PySem PySem.Spec PyProof.Rows L2
section
variable {P : Program} {w : World} {K : PySem.W.Frag} {mg : Str → Option Value} {base : Heap}
theorem strs_ne {l : List Str} (h : (!PyData.eqv (.list (l.map PyData.str)) (.list [])) = true) : l.map V.str ≠ [] := by
  cases l with
  | nil => cases h
  | cons x l => intro e; cases e
def spInt (m : Nat) : Sp := fun vs H Q _ => ∃ (d s cols : Addr) (cl : List Col) (kf : Str → Option Bool) (ns : List Int) (tl : List V) (n deep : Int), vs = [.ref d, .ref cols, .int deep] ∧ DrawAt H d s ns tl n ∧ ColsAt H cols cl ∧ (∀ c ∈ cl, kf c.2.1 = some c.2.2) ∧ 0 ≤ deep ∧ deep + 1 = (m : Int) ∧
  ∀ (v : V) (e : Ex) (n' : Int) (H' : Hp), Kind kf e true → e.dep ≤ m + 1 → ExAt H' v e → But d H H' → DrawAt H' d s ns tl n' → Q v H'
abbrev N_law_int : List Str := ["draw", "columns", "deep", "ints", "name", "kind", "texts", "one"]
theorem sc_int : FnScope N_law_int ["draw", "columns", "deep"] (defScope sInt) := ⟨rfl, rfl, rfl, by decide +kernel, rfl, by decide +kernel, by decide +kernel⟩
/-- where the def stands behind its first two lines -/
structure IntSt (H0 H : Hp) (d s D1 D2 : Addr) (l1 l2 : List V) (ns : List Int) (tl : List V) (n : Int) : Prop where
  dr : DrawAt H d s ns tl n
  b : But d H0 H
  i1 : H D1 = some (.lst l1)
  i2 : H D2 = some (.lst l2)
  n1 : D1 ≠ d
  n2 : D2 ≠ d
theorem IntSt.step {H0 H H' : Hp} {d s D1 D2 : Addr} {l1 l2 tl : List V} {ns : List Int} {n n' : Int} (S : IntSt H0 H d s D1 D2 l1 l2 ns tl n) (b : But d H H') (D : DrawAt H' d s ns tl n') : IntSt H0 H' d s D1 D2 l1 l2 ns tl n' :=
  ⟨D, S.b.trans b, b _ _ S.n1 S.i1, b _ _ S.n2 S.i2, S.n1, S.n2⟩
theorem IntSt.new {H0 H : Hp} {d s D1 D2 p : Addr} {l1 l2 tl : List V} {ns : List Int} {n : Int} {o : HO} (S : IntSt H0 H d s D1 D2 l1 l2 ns tl n) (h : H p = none) : IntSt H0 (upd H p o) d s D1 D2 l1 l2 ns tl n :=
  S.step (same_but (same_upd h)) (S.dr.keep (same_upd h))
theorem mem_strs {v : V} {l : List Str} (h : v ∈ l.map V.str) : ∃ z, z ∈ l ∧ v = .str z := by
  obtain ⟨z, hz, e⟩ := List.mem_map.mp h
  exact ⟨z, hz, e.symm⟩
def ops13 : List Str := ["+", "-", "*", "/", "mod", "=", "!=", "<", "<=", ">", ">=", "and", "or"]
theorem ops13_in : ∀ op ∈ ops13, op ∈ sums ∨ op ∈ cmps ∨ op = "and" ∨ op = "or" := by decide +kernel
set_option maxHeartbeats 16000000 in
theorem ok_int {f : Addr} {fd : FuncData} {m : Nat} (F : Fun K "_law_int" "_law_int" sInt f fd) (m_len : mg "len" = none) (G_law_next : Ready P w K mg base 3 "_law_next" ["draw", "bound"] spNext) (G_law_pick : Ready P w K mg base 4 "_law_pick" ["draw", "things"] (spPick K))
    (G_law_int : Ready P w K mg base (m + 4) "_law_int" ["draw", "columns", "deep"] (spInt m)) : FnOk P w K mg base CX0 (m + 5) f fd ["draw", "columns", "deep"] (spInt (m + 1)) := by
  refine F.ok sc_int (fun vs H Q E h => ?_) (fun cdv A outer s0 H vs Q E hr h => ?_)
  · obtain ⟨d, s, cols, cl, kf, ns, tl, n, deep, rfl, _⟩ := h
    rfl
  obtain ⟨d, s, cols, cl, kf, ns, tl, n, deep, rfl, D, C, hk, hd0, hdm, q⟩ := h
  have nd := sc_int.nd
  have hu64 : _ + 64 < cLine := hr.units
  have hr4 : Room 4 _ := hr.mono (by omega)
  have hr3 : Room 3 _ := hr.mono (by omega)
  refine ⟨_, pss_cons (ps_setLc (i := 3) (own := [("name", 4), ("kind", 5)]) (g := (gTup K 2 (gCons (gName 4) (gCons (gName 5) gNil)))) (tt := _) rfl nd rfl rfl (sw_true rfl rfl rfl (by decide +kernel)) (pi_list (pv 1)) (blkOk_by (N := N_law_int) (sc := defScope sInt) (by decide +kernel)) (fun _ _ _ _ _ => pg_tup rfl (pgs_cons (pg_name (i := 4) nd rfl (.inl rfl)) (pgs_cons (pg_name (i := 5) nd rfl (.inl rfl)) pgs_nil))) (fun _ _ _ _ _ => pts_one (pt_cmpR op_eq (pv 5) pe_str (nomark _))) (fun _ _ _ _ _ => (pv 4)))
      (pss_cons (ps_setLc (i := 6) (own := [("name", 4), ("kind", 5)]) (g := (gTup K 2 (gCons (gName 4) (gCons (gName 5) gNil)))) (tt := _) rfl nd rfl rfl (sw_true rfl rfl rfl (by decide +kernel)) (pi_list (pv 1)) (blkOk_by (N := N_law_int) (sc := defScope sInt) (by decide +kernel)) (fun _ _ _ _ _ => pg_tup rfl (pgs_cons (pg_name (i := 4) nd rfl (.inl rfl)) (pgs_cons (pg_name (i := 5) nd rfl (.inl rfl)) pgs_nil))) (fun _ _ _ _ _ => pts_one (pt_cmpR op_eq (pv 5) pe_str (nomark _))) (fun _ _ _ _ _ => (pv 4)))
      (pss_cons (ps_set (i := 5) nd rfl (.inl rfl) (pe_fn (G_law_next) hr3 (pa_cons (pv 0) (pa_cons pe_int pa_nil))))
      (pss_cons (ps_if (PW.pt (pw_or (pt_cmpR op_eq (pv 2) pe_int (nomark _)) (pw_or1 (pt_cmpR op_lt (pv 5) pe_int (nomark _))))) (pss_one (ps_ret (pe_ifExp (PW.pt (pw_and (pt_cmpR (op_neD hu64) (pv 3) (pe_lst pa_nil) (nomark _)) (pw_and1 (pt_cmpR op_gt (pe_op op_mod (pv 5) pe_int) pe_int (nomark _))))) (pe_tup (pa_cons pe_str (pa_cons (pe_fn (G_law_pick) hr4 (pa_cons (pv 0) (pa_cons (pv 3) pa_nil))) pa_nil))) (pe_tup (pa_cons pe_str (pa_cons (pe_fn (G_law_next) hr3 (pa_cons (pv 0) (pa_cons pe_int pa_nil))) pa_nil)))))) (pss_nil))
      (pss_cons (ps_if (PW.pt (pw_and (pt_cmpR op_eq (pv 5) pe_int (nomark _)) (pw_and1 (pt_cmpR (op_neD hu64) (pv 6) (pe_lst pa_nil) (nomark _))))) (pss_one (ps_ret (pe_tup (pa_cons pe_str (pa_cons (pe_fn (G_law_pick) hr4 (pa_cons (pv 0) (pa_cons (pe_tup (pa_cons pe_str (pa_cons pe_str (pa_cons pe_str (pa_cons pe_str pa_nil))))) pa_nil))) (pa_cons (pe_tup (pa_cons pe_str (pa_cons (pe_fn (G_law_pick) hr4 (pa_cons (pv 0) (pa_cons (pv 6) pa_nil))) pa_nil))) (pa_cons (pe_tup (pa_cons pe_str (pa_cons (pe_fn (G_law_pick) hr4 (pa_cons (pv 0) (pa_cons (pe_tup (pa_cons pe_str (pa_cons pe_str (pa_cons pe_str (pa_cons pe_str pa_nil))))) pa_nil))) pa_nil))) pa_nil))))))) (pss_nil))
      (pss_cons (ps_if (PW.pt (pw_and (pt_cmpR op_eq (pv 5) pe_int (nomark _)) (pw_and1 (pt_cmpR (op_neD hu64) (pv 6) (pe_lst pa_nil) (nomark _))))) (pss_one (ps_ret (pe_tup (pa_cons pe_str (pa_cons (pe_tup (pa_cons pe_str (pa_cons (pe_fn (G_law_pick) hr4 (pa_cons (pv 0) (pa_cons (pv 6) pa_nil))) pa_nil))) pa_nil))))) (pss_nil))
      (pss_cons (ps_set (i := 7) nd rfl (.inl rfl) (pe_fn (G_law_int) hr (pa_cons (pv 0) (pa_cons (pv 1) (pa_cons (pe_op op_sub (pv 2) pe_int) pa_nil)))))
      (pss_cons (ps_if (pt_cmpR op_eq (pv 5) pe_int (nomark _)) (pss_one (ps_ret (pe_tup (pa_cons (pe_fn (G_law_pick) hr4 (pa_cons (pv 0) (pa_cons (pe_tup (pa_cons pe_str (pa_cons pe_str pa_nil))) pa_nil))) (pa_cons (pv 7) pa_nil))))) (pss_nil))
      (pss_one (ps_ret (pe_tup (pa_cons pe_str (pa_cons (pe_fn (G_law_pick) hr4 (pa_cons (pv 0) (pa_cons (pe_tup (pa_cons pe_str (pa_cons pe_str (pa_cons pe_str (pa_cons pe_str (pa_cons pe_str (pa_cons pe_str (pa_cons pe_str (pa_cons pe_str (pa_cons pe_str (pa_cons pe_str (pa_cons pe_str (pa_cons pe_str (pa_cons pe_str pa_nil)))))))))))))) pa_nil))) (pa_cons (pv 7) (pa_cons (pe_fn (G_law_int) hr (pa_cons (pv 0) (pa_cons (pv 1) (pa_cons (pe_op op_sub (pv 2) pe_int) pa_nil)))) pa_nil)))))))))))))), ?_⟩
  have small : ∀ {acc : List V}, acc.length ≤ 2 → acc.length < sizeLine := fun h => Nat.lt_of_le_of_lt h (by decide)
  -- ints
  have cl3 : cl.length < sizeLine := Nat.lt_of_le_of_lt C.few (by decide)
  refine ⟨_, rfl, cols, rfl, ⟨_, SqL.of C.all⟩, fun D1 hD1 => lc_list (xs := cl.map fun c => .ref c.1) (fun i H' => Same H H' ∧ H' D1 = some (.lst ((strsOf true (cl.take i)).map V.str))) ⟨same_upd hD1, upd_same⟩ (fun i H' _ h => SqL.of (h.1 _ _ C.all)) ?_ ?_⟩
  · rintro i x H' hx ⟨sm, e⟩
    have nD : ∀ {o}, Same H (upd H' D1 o) := fun b o' e' => by
      rw [upd_ne (ne_of_none e' hD1)]
      exact sm _ _ e'
    rw [List.getElem?_map] at hx
    obtain ⟨⟨a, x, k⟩, hc, rfl⟩ := Option.map_eq_some_iff.mp hx
    have ca := sm _ _ (C.each _ (List.mem_of_getElem? hc))
    have le : ((strsOf true (cl.take i)).map V.str).length < sizeLine := by
      rw [List.length_map]
      have h1 := strs_le true (cl.take i)
      have h2 := List.length_take_le i cl
      have h3 : (cl.take i).length ≤ cl.length := by rw [List.length_take]; omega
      omega
    cases k with
    | true =>
      refine ⟨a, _, rfl, SqT.of ca, rfl, _, _, rfl, _, _, rfl, rfl, rfl, _, rfl, rfl, _, rfl, iteT ?_⟩
      refine ⟨_, rfl, _, e, le, nD, ?_⟩
      rw [strs_yes hc, List.map_append]
      exact upd_same
    | false =>
      refine ⟨a, _, rfl, SqT.of ca, rfl, _, _, rfl, _, _, rfl, rfl, rfl, _, rfl, rfl, _, rfl, iteF ?_⟩
      rw [strs_no hc rfl]
      exact ⟨sm, e⟩
  rintro H1 ⟨s1, e1⟩
  have e1' : H1 D1 = some (.lst ((strsOf true cl).map V.str)) := by
    rw [List.length_map, List.take_length] at e1
    exact e1
  -- texts
  refine ⟨_, rfl, cols, rfl, ⟨_, SqL.of (s1 _ _ C.all)⟩, fun D2 hD2 => lc_list (xs := cl.map fun c => .ref c.1) (fun i H' => Same H1 H' ∧ H' D2 = some (.lst ((strsOf false (cl.take i)).map V.str))) ⟨same_upd hD2, upd_same⟩ (fun i H' _ h => SqL.of (h.1 _ _ (s1 _ _ C.all))) ?_ ?_⟩
  · rintro i x H' hx ⟨sm, e⟩
    have nD : ∀ {o}, Same H1 (upd H' D2 o) := fun b o' e' => by
      rw [upd_ne (ne_of_none e' hD2)]
      exact sm _ _ e'
    rw [List.getElem?_map] at hx
    obtain ⟨⟨a, x, k⟩, hc, rfl⟩ := Option.map_eq_some_iff.mp hx
    have ca := sm _ _ (s1 _ _ (C.each _ (List.mem_of_getElem? hc)))
    have le : ((strsOf false (cl.take i)).map V.str).length < sizeLine := by
      rw [List.length_map]
      have h1 := strs_le false (cl.take i)
      have h2 := List.length_take_le i cl
      have h3 : (cl.take i).length ≤ cl.length := by rw [List.length_take]; omega
      omega
    cases k with
    | true =>
      refine ⟨a, _, rfl, SqT.of ca, rfl, _, _, rfl, _, _, rfl, rfl, rfl, _, rfl, rfl, _, rfl, iteF ?_⟩
      rw [strs_no hc rfl]
      exact ⟨sm, e⟩
    | false =>
      refine ⟨a, _, rfl, SqT.of ca, rfl, _, _, rfl, _, _, rfl, rfl, rfl, _, rfl, rfl, _, rfl, iteT ?_⟩
      refine ⟨_, rfl, _, e, le, nD, ?_⟩
      rw [strs_yes hc, List.map_append]
      exact upd_same
  rintro H2 ⟨s2, e2⟩
  have e2' : H2 D2 = some (.lst ((strsOf false cl).map V.str)) := by
    rw [List.length_map, List.take_length] at e2
    exact e2
  have s12 := s1.trans s2
  have S2 : IntSt H H2 d s D1 D2 ((strsOf true cl).map V.str) ((strsOf false cl).map V.str) ns tl n := ⟨D.keep s12, same_but s12, s2 _ _ e1', e2', (ne_of_none D.at_d hD1).symm, (ne_of_none (s1 _ _ D.at_d) hD2).symm⟩
  have q' : ∀ (v : V) (e : Ex) (n' : Int) (H' : Hp), Kind kf e true → e.dep ≤ m + 2 → ExAt H' v e → IntSt H H' d s D1 D2 ((strsOf true cl).map V.str) ((strsOf false cl).map V.str) ns tl n' → Q v H' := fun v e n' H' h1 h2 h3 h4 => q v e n' H' h1 h2 h3 h4.b h4.dr
  have Cb : ∀ {H' n'}, IntSt H H' d s D1 D2 ((strsOf true cl).map V.str) ((strsOf false cl).map V.str) ns tl n' → ColsAt H' cols cl := fun S => C.but D S.b
  clear q s12 s2 s1
  -- kind
  refine ⟨_, rfl, d, s, ns, _, _, _, rfl, S2.dr, (by show (0 : Int) < 10; decide), fun kd H3 _ _ b3 D3 => ?_⟩
  have S3 := S2.step b3 D3
  clear S2
  have ne2 : ∀ {H' p n'}, IntSt H H' d s D1 D2 ((strsOf true cl).map V.str) ((strsOf false cl).map V.str) ns tl n' → H' p = none → p ≠ d := fun S h => (ne_of_none S.dr.at_d h).symm
  have z2 : 2 ≤ sizeLine := by decide
  have z4 : 4 ≤ sizeLine := by decide
  have tp : ∀ {H' n'}, IntSt H H' d s D1 D2 ((strsOf true cl).map V.str) ((strsOf false cl).map V.str) ns tl n' → ∀ {H''}, But d H' H'' → ∀ (a : Addr) (xs : List V), H' a = some (.tup xs) → H'' a = some (.tup xs) := fun {_ _} S {_} b => b.tup S.dr.at_d
  have st1 := C.shaped true
  have st2 := C.shaped false
  have sh0 : SeqAt.shaped (.list []) = true := by decide +kernel
  refine ⟨_, rfl, rfl, _, rfl, ite2 (fun c => iteT ?_) (fun c => ⟨_, rfl, _, _, rfl, rfl, _, rfl, ite2 (fun cc => ?_) (fun cc => ?_)⟩)⟩
  rotate_left 2
  · -- deeper
    have hd1 : deep ≠ 0 := fun e => c (decide_eq_true (by rw [e]))
    refine ⟨_, rfl, rfl, _, rfl, ite2 (fun c => ?_) (fun c => iteF ?_)⟩
    · -- two texts
      refine ⟨_, rfl, Nat.zero_le _, fun p hp => ?_⟩
      have S4 := S3.new (o := .lst []) hp
      refine ⟨.list ((strsOf false cl).map PyData.str), .list [], .lst (SqL.of S4.i2) (dpa_strs _), .lst (SqL.of upd_same) .nil, st2, sh0, _, rfl, ite2 (fun ce => ?_) (fun ce => ?_)⟩
      rotate_left
      · have S3 := S4
        refine ⟨_, rfl, rfl, _, rfl, ite2 (fun c4 => ?_) (fun c4 => iteF ?_)⟩
        · have x1 := of_decide_eq_true c
          have x2 := of_decide_eq_true c4
          rw [x1] at x2
          cases x2
        refine ⟨_, rfl, _, rfl, _, rfl, _, _, rfl, rfl, d, s, cols, cl, kf, ns, _, _, deep - 1, rfl, S3.dr, Cb S3, hk, by omega, by omega, fun v1 e1 n1 H4 k1 dp1 x1 b4 D4 => ?_⟩
        have S4 := S3.step b4 D4
        refine ⟨_, rfl, rfl, _, rfl, ite2 (fun c => ?_) (fun c => ?_)⟩
        · refine ⟨_, rfl, z2, fun p1 hp1 => ?_⟩
          have S5 := S4.new (o := .tup [.str "not", .str "minus"]) hp1
          refine ⟨d, s, p1, ns, _, _, [.str "not", .str "minus"], rfl, S5.dr, ne2 S4 hp1, .inr (SqT.of upd_same), (by intro z; cases z), fun v2 H6 hv2 b6 D6 => ⟨_, rfl, z2, fun t5 ht5 => ?_⟩⟩
          have S6 := S5.step b6 D6
          have S7 := S6.new (o := .tup [v2, v1]) ht5
          have x2 : ExAt (upd H6 t5 (.tup [v2, v1])) v1 e1 := ((x1.keep fun a xs e => same_upd hp1 _ _ e).keep (tp S5 b6)).keep fun a xs e => same_upd ht5 _ _ e
          obtain ⟨op, hop, rfl⟩ := mem_strs (l := ["not", "minus"]) hv2
          simp only [List.mem_cons, List.not_mem_nil, or_false] at hop
          rcases hop with rfl | rfl
          · exact q' (.ref t5) (.nt e1) _ _ (.nt k1) (by show e1.dep + 1 ≤ m + 2; omega) ⟨t5, _, rfl, upd_same, x2⟩ S7
          · exact q' (.ref t5) (.mn e1) _ _ (.mn k1) (by show e1.dep + 1 ≤ m + 2; omega) ⟨t5, _, rfl, upd_same, x2⟩ S7
        · refine ⟨_, rfl, (by show 13 ≤ sizeLine; decide), fun p1 hp1 => ?_⟩
          have S5 := S4.new (o := .tup (ops13.map V.str)) hp1
          refine ⟨d, s, p1, ns, _, _, ops13.map V.str, rfl, S5.dr, ne2 S4 hp1, .inr (SqT.of upd_same), (by intro z; cases z), fun v2 H6 hv2 b6 D6 => ?_⟩
          have S6 := S5.step b6 D6
          refine ⟨_, rfl, _, rfl, _, rfl, _, rfl, _, _, rfl, rfl, d, s, cols, cl, kf, ns, _, _, deep - 1, rfl, S6.dr, Cb S6, hk, by omega, by omega, fun v3 e3 n3 H7 k3 dp3 x3 b7 D7 => ⟨z4, fun t5 ht5 => ?_⟩⟩
          have S7 := S6.step b7 D7
          have S8 := S7.new (o := .tup [.str "two", v2, v1, v3]) ht5
          have x2 : ExAt (upd H7 t5 (.tup [.str "two", v2, v1, v3])) v1 e1 := (((x1.keep fun a xs e => same_upd hp1 _ _ e).keep (tp S5 b6)).keep (tp S6 b7)).keep fun a xs e => same_upd ht5 _ _ e
          have x4 : ExAt (upd H7 t5 (.tup [.str "two", v2, v1, v3])) v3 e3 := x3.keep fun a xs e => same_upd ht5 _ _ e
          obtain ⟨op, hop, rfl⟩ := mem_strs hv2
          exact q' (.ref t5) (.two op e1 e3) _ _ (.arith (ops13_in op hop) k1 k3) (by show max e1.dep e3.dep + 1 ≤ m + 2; omega) ⟨t5, _, _, rfl, upd_same, x2, x4⟩ S8
      refine ⟨_, rfl, z4, fun p1 hp1 => ?_⟩
      have S5 := S4.new (o := .tup [.str "=", .str "!=", .str "<", .str ">="]) hp1
      refine ⟨d, s, p1, ns, _, _, [.str "=", .str "!=", .str "<", .str ">="], rfl, S5.dr, ne2 S4 hp1, .inr (SqT.of upd_same), (by intro z; cases z), fun v1 H6 hv1 b6 D6 => ?_⟩
      have S6 := S5.step b6 D6
      refine ⟨_, rfl, _, rfl, d, s, D2, ns, _, _, (strsOf false cl).map V.str, rfl, S6.dr, S6.n2, .inl (SqL.of S6.i2), strs_ne ce, fun v2 H7 hv2 b7 D7 => ⟨z2, fun t2 ht2 => ?_⟩⟩
      have S7 := S6.step b7 D7
      have S8 := S7.new (o := .tup [.str "column", v2]) ht2
      refine ⟨_, rfl, z4, fun p3 hp3 => ?_⟩
      have S9 := S8.new (o := .tup [.str "a", .str "b", .str "bb", .str ""]) hp3
      refine ⟨d, s, p3, ns, _, _, [.str "a", .str "b", .str "bb", .str ""], rfl, S9.dr, ne2 S8 hp3, .inr (SqT.of upd_same), (by intro z; cases z), fun v3 H10 hv3 b10 D10 => ⟨z2, fun t4 ht4 => ⟨z4, fun t5 ht5 => ?_⟩⟩⟩
      have S10 := S9.step b10 D10
      have S11 := S10.new (o := .tup [.str "quoted", v3]) ht4
      have S12 := S11.new (o := .tup [.str "two", v1, .ref t2, .ref t4]) ht5
      obtain ⟨op, hop, rfl⟩ := mem_strs (l := ["=", "!=", "<", ">="]) hv1
      obtain ⟨x, rfl, kt⟩ := mem_strsOf hk hv2
      obtain ⟨z, hz, rfl⟩ := mem_strs (l := ["a", "b", "bb", ""]) hv3
      have hz2 : z.length ≤ 100 := by
        have : ∀ z ∈ (["a", "b", "bb", ""] : List Str), z.length ≤ 100 := by decide +kernel
        exact this z hz
      have a1 : (upd (upd H10 t4 (.tup [.str "quoted", .str z])) t5 (.tup [.str "two", .str op, .ref t2, .ref t4])) t2 = some (.tup [.str "column", .str x]) := by
        have e0 := b10.tup S9.dr.at_d t2 [.str "column", .str x] (by rw [upd_ne (ne_of_none upd_same hp3)]; exact upd_same)
        exact same_upd ht5 _ _ (same_upd ht4 _ _ e0)
      refine q' (.ref t5) (.two op (.col x) (.quo z)) _ _ (.text hop (.col kt) (.quo hz2)) (by show 2 ≤ m + 2; omega) ?_ S12
      exact ⟨t5, _, _, rfl, upd_same, ⟨t2, rfl, a1⟩, ⟨t4, rfl, same_upd ht5 _ _ upd_same⟩⟩
    refine ⟨_, rfl, rfl, _, rfl, ite2 (fun c => ?_) (fun c => iteF ?_)⟩
    · -- a length
      refine ⟨_, rfl, Nat.zero_le _, fun p hp => ?_⟩
      have S4 := S3.new (o := .lst []) hp
      refine ⟨.list ((strsOf false cl).map PyData.str), .list [], .lst (SqL.of S4.i2) (dpa_strs _), .lst (SqL.of upd_same) .nil, st2, sh0, _, rfl, ite2 (fun ce => ?_) (fun ce => ?_)⟩
      rotate_left
      · have S3 := S4
        refine ⟨_, rfl, _, rfl, _, rfl, _, _, rfl, rfl, d, s, cols, cl, kf, ns, _, _, deep - 1, rfl, S3.dr, Cb S3, hk, by omega, by omega, fun v1 e1 n1 H4 k1 dp1 x1 b4 D4 => ?_⟩
        have S4 := S3.step b4 D4
        refine ⟨_, rfl, rfl, _, rfl, ite2 (fun c => ?_) (fun c => ?_)⟩
        · refine ⟨_, rfl, z2, fun p1 hp1 => ?_⟩
          have S5 := S4.new (o := .tup [.str "not", .str "minus"]) hp1
          refine ⟨d, s, p1, ns, _, _, [.str "not", .str "minus"], rfl, S5.dr, ne2 S4 hp1, .inr (SqT.of upd_same), (by intro z; cases z), fun v2 H6 hv2 b6 D6 => ⟨_, rfl, z2, fun t5 ht5 => ?_⟩⟩
          have S6 := S5.step b6 D6
          have S7 := S6.new (o := .tup [v2, v1]) ht5
          have x2 : ExAt (upd H6 t5 (.tup [v2, v1])) v1 e1 := ((x1.keep fun a xs e => same_upd hp1 _ _ e).keep (tp S5 b6)).keep fun a xs e => same_upd ht5 _ _ e
          obtain ⟨op, hop, rfl⟩ := mem_strs (l := ["not", "minus"]) hv2
          simp only [List.mem_cons, List.not_mem_nil, or_false] at hop
          rcases hop with rfl | rfl
          · exact q' (.ref t5) (.nt e1) _ _ (.nt k1) (by show e1.dep + 1 ≤ m + 2; omega) ⟨t5, _, rfl, upd_same, x2⟩ S7
          · exact q' (.ref t5) (.mn e1) _ _ (.mn k1) (by show e1.dep + 1 ≤ m + 2; omega) ⟨t5, _, rfl, upd_same, x2⟩ S7
        · refine ⟨_, rfl, (by show 13 ≤ sizeLine; decide), fun p1 hp1 => ?_⟩
          have S5 := S4.new (o := .tup (ops13.map V.str)) hp1
          refine ⟨d, s, p1, ns, _, _, ops13.map V.str, rfl, S5.dr, ne2 S4 hp1, .inr (SqT.of upd_same), (by intro z; cases z), fun v2 H6 hv2 b6 D6 => ?_⟩
          have S6 := S5.step b6 D6
          refine ⟨_, rfl, _, rfl, _, rfl, _, rfl, _, _, rfl, rfl, d, s, cols, cl, kf, ns, _, _, deep - 1, rfl, S6.dr, Cb S6, hk, by omega, by omega, fun v3 e3 n3 H7 k3 dp3 x3 b7 D7 => ⟨z4, fun t5 ht5 => ?_⟩⟩
          have S7 := S6.step b7 D7
          have S8 := S7.new (o := .tup [.str "two", v2, v1, v3]) ht5
          have x2 : ExAt (upd H7 t5 (.tup [.str "two", v2, v1, v3])) v1 e1 := (((x1.keep fun a xs e => same_upd hp1 _ _ e).keep (tp S5 b6)).keep (tp S6 b7)).keep fun a xs e => same_upd ht5 _ _ e
          have x4 : ExAt (upd H7 t5 (.tup [.str "two", v2, v1, v3])) v3 e3 := x3.keep fun a xs e => same_upd ht5 _ _ e
          obtain ⟨op, hop, rfl⟩ := mem_strs hv2
          exact q' (.ref t5) (.two op e1 e3) _ _ (.arith (ops13_in op hop) k1 k3) (by show max e1.dep e3.dep + 1 ≤ m + 2; omega) ⟨t5, _, _, rfl, upd_same, x2, x4⟩ S8
      refine ⟨_, rfl, _, rfl, d, s, D2, ns, _, _, (strsOf false cl).map V.str, rfl, S4.dr, S4.n2, .inl (SqL.of S4.i2), strs_ne ce, fun v2 H7 hv2 b7 D7 => ⟨z2, fun t2 ht2 => ⟨z2, fun t5 ht5 => ?_⟩⟩⟩
      have S7 := S4.step b7 D7
      have S8 := S7.new (o := .tup [.str "column", v2]) ht2
      have S9 := S8.new (o := .tup [.str "length", .ref t2]) ht5
      obtain ⟨x, rfl, kt⟩ := mem_strsOf hk hv2
      refine q' (.ref t5) (.ln (.col x)) _ _ (.ln (.col kt)) (by show 2 ≤ m + 2; omega) ?_ S9
      exact ⟨t5, _, rfl, upd_same, ⟨t2, rfl, same_upd ht5 _ _ upd_same⟩⟩
    -- one
    refine ⟨_, rfl, _, rfl, _, rfl, _, _, rfl, rfl, d, s, cols, cl, kf, ns, _, _, deep - 1, rfl, S3.dr, Cb S3, hk, by omega, by omega, fun v1 e1 n1 H4 k1 dp1 x1 b4 D4 => ?_⟩
    have S4 := S3.step b4 D4
    refine ⟨_, rfl, rfl, _, rfl, ite2 (fun c => ?_) (fun c => ?_)⟩
    · refine ⟨_, rfl, z2, fun p1 hp1 => ?_⟩
      have S5 := S4.new (o := .tup [.str "not", .str "minus"]) hp1
      refine ⟨d, s, p1, ns, _, _, [.str "not", .str "minus"], rfl, S5.dr, ne2 S4 hp1, .inr (SqT.of upd_same), (by intro z; cases z), fun v2 H6 hv2 b6 D6 => ⟨_, rfl, z2, fun t5 ht5 => ?_⟩⟩
      have S6 := S5.step b6 D6
      have S7 := S6.new (o := .tup [v2, v1]) ht5
      have x2 : ExAt (upd H6 t5 (.tup [v2, v1])) v1 e1 := ((x1.keep fun a xs e => same_upd hp1 _ _ e).keep (tp S5 b6)).keep fun a xs e => same_upd ht5 _ _ e
      obtain ⟨op, hop, rfl⟩ := mem_strs (l := ["not", "minus"]) hv2
      simp only [List.mem_cons, List.not_mem_nil, or_false] at hop
      rcases hop with rfl | rfl
      · exact q' (.ref t5) (.nt e1) _ _ (.nt k1) (by show e1.dep + 1 ≤ m + 2; omega) ⟨t5, _, rfl, upd_same, x2⟩ S7
      · exact q' (.ref t5) (.mn e1) _ _ (.mn k1) (by show e1.dep + 1 ≤ m + 2; omega) ⟨t5, _, rfl, upd_same, x2⟩ S7
    · refine ⟨_, rfl, (by show 13 ≤ sizeLine; decide), fun p1 hp1 => ?_⟩
      have S5 := S4.new (o := .tup (ops13.map V.str)) hp1
      refine ⟨d, s, p1, ns, _, _, ops13.map V.str, rfl, S5.dr, ne2 S4 hp1, .inr (SqT.of upd_same), (by intro z; cases z), fun v2 H6 hv2 b6 D6 => ?_⟩
      have S6 := S5.step b6 D6
      refine ⟨_, rfl, _, rfl, _, rfl, _, rfl, _, _, rfl, rfl, d, s, cols, cl, kf, ns, _, _, deep - 1, rfl, S6.dr, Cb S6, hk, by omega, by omega, fun v3 e3 n3 H7 k3 dp3 x3 b7 D7 => ⟨z4, fun t5 ht5 => ?_⟩⟩
      have S7 := S6.step b7 D7
      have S8 := S7.new (o := .tup [.str "two", v2, v1, v3]) ht5
      have x2 : ExAt (upd H7 t5 (.tup [.str "two", v2, v1, v3])) v1 e1 := (((x1.keep fun a xs e => same_upd hp1 _ _ e).keep (tp S5 b6)).keep (tp S6 b7)).keep fun a xs e => same_upd ht5 _ _ e
      have x4 : ExAt (upd H7 t5 (.tup [.str "two", v2, v1, v3])) v3 e3 := x3.keep fun a xs e => same_upd ht5 _ _ e
      obtain ⟨op, hop, rfl⟩ := mem_strs hv2
      exact q' (.ref t5) (.two op e1 e3) _ _ (.arith (ops13_in op hop) k1 k3) (by show max e1.dep e3.dep + 1 ≤ m + 2; omega) ⟨t5, _, _, rfl, upd_same, x2, x4⟩ S8
  -- a column, a number
  all_goals
    refine ⟨_, rfl, Nat.zero_le _, fun p hp => ?_⟩
    have S4 := S3.new (o := .lst []) hp
    refine ⟨.list ((strsOf true cl).map PyData.str), .list [], .lst (SqL.of S4.i1) (dpa_strs _), .lst (SqL.of upd_same) .nil, st1, sh0, _, rfl, ite2 (fun ce => ?_) (fun ce => ?_)⟩
    rotate_left
    · refine ⟨_, rfl, d, s, ns, _, _, _, rfl, S4.dr, (by show (0 : Int) < 6; decide), fun r H7 r0 r1 b7 D7 => ⟨z2, fun t2 ht2 => ?_⟩⟩
      have S7 := S4.step b7 D7
      have S8 := S7.new (o := .tup [.str "number", .int r]) ht2
      exact q' (.ref t2) (.num r) _ _ (.num (by omega)) (by show 1 ≤ m + 2; omega) ⟨t2, rfl, upd_same⟩ S8
    refine ⟨_, rfl, _, _, rfl, rfl, (by show (0 : Int) < 4; decide), _, _, rfl, rfl, _, rfl, ite2 (fun c3 => ?_) (fun c3 => ?_)⟩
    · refine ⟨_, rfl, _, rfl, d, s, D1, ns, _, _, (strsOf true cl).map V.str, rfl, S4.dr, S4.n1, .inl (SqL.of S4.i1), strs_ne ce, fun v2 H7 hv2 b7 D7 => ⟨z2, fun t2 ht2 => ?_⟩⟩
      have S7 := S4.step b7 D7
      have S8 := S7.new (o := .tup [.str "column", v2]) ht2
      obtain ⟨x, rfl, kx⟩ := mem_strsOf hk hv2
      exact q' (.ref t2) (.col x) _ _ (.col kx) (by show 1 ≤ m + 2; omega) ⟨t2, rfl, upd_same⟩ S8
    · refine ⟨_, rfl, d, s, ns, _, _, _, rfl, S4.dr, (by show (0 : Int) < 6; decide), fun r H7 r0 r1 b7 D7 => ⟨z2, fun t2 ht2 => ?_⟩⟩
      have S7 := S4.step b7 D7
      have S8 := S7.new (o := .tup [.str "number", .int r]) ht2
      exact q' (.ref t2) (.num r) _ _ (.num (by omega)) (by show 1 ≤ m + 2; omega) ⟨t2, rfl, upd_same⟩ S8
end
end Kx

namespace Kx
open PySem PySem.Spec PyProof.Rows L2
abbrev s_law_map : Stmt := topS 28
section
variable {P : Program} {w : World} {K : PySem.W.Frag} {mg : Str → Option Value} {base : Heap}
/-! ### _law_map -/
/-- a column that a map makes: where its detail stands, where its pair stands, what it tells, its kind, its name -/
structure MCol where
  det : Addr
  col : Addr
  told : V
  ex : Ex
  kind : Bool
  name : Str
def lates : List Str := ["k", "v", "w", "x", "k0", "v0", "w0", "x0", "k1", "v1", "w1", "x1", "k2", "v2", "w2", "x2"]
theorem lates_ok : ∀ z ∈ lates, PyData.canLay0 (.str z) = true := by decide +kernel
theorem late_in : ∀ a ∈ (["k", "v", "w", "x"] : List Str), ∀ b ∈ (["", "0", "1", "2"] : List Str), a ++ b ∈ lates := by decide +kernel
theorem late_len : ∀ a ∈ (["k", "v", "w", "x"] : List Str), ∀ b ∈ (["", "0", "1", "2"] : List Str), a.length + b.length ≤ sizeLine := by decide +kernel
structure MColAt (H : Hp) (kf : Str → Option Bool) (m : MCol) : Prop where
  at_det : H m.det = some (.tup [m.told, .str m.name])
  at_col : H m.col = some (.tup [.str m.name, .str (kW m.kind)])
  ex : ExAt H m.told m.ex
  kd : Kind kf m.ex m.kind
  dep : m.ex.dep ≤ 4
  nm : m.name ∈ lates
theorem MColAt.keep {H H' : Hp} {kf : Str → Option Bool} {m : MCol} (M : MColAt H kf m) (h : ∀ (a : Addr) (xs : List V), H a = some (.tup xs) → H' a = some (.tup xs)) : MColAt H' kf m :=
  ⟨h _ _ M.at_det, h _ _ M.at_col, M.ex.keep h, M.kd, M.dep, M.nm⟩
structure MapSt (H0 H : Hp) (kf : Str → Option Bool) (d s p1 p2 : Addr) (ns : List Int) (tl : List V) (ms : List MCol) : Prop where
  dr : ∃ n, DrawAt H d s ns tl n
  b : But d H0 H
  f1 : H0 p1 = none
  f2 : H0 p2 = none
  fs : ∃ o, H0 s = some o
  ne : p1 ≠ p2
  n1 : p1 ≠ d
  n2 : p2 ≠ d
  e1 : H p1 = some (.lst (ms.map fun m => .ref m.det))
  e2 : H p2 = some (.lst (ms.map fun m => .ref m.col))
  each : ∀ m ∈ ms, MColAt H kf m
  nod : (ms.map MCol.name).Nodup
theorem MapSt.step {H0 H H' : Hp} {kf : Str → Option Bool} {d s p1 p2 : Addr} {ns : List Int} {tl : List V} {ms : List MCol} {n : Int} (S : MapSt H0 H kf d s p1 p2 ns tl ms) (b : But d H H') (D : DrawAt H' d s ns tl n) : MapSt H0 H' kf d s p1 p2 ns tl ms := by
  obtain ⟨n0, D0⟩ := S.dr
  exact ⟨⟨n, D⟩, S.b.trans b, S.f1, S.f2, S.fs, S.ne, S.n1, S.n2, b _ _ S.n1 S.e1, b _ _ S.n2 S.e2, fun m hm => (S.each m hm).keep (b.tup D0.at_d), S.nod⟩
theorem MapSt.new {H0 H : Hp} {kf : Str → Option Bool} {d s p1 p2 p : Addr} {ns : List Int} {tl : List V} {ms : List MCol} {o : HO} (S : MapSt H0 H kf d s p1 p2 ns tl ms) (h : H p = none) : MapSt H0 (upd H p o) kf d s p1 p2 ns tl ms := by
  obtain ⟨n0, D0⟩ := S.dr
  exact S.step (same_but (same_upd h)) (D0.keep (same_upd h))
theorem MapSt.add {H0 H : Hp} {kf : Str → Option Bool} {d s p1 p2 : Addr} {ns : List Int} {tl : List V} {ms : List MCol} (S : MapSt H0 H kf d s p1 p2 ns tl ms) {m : MCol} (M : MColAt H kf m) (hn : m.name ∉ ms.map MCol.name) :
    MapSt H0 (upd (upd H p1 (.lst ((ms.map fun m => .ref m.det) ++ [.ref m.det]))) p2 (.lst ((ms.map fun m => .ref m.col) ++ [.ref m.col]))) kf d s p1 p2 ns tl (ms ++ [m]) := by
  obtain ⟨n0, D0⟩ := S.dr
  have kp : ∀ {a : Addr} {o : HO}, a ≠ p1 → a ≠ p2 → H a = some o → upd (upd H p1 (.lst ((ms.map fun m => .ref m.det) ++ [.ref m.det]))) p2 (.lst ((ms.map fun m => .ref m.col) ++ [.ref m.col])) a = some o := fun h1 h2 e => by
    rw [upd_ne h2, upd_ne h1]
    exact e
  have kt : ∀ (a : Addr) (xs : List V), H a = some (.tup xs) → upd (upd H p1 (.lst ((ms.map fun m => .ref m.det) ++ [.ref m.det]))) p2 (.lst ((ms.map fun m => .ref m.col) ++ [.ref m.col])) a = some (.tup xs) := fun a xs e =>
    kp (fun q => by rw [q, S.e1] at e; cases e) (fun q => by rw [q, S.e2] at e; cases e) e
  obtain ⟨os, es⟩ := S.fs
  have ks1 : s ≠ p1 := ne_of_none es S.f1
  have ks2 : s ≠ p2 := ne_of_none es S.f2
  have eP1 : upd (upd H p1 (.lst ((ms.map fun m => .ref m.det) ++ [.ref m.det]))) p2 (.lst ((ms.map fun m => .ref m.col) ++ [.ref m.col])) p1 = some (.lst ((ms.map fun m => .ref m.det) ++ [.ref m.det])) := by
    rw [upd_ne S.ne]
    exact upd_same
  refine ⟨⟨n0, kp S.n1.symm S.n2.symm D0.at_d, kp ks1 ks2 D0.at_s, D0.n0⟩, fun c o hc e => kp (ne_of_none e S.f1) (ne_of_none e S.f2) (S.b c o hc e), S.f1, S.f2, S.fs, S.ne, S.n1, S.n2, ?_, ?_, fun x hx => ?_, ?_⟩
  · rw [List.map_append]
    exact eP1
  · rw [List.map_append]
    exact upd_same
  · rcases List.mem_append.mp hx with hx | hx
    · exact (S.each x hx).keep kt
    · rw [List.mem_singleton.mp hx]
      exact M.keep kt
  · rw [List.map_append]
    exact List.nodup_append.mpr ⟨S.nod, by simp, fun a ha b hb e => hn (by
      have : b = m.name := List.mem_singleton.mp hb
      rw [← this, ← e]
      exact ha)⟩
theorem inV_str (z : Str) : ∀ l : List Str, inV (.str z) (l.map V.str) = decide (z ∈ l)
  | [] => rfl
  | x :: r => by
    have ih := inV_str z r
    show (x == z || inV (.str z) (r.map V.str)) = _
    rw [ih]
    by_cases h : x = z
    · subst h
      simp
    · have h' : ¬ z = x := fun e => h e.symm
      simp [h, h']
theorem upd_comm {H : Hp} {a b : Addr} {x y : HO} (h : a ≠ b) : upd (upd H a x) b y = upd (upd H b y) a x := by
  funext c
  by_cases h1 : c = b
  · rw [h1, upd_same, upd_ne h.symm, upd_same]
  · by_cases h2 : c = a
    · rw [h2, upd_ne h, upd_same, upd_same]
    · rw [upd_ne h1, upd_ne h2, upd_ne h2, upd_ne h1]
theorem str_num {i : Nat} (h : i < 3) : Str.ofString (toString ((0 : Int) + (i : Nat))) ∈ (["", "0", "1", "2"] : List Str) := by
  match i, h with
  | 0, _ => decide +kernel
  | 1, _ => decide +kernel
  | 2, _ => decide +kernel
theorem log_num {i : Nat} (h : i < 3) : ((0 : Int) + (i : Nat)).natAbs.log2 < 1920 := by
  match i, h with
  | 0, _ => decide +kernel
  | 1, _ => decide +kernel
  | 2, _ => decide +kernel
theorem notin_strs {z : Str} {l : List Str} {A B : Prop} (h1 : z ∉ l → A) (h2 : z ∈ l → B) : if (if true = true then !inV (.str z) (l.map V.str) else inV (.str z) (l.map V.str)) = true then A else B := by
  rw [if_pos rfl, inV_str]
  by_cases h : z ∈ l
  · rw [decide_eq_true h]
    exact iteF (h2 h)
  · rw [decide_eq_false h]
    exact iteT (h1 h)
theorem flat_strs : ∀ l : List Str, (l.map V.str).all flatV = true
  | [] => rfl
  | _ :: l => flat_strs l
abbrev N_law_map : List Str := ["draw", "columns", "at", "details", "found", "number", "name", "kind", "told", "late", "one", "by"]
def spMap : Sp := fun vs H Q _ => ∃ (d s cols : Addr) (at' : V) (cl : List Col) (kf : Str → Option Bool) (ns : List Int) (tl : List V) (n : Int), vs = [.ref d, .ref cols, at'] ∧ DrawAt H d s ns tl n ∧ ColsAt H cols cl ∧ (∀ c ∈ cl, kf c.2.1 = some c.2.2) ∧ cl ≠ [] ∧
  ∀ (r t f : Addr) (ms : List MCol) (n' : Int) (H' : Hp), H' r = some (.tup [.ref t, .ref f]) → H' t = some (.tup (ms.map fun m => .ref m.det)) → H' f = some (.lst (ms.map fun m => .ref m.col)) → (∀ m ∈ ms, MColAt H' kf m) → (ms.map MCol.name).Nodup → ms ≠ [] → ms.length ≤ 3 → But d H H' → DrawAt H' d s ns tl n' → Q (.ref r) H'
theorem sc_map : FnScope N_law_map ["draw", "columns", "at"] (defScope s_law_map) := ⟨rfl, rfl, rfl, by decide +kernel, rfl, by decide +kernel, by decide +kernel⟩
theorem ok_map {f : Addr} {fd : FuncData} (F : Fun K "_law_map" "_law_map" s_law_map f fd) (m_range : mg "range" = none) (m_str : mg "str" = none) (m_tuple : mg "tuple" = none) (G_law_next : Ready P w K mg base 3 "_law_next" ["draw", "bound"] spNext) (G_law_pick : Ready P w K mg base 4 "_law_pick" ["draw", "things"] (spPick K))
    (G_law_int : Ready P w K mg base 7 "_law_int" ["draw", "columns", "deep"] (spInt 3)) : FnOk P w K mg base CX0 8 f fd ["draw", "columns", "at"] spMap := by
  refine F.ok sc_map (fun vs H Q E h => ?_) (fun cdv A outer s0 H vs Q E hr h => ?_)
  · obtain ⟨d, s, cols, at', cl, kf, ns, tl, n, rfl, _⟩ := h
    rfl
  obtain ⟨d, s, cols, at', cl, kf, ns, tl, n, rfl, D, C, hk, hne, q⟩ := h
  have nd := sc_map.nd
  have hr4 : Room 4 _ := hr.mono (by omega)
  have hr3 : Room 3 _ := hr.mono (by omega)
  refine ⟨_, pss_cons (ps_par (i := 3) (j := 4) rfl nd rfl rfl (by decide) rfl rfl (pa_cons (pe_lst pa_nil) (pa_cons (pe_lst pa_nil) pa_nil)) rfl)
      (pss_cons (ps_for PassesOwn.never rfl (pi_range1 rfl m_range (pa_cons (pe_op op_add pe_int (pe_fn (G_law_next) hr3 (pa_cons (pv 0) (pa_cons pe_int pa_nil)))) pa_nil)) (pg_name (i := 5) nd rfl (.inl rfl)) (pss_cons (ps_if (pt_cmpR op_eq (pe_fn (G_law_next) hr3 (pa_cons (pv 0) (pa_cons pe_int pa_nil))) pe_int (nomark _)) (pss_cons (ps_asg (pe_fn (G_law_pick) hr4 (pa_cons (pv 0) (pa_cons (pv 1) pa_nil))) (pg_tup rfl (pgs_cons (pg_name (i := 6) nd rfl (.inl rfl)) (pgs_cons (pg_name (i := 7) nd rfl (.inl rfl)) pgs_nil))))
      (pss_one (ps_set (i := 8) nd rfl (.inl rfl) (pe_tup (pa_cons pe_str (pa_cons (pv 6) pa_nil)))))) (pss_one (ps_par (i := 8) (j := 7) rfl nd rfl rfl (by decide) rfl rfl (pa_cons (pe_fn (G_law_int) hr (pa_cons (pv 0) (pa_cons (pv 1) (pa_cons pe_int pa_nil)))) (pa_cons pe_str pa_nil)) rfl)))
      (pss_cons (ps_set (i := 9) nd rfl (.inl rfl) (pe_op op_add_str (pe_fn (G_law_pick) hr4 (pa_cons (pv 0) (pa_cons (pe_tup (pa_cons pe_str (pa_cons pe_str (pa_cons pe_str (pa_cons pe_str pa_nil))))) pa_nil))) (pe_ifExp (pt_cmpR op_eq (pe_fn (G_law_next) hr3 (pa_cons (pv 0) (pa_cons pe_int pa_nil))) pe_int (nomark _)) pe_str (pe_callTy call_str_int (by rfl) m_str PyProof.Rows.boot_str (pa_cons (pv 5) pa_nil)))))
      (pss_one (ps_if (pt_cmpR op_notIn_seq (pv 9) (pe_lc (own := [("one", 10), ("by", 11)]) (g := (gTup K 2 (gCons (gName 10) (gCons (gName 11) gNil)))) (tt := tYes) rfl nd (pi_list (pv 4)) (blkOk_by (N := N_law_map) (sc := defScope s_law_map) (by decide +kernel)) (fun _ _ _ _ _ => pg_tup rfl (pgs_cons (pg_name (i := 10) nd rfl (.inl rfl)) (pgs_cons (pg_name (i := 11) nd rfl (.inl rfl)) pgs_nil))) (fun _ _ _ _ _ => pts_nil) (fun _ _ _ _ _ => (pv 10))) rfl) (pss_cons (ps_expr (pe_bm PySem.F.plainAttrs_list PySem.F.slot_list_append PySem.F.type_list_append mt_append (pv 3) (pa_cons (pe_tup (pa_cons (pv 8) (pa_cons (pv 9) pa_nil))) pa_nil)))
      (pss_one (ps_expr (pe_bm PySem.F.plainAttrs_list PySem.F.slot_list_append PySem.F.type_list_append mt_append (pv 4) (pa_cons (pe_tup (pa_cons (pv 9) (pa_cons (pv 7) pa_nil))) pa_nil))))) (pss_nil))))))
      (pss_one (ps_ret (pe_tup (pa_cons (pe_callTy call_tuple_of (by rfl) m_tuple PyProof.Rows.boot_tuple (pa_cons (pv 3) pa_nil)) (pa_cons (pv 4) pa_nil)))))), ?_⟩
  refine ⟨Nat.zero_le _, fun p1 hp1 => ⟨Nat.zero_le _, fun p2 hp2 => ?_⟩⟩
  have hp2' : H p2 = none := by
    by_cases e : p2 = p1
    · rw [e, upd_same] at hp2
      cases hp2
    · rw [upd_ne e] at hp2
      exact hp2
  have S0 : MapSt H (upd (upd H p1 (.lst [])) p2 (.lst [])) kf d s p1 p2 ns tl [] := by
    have s1 := (same_upd (o := .lst []) hp1).trans (same_upd (o := .lst []) hp2)
    exact ⟨⟨n, D.keep s1⟩, same_but s1, hp1, hp2', ⟨_, D.at_s⟩, ne_of_none upd_same hp2, (ne_of_none D.at_d hp1).symm, (ne_of_none D.at_d hp2').symm, same_upd hp2 _ _ upd_same, upd_same, fun m hm => (List.not_mem_nil hm).elim, List.nodup_nil⟩
  obtain ⟨n0, D0⟩ := S0.dr
  refine ⟨_, _, rfl, ?_⟩
  refine ⟨_, rfl, d, s, ns, tl, _, _, rfl, D0, (by show (0 : Int) < 3; decide), fun r H1 r0 r1 b1 D1 => ?_⟩
  have S1 := S0.step b1 D1
  clear S0 D0 b1 D1 hp2
  refine ⟨_, _, rfl, rfl, _, rfl, by omega, by omega, ?_⟩
  have z2 : 2 ≤ sizeLine := by decide
  have z4 : 4 ≤ sizeLine := by decide
  have cne := C.ne D
  have clne : (cl.map fun c => V.ref c.1) ≠ [] := fun e => hne (List.map_eq_nil_iff.mp e)
  refine for_range (fun i σ H' => ∃ y5 y6 y7 y8 y9 y10 y11 ms, σ = [some (.ref d), some (.ref cols), some at', some (.ref p1), some (.ref p2), y5, y6, y7, y8, y9, y10, y11] ∧ MapSt H H' kf d s p1 p2 ns tl ms ∧ ms.length ≤ i ∧ (0 < i → ms ≠ [])) ⟨none, none, none, none, none, none, none, [], rfl, S1, Nat.le_refl _, fun h => absurd h (Nat.lt_irrefl _)⟩ ?_ ?_
  · rintro i σ H2 hi ⟨y5, y6, y7, y8, y9, y10, y11, ms, rfl, S2, hl, hz⟩
    obtain ⟨n2, D2⟩ := S2.dr
    refine ⟨_, rfl, d, s, ns, tl, _, _, rfl, D2, (by show (0 : Int) < 2; decide), fun r2 H3 _ _ b3 D3 => ?_⟩
    have S3 := S2.step b3 D3
    clear S2 D2 b3
    refine ⟨rfl, _, rfl, ite2 (fun c => ?_) (fun c => ?_)⟩
    · have C3 := C.but D S3.b
      refine ⟨_, rfl, _, rfl, d, s, cols, ns, tl, _, _, rfl, D3, cne, .inl (SqL.of C3.all), clne, fun v H4 hv b4 D4 => ?_⟩
      have S4 := S3.step b4 D4
      obtain ⟨⟨a, x, kb⟩, hc, rfl⟩ := List.mem_map.mp hv
      have C4 := C.but D S4.b
      refine ⟨a, _, rfl, SqT.of (C4.each _ hc), rfl, _, _, rfl, _, _, rfl, rfl, ?_⟩
      refine ⟨_, rfl, z2, fun t ht => ?_⟩
      have S5 := S4.new (o := .tup [.str "column", .str x]) ht
      obtain ⟨e, xe, ke, de⟩ : ∃ e, ExAt (upd H4 t (.tup [.str "column", .str x])) (.ref t) e ∧ Kind kf e kb ∧ e.dep ≤ 4 := ⟨.col x, ⟨t, rfl, upd_same⟩, .col (hk _ hc), by show 1 ≤ 4; omega⟩
      obtain ⟨kw, hw⟩ : ∃ kw, kw = kW kb := ⟨_, rfl⟩
      rw [← hw]
      obtain ⟨n5', D5'⟩ := S5.dr
      refine ⟨_, rfl, z4, fun q1 hq1 => ?_⟩
      have S6 := S5.new (o := .tup [.str "k", .str "v", .str "w", .str "x"]) hq1
      obtain ⟨n6, D6⟩ := S6.dr
      refine ⟨d, s, q1, ns, tl, _, [.str "k", .str "v", .str "w", .str "x"], rfl, D6, (ne_of_none D5'.at_d hq1).symm, .inr (SqT.of upd_same), (by intro z; cases z), fun v1 H7 hv1 b7 D7 => ?_⟩
      have S7 := S6.step b7 D7
      refine ⟨_, rfl, d, s, ns, tl, _, _, rfl, D7, (by show (0 : Int) < 2; decide), fun r3 H8 _ _ b8 D8 => ⟨rfl, _, rfl, ?_⟩⟩
      have S8 := S7.step b8 D8
      have x8 := ((xe.keep (fun a xs e => same_upd (o := .tup [.str "k", .str "v", .str "w", .str "x"]) hq1 _ _ e)).keep (b7.tup D6.at_d)).keep (b8.tup D7.at_d)
      obtain ⟨a1, ha1, rfl⟩ := mem_strs (l := ["k", "v", "w", "x"]) hv1
      clear S3 S5 S6 S7 xe b7 b8 D5' D6 D7 D8 D3
      refine ite2 (fun c => ⟨a1, "", rfl, rfl, late_len _ ha1 _ (by decide +kernel), ?_⟩) (fun c => ⟨_, rfl, _, rfl, log_num (by omega), a1, _, rfl, rfl, late_len a1 ha1 _ (str_num (by omega)), ?_⟩)
      · have hzl := late_in a1 ha1 "" (by decide +kernel)
        generalize a1 ++ ("" : Str) = z at hzl ⊢
        obtain ⟨n8, D8⟩ := S8.dr
        refine ⟨_, rfl, _, rfl, p2, rfl, ⟨_, SqL.of S8.e2⟩, fun D1 hD1 => lc_list (xs := ms.map fun m => .ref m.col) (fun j H' => Same H8 H' ∧ H' D1 = some (.lst ((ms.take j).map fun m => V.str m.name))) ⟨same_upd hD1, upd_same⟩ (fun j H' _ h => SqL.of (h.1 _ _ S8.e2)) ?_ ?_⟩
        · rintro j x' H' hx ⟨sm, e9⟩
          have nD : ∀ {o}, Same H8 (upd H' D1 o) := fun b o' e' => by
            rw [upd_ne (ne_of_none e' hD1)]
            exact sm _ _ e'
          rw [List.getElem?_map] at hx
          obtain ⟨m, hm, rfl⟩ := Option.map_eq_some_iff.mp hx
          have M := S8.each m (List.mem_of_getElem? hm)
          refine ⟨m.col, _, rfl, SqT.of (sm _ _ M.at_col), rfl, _, _, rfl, _, _, rfl, rfl, rfl, ?_⟩
          refine ⟨_, rfl, _, e9, ?_, nD, ?_⟩
          · rw [List.length_map]
            have h1 : (ms.take j).length ≤ ms.length := by rw [List.length_take]; omega
            exact Nat.lt_of_le_of_lt (show _ ≤ 3 by omega) (by decide)
          · have h1 : ms.take (j + 1) = ms.take j ++ [m] := by
              rw [List.take_add_one, hm]
              rfl
            rw [h1, List.map_append]
            exact upd_same
        rintro H9 ⟨s9, e9⟩
        have e9' : H9 D1 = some (.lst ((ms.map MCol.name).map V.str)) := by
          rw [List.length_map, List.take_length] at e9
          rw [List.map_map]
          exact e9
        have S9 := S8.step (same_but s9) (D8.keep s9)
        have x9 := x8.keep (fun a xs e => s9 a _ e)
        clear S8 D8 s9 e9 x8
        refine ⟨D1, (ms.map MCol.name).map V.str, rfl, .inl (SqL.of e9'), rfl, flat_strs _, _, rfl, notin_strs (fun hn => ?_) (fun hn => ?_)⟩
        · have m3 : ∀ {f : MCol → V}, (ms.map f).length < sizeLine := by
            intro f
            rw [List.length_map]
            exact Nat.lt_of_le_of_lt (show _ ≤ 3 by omega) (by decide)
          refine ⟨_, rfl, .inl ⟨rfl, _, SqL.of S9.e1⟩, _, rfl, _, rfl, z2, fun t1 ht1 => ?_⟩
          have S10 := S9.new (o := .tup [.ref t, .str z]) ht1
          refine ⟨p1, _, _, rfl, rfl, S10.e1, m3, ?_⟩
          have E2 := S10.e2
          refine ⟨_, rfl, .inl ⟨rfl, _, SqL.of (by rw [upd_ne S10.ne.symm]; exact E2)⟩, _, rfl, _, rfl, z2, fun t2 ht2 => ?_⟩
          have ne2 : p1 ≠ t2 := ne_of_none upd_same ht2
          have ht2' : upd H9 t1 (.tup [.ref t, .str z]) t2 = none := by
            rw [upd_ne ne2.symm] at ht2
            exact ht2
          rw [upd_comm ne2]
          have S11 := S10.new (o := .tup [.str z, .str kw]) ht2'
          refine ⟨p2, _, _, rfl, rfl, by rw [upd_ne S11.ne.symm]; exact S11.e2, m3, ?_⟩
          have M : MColAt _ kf { det := t1, col := t2, told := .ref t, ex := e, kind := kb, name := z } := ⟨same_upd ht2' _ _ upd_same, (by rw [← hw]; exact upd_same), (x9.keep (fun a xs e => same_upd ht1 _ _ e)).keep (fun a xs e => same_upd ht2' _ _ e), ke, de, hzl⟩
          exact ⟨_, _, _, _, _, _, _, _, rfl, S11.add M hn, (by rw [List.length_append]; show ms.length + 1 ≤ i + 1; omega), fun _ h => by cases ms <;> cases h⟩
        · exact ⟨_, _, _, _, _, _, _, ms, rfl, S9, by omega, fun _ h => by rw [h] at hn; cases hn⟩
      · have hzl := late_in a1 ha1 _ (str_num (i := i) (by omega))
        generalize a1 ++ Str.ofString (toString ((0 : Int) + (i : Nat))) = z at hzl ⊢
        obtain ⟨n8, D8⟩ := S8.dr
        refine ⟨_, rfl, _, rfl, p2, rfl, ⟨_, SqL.of S8.e2⟩, fun D1 hD1 => lc_list (xs := ms.map fun m => .ref m.col) (fun j H' => Same H8 H' ∧ H' D1 = some (.lst ((ms.take j).map fun m => V.str m.name))) ⟨same_upd hD1, upd_same⟩ (fun j H' _ h => SqL.of (h.1 _ _ S8.e2)) ?_ ?_⟩
        · rintro j x' H' hx ⟨sm, e9⟩
          have nD : ∀ {o}, Same H8 (upd H' D1 o) := fun b o' e' => by
            rw [upd_ne (ne_of_none e' hD1)]
            exact sm _ _ e'
          rw [List.getElem?_map] at hx
          obtain ⟨m, hm, rfl⟩ := Option.map_eq_some_iff.mp hx
          have M := S8.each m (List.mem_of_getElem? hm)
          refine ⟨m.col, _, rfl, SqT.of (sm _ _ M.at_col), rfl, _, _, rfl, _, _, rfl, rfl, rfl, ?_⟩
          refine ⟨_, rfl, _, e9, ?_, nD, ?_⟩
          · rw [List.length_map]
            have h1 : (ms.take j).length ≤ ms.length := by rw [List.length_take]; omega
            exact Nat.lt_of_le_of_lt (show _ ≤ 3 by omega) (by decide)
          · have h1 : ms.take (j + 1) = ms.take j ++ [m] := by
              rw [List.take_add_one, hm]
              rfl
            rw [h1, List.map_append]
            exact upd_same
        rintro H9 ⟨s9, e9⟩
        have e9' : H9 D1 = some (.lst ((ms.map MCol.name).map V.str)) := by
          rw [List.length_map, List.take_length] at e9
          rw [List.map_map]
          exact e9
        have S9 := S8.step (same_but s9) (D8.keep s9)
        have x9 := x8.keep (fun a xs e => s9 a _ e)
        clear S8 D8 s9 e9 x8
        refine ⟨D1, (ms.map MCol.name).map V.str, rfl, .inl (SqL.of e9'), rfl, flat_strs _, _, rfl, notin_strs (fun hn => ?_) (fun hn => ?_)⟩
        · have m3 : ∀ {f : MCol → V}, (ms.map f).length < sizeLine := by
            intro f
            rw [List.length_map]
            exact Nat.lt_of_le_of_lt (show _ ≤ 3 by omega) (by decide)
          refine ⟨_, rfl, .inl ⟨rfl, _, SqL.of S9.e1⟩, _, rfl, _, rfl, z2, fun t1 ht1 => ?_⟩
          have S10 := S9.new (o := .tup [.ref t, .str z]) ht1
          refine ⟨p1, _, _, rfl, rfl, S10.e1, m3, ?_⟩
          have E2 := S10.e2
          refine ⟨_, rfl, .inl ⟨rfl, _, SqL.of (by rw [upd_ne S10.ne.symm]; exact E2)⟩, _, rfl, _, rfl, z2, fun t2 ht2 => ?_⟩
          have ne2 : p1 ≠ t2 := ne_of_none upd_same ht2
          have ht2' : upd H9 t1 (.tup [.ref t, .str z]) t2 = none := by
            rw [upd_ne ne2.symm] at ht2
            exact ht2
          rw [upd_comm ne2]
          have S11 := S10.new (o := .tup [.str z, .str kw]) ht2'
          refine ⟨p2, _, _, rfl, rfl, by rw [upd_ne S11.ne.symm]; exact S11.e2, m3, ?_⟩
          have M : MColAt _ kf { det := t1, col := t2, told := .ref t, ex := e, kind := kb, name := z } := ⟨same_upd ht2' _ _ upd_same, (by rw [← hw]; exact upd_same), (x9.keep (fun a xs e => same_upd ht1 _ _ e)).keep (fun a xs e => same_upd ht2' _ _ e), ke, de, hzl⟩
          exact ⟨_, _, _, _, _, _, _, _, rfl, S11.add M hn, (by rw [List.length_append]; show ms.length + 1 ≤ i + 1; omega), fun _ h => by cases ms <;> cases h⟩
        · exact ⟨_, _, _, _, _, _, _, ms, rfl, S9, by omega, fun _ h => by rw [h] at hn; cases hn⟩
    · have C3 := C.but D S3.b
      refine ⟨_, rfl, _, rfl, d, s, cols, cl, kf, ns, tl, _, 2, rfl, D3, C3, hk, by decide, rfl, fun v e n5 H5 ke de xe b5 D5 => ⟨_, _, rfl, ?_⟩⟩
      have S5 := S3.step b5 D5
      obtain ⟨kb, hkb⟩ : ∃ kb : Bool, kb = true := ⟨_, rfl⟩
      have hw : ("int" : Str) = kW kb := by
        rw [hkb]
        rfl
      have ke : Kind kf e kb := hkb ▸ ke
      obtain ⟨n5', D5'⟩ := S5.dr
      refine ⟨_, rfl, z4, fun q1 hq1 => ?_⟩
      have S6 := S5.new (o := .tup [.str "k", .str "v", .str "w", .str "x"]) hq1
      obtain ⟨n6, D6⟩ := S6.dr
      refine ⟨d, s, q1, ns, tl, _, [.str "k", .str "v", .str "w", .str "x"], rfl, D6, (ne_of_none D5'.at_d hq1).symm, .inr (SqT.of upd_same), (by intro z; cases z), fun v1 H7 hv1 b7 D7 => ?_⟩
      have S7 := S6.step b7 D7
      refine ⟨_, rfl, d, s, ns, tl, _, _, rfl, D7, (by show (0 : Int) < 2; decide), fun r3 H8 _ _ b8 D8 => ⟨rfl, _, rfl, ?_⟩⟩
      have S8 := S7.step b8 D8
      have x8 := ((xe.keep (fun a xs e => same_upd (o := .tup [.str "k", .str "v", .str "w", .str "x"]) hq1 _ _ e)).keep (b7.tup D6.at_d)).keep (b8.tup D7.at_d)
      obtain ⟨a1, ha1, rfl⟩ := mem_strs (l := ["k", "v", "w", "x"]) hv1
      clear S3 S5 S6 S7 xe b7 b8 D5' D6 D7 D8 D3
      refine ite2 (fun c => ⟨a1, "", rfl, rfl, late_len _ ha1 _ (by decide +kernel), ?_⟩) (fun c => ⟨_, rfl, _, rfl, log_num (by omega), a1, _, rfl, rfl, late_len a1 ha1 _ (str_num (by omega)), ?_⟩)
      · have hzl := late_in a1 ha1 "" (by decide +kernel)
        generalize a1 ++ ("" : Str) = z at hzl ⊢
        obtain ⟨n8, D8⟩ := S8.dr
        refine ⟨_, rfl, _, rfl, p2, rfl, ⟨_, SqL.of S8.e2⟩, fun D1 hD1 => lc_list (xs := ms.map fun m => .ref m.col) (fun j H' => Same H8 H' ∧ H' D1 = some (.lst ((ms.take j).map fun m => V.str m.name))) ⟨same_upd hD1, upd_same⟩ (fun j H' _ h => SqL.of (h.1 _ _ S8.e2)) ?_ ?_⟩
        · rintro j x' H' hx ⟨sm, e9⟩
          have nD : ∀ {o}, Same H8 (upd H' D1 o) := fun b o' e' => by
            rw [upd_ne (ne_of_none e' hD1)]
            exact sm _ _ e'
          rw [List.getElem?_map] at hx
          obtain ⟨m, hm, rfl⟩ := Option.map_eq_some_iff.mp hx
          have M := S8.each m (List.mem_of_getElem? hm)
          refine ⟨m.col, _, rfl, SqT.of (sm _ _ M.at_col), rfl, _, _, rfl, _, _, rfl, rfl, rfl, ?_⟩
          refine ⟨_, rfl, _, e9, ?_, nD, ?_⟩
          · rw [List.length_map]
            have h1 : (ms.take j).length ≤ ms.length := by rw [List.length_take]; omega
            exact Nat.lt_of_le_of_lt (show _ ≤ 3 by omega) (by decide)
          · have h1 : ms.take (j + 1) = ms.take j ++ [m] := by
              rw [List.take_add_one, hm]
              rfl
            rw [h1, List.map_append]
            exact upd_same
        rintro H9 ⟨s9, e9⟩
        have e9' : H9 D1 = some (.lst ((ms.map MCol.name).map V.str)) := by
          rw [List.length_map, List.take_length] at e9
          rw [List.map_map]
          exact e9
        have S9 := S8.step (same_but s9) (D8.keep s9)
        have x9 := x8.keep (fun a xs e => s9 a _ e)
        clear S8 D8 s9 e9 x8
        refine ⟨D1, (ms.map MCol.name).map V.str, rfl, .inl (SqL.of e9'), rfl, flat_strs _, _, rfl, notin_strs (fun hn => ?_) (fun hn => ?_)⟩
        · have m3 : ∀ {f : MCol → V}, (ms.map f).length < sizeLine := by
            intro f
            rw [List.length_map]
            exact Nat.lt_of_le_of_lt (show _ ≤ 3 by omega) (by decide)
          refine ⟨_, rfl, .inl ⟨rfl, _, SqL.of S9.e1⟩, _, rfl, _, rfl, z2, fun t1 ht1 => ?_⟩
          have S10 := S9.new (o := .tup [v, .str z]) ht1
          refine ⟨p1, _, _, rfl, rfl, S10.e1, m3, ?_⟩
          have E2 := S10.e2
          refine ⟨_, rfl, .inl ⟨rfl, _, SqL.of (by rw [upd_ne S10.ne.symm]; exact E2)⟩, _, rfl, _, rfl, z2, fun t2 ht2 => ?_⟩
          have ne2 : p1 ≠ t2 := ne_of_none upd_same ht2
          have ht2' : upd H9 t1 (.tup [v, .str z]) t2 = none := by
            rw [upd_ne ne2.symm] at ht2
            exact ht2
          rw [upd_comm ne2]
          have S11 := S10.new (o := .tup [.str z, .str "int"]) ht2'
          refine ⟨p2, _, _, rfl, rfl, by rw [upd_ne S11.ne.symm]; exact S11.e2, m3, ?_⟩
          have M : MColAt _ kf { det := t1, col := t2, told := v, ex := e, kind := kb, name := z } := ⟨same_upd ht2' _ _ upd_same, (by rw [← hw]; exact upd_same), (x9.keep (fun a xs e => same_upd ht1 _ _ e)).keep (fun a xs e => same_upd ht2' _ _ e), ke, de, hzl⟩
          exact ⟨_, _, _, _, _, _, _, _, rfl, S11.add M hn, (by rw [List.length_append]; show ms.length + 1 ≤ i + 1; omega), fun _ h => by cases ms <;> cases h⟩
        · exact ⟨_, _, _, _, _, _, _, ms, rfl, S9, by omega, fun _ h => by rw [h] at hn; cases hn⟩
      · have hzl := late_in a1 ha1 _ (str_num (i := i) (by omega))
        generalize a1 ++ Str.ofString (toString ((0 : Int) + (i : Nat))) = z at hzl ⊢
        obtain ⟨n8, D8⟩ := S8.dr
        refine ⟨_, rfl, _, rfl, p2, rfl, ⟨_, SqL.of S8.e2⟩, fun D1 hD1 => lc_list (xs := ms.map fun m => .ref m.col) (fun j H' => Same H8 H' ∧ H' D1 = some (.lst ((ms.take j).map fun m => V.str m.name))) ⟨same_upd hD1, upd_same⟩ (fun j H' _ h => SqL.of (h.1 _ _ S8.e2)) ?_ ?_⟩
        · rintro j x' H' hx ⟨sm, e9⟩
          have nD : ∀ {o}, Same H8 (upd H' D1 o) := fun b o' e' => by
            rw [upd_ne (ne_of_none e' hD1)]
            exact sm _ _ e'
          rw [List.getElem?_map] at hx
          obtain ⟨m, hm, rfl⟩ := Option.map_eq_some_iff.mp hx
          have M := S8.each m (List.mem_of_getElem? hm)
          refine ⟨m.col, _, rfl, SqT.of (sm _ _ M.at_col), rfl, _, _, rfl, _, _, rfl, rfl, rfl, ?_⟩
          refine ⟨_, rfl, _, e9, ?_, nD, ?_⟩
          · rw [List.length_map]
            have h1 : (ms.take j).length ≤ ms.length := by rw [List.length_take]; omega
            exact Nat.lt_of_le_of_lt (show _ ≤ 3 by omega) (by decide)
          · have h1 : ms.take (j + 1) = ms.take j ++ [m] := by
              rw [List.take_add_one, hm]
              rfl
            rw [h1, List.map_append]
            exact upd_same
        rintro H9 ⟨s9, e9⟩
        have e9' : H9 D1 = some (.lst ((ms.map MCol.name).map V.str)) := by
          rw [List.length_map, List.take_length] at e9
          rw [List.map_map]
          exact e9
        have S9 := S8.step (same_but s9) (D8.keep s9)
        have x9 := x8.keep (fun a xs e => s9 a _ e)
        clear S8 D8 s9 e9 x8
        refine ⟨D1, (ms.map MCol.name).map V.str, rfl, .inl (SqL.of e9'), rfl, flat_strs _, _, rfl, notin_strs (fun hn => ?_) (fun hn => ?_)⟩
        · have m3 : ∀ {f : MCol → V}, (ms.map f).length < sizeLine := by
            intro f
            rw [List.length_map]
            exact Nat.lt_of_le_of_lt (show _ ≤ 3 by omega) (by decide)
          refine ⟨_, rfl, .inl ⟨rfl, _, SqL.of S9.e1⟩, _, rfl, _, rfl, z2, fun t1 ht1 => ?_⟩
          have S10 := S9.new (o := .tup [v, .str z]) ht1
          refine ⟨p1, _, _, rfl, rfl, S10.e1, m3, ?_⟩
          have E2 := S10.e2
          refine ⟨_, rfl, .inl ⟨rfl, _, SqL.of (by rw [upd_ne S10.ne.symm]; exact E2)⟩, _, rfl, _, rfl, z2, fun t2 ht2 => ?_⟩
          have ne2 : p1 ≠ t2 := ne_of_none upd_same ht2
          have ht2' : upd H9 t1 (.tup [v, .str z]) t2 = none := by
            rw [upd_ne ne2.symm] at ht2
            exact ht2
          rw [upd_comm ne2]
          have S11 := S10.new (o := .tup [.str z, .str "int"]) ht2'
          refine ⟨p2, _, _, rfl, rfl, by rw [upd_ne S11.ne.symm]; exact S11.e2, m3, ?_⟩
          have M : MColAt _ kf { det := t1, col := t2, told := v, ex := e, kind := kb, name := z } := ⟨same_upd ht2' _ _ upd_same, (by rw [← hw]; exact upd_same), (x9.keep (fun a xs e => same_upd ht1 _ _ e)).keep (fun a xs e => same_upd ht2' _ _ e), ke, de, hzl⟩
          exact ⟨_, _, _, _, _, _, _, _, rfl, S11.add M hn, (by rw [List.length_append]; show ms.length + 1 ≤ i + 1; omega), fun _ h => by cases ms <;> cases h⟩
        · exact ⟨_, _, _, _, _, _, _, ms, rfl, S9, by omega, fun _ h => by rw [h] at hn; cases hn⟩
  · rintro σ H2 ⟨y5, y6, y7, y8, y9, y10, y11, ms, rfl, S2, hl, hz⟩
    refine ⟨_, rfl, p1, _, rfl, .inl ⟨SqL.of S2.e1, fun t ht => ⟨_, rfl, z2, fun rr hrr => ?_⟩⟩⟩
    have S3 := S2.new (o := .tup (ms.map fun m => .ref m.det)) ht
    have S4 := S3.new (o := .tup [.ref t, .ref p2]) hrr
    obtain ⟨n4, D4⟩ := S4.dr
    exact q rr t p2 ms n4 _ upd_same (same_upd hrr _ _ upd_same) S4.e2 S4.each S4.nod (hz (by omega)) (by omega) S4.b D4
end
end Kx

namespace Kx
open PySem PySem.Spec PyProof.Rows L2
abbrev s_law_most : Stmt := topS 31
section
variable {P : Program} {w : World} {K : PySem.W.Frag} {mg : Str → Option Value} {base : Heap}
/-! ### _law_most -/
abbrev N_law_most : List Str := ["draw", "step", "some", "one"]
theorem sc_most : FnScope N_law_most ["draw", "step"] (defScope s_law_most) := ⟨rfl, rfl, rfl, by decide +kernel, rfl, by decide +kernel, by decide +kernel⟩
def spMost : Sp := fun vs H Q _ => ∃ (d s g st inp : Addr) (ns : List Int) (tl : List V) (n : Int) (nm det : V) (kind : Str) (is : List Str) (js : List Int) (kvs : List (L2.Key × V)), vs = [.ref d, .ref st] ∧ DrawAt H d s ns (.ref g :: tl) n ∧ H g = some (.dK kvs) ∧
  H st = some (.tup [nm, .str kind, .ref inp, det]) ∧ H inp = some (.tup (is.map V.str)) ∧ is.length = js.length ∧ js.length ≤ 1000 ∧ (∀ (i : Nat) (x : Str), is[i]? = some x → ∃ j : Int, js[i]? = some j ∧ valV kvs (.inr x) = some (.int j)) ∧
  (kind = "join" → ∃ a b : Int, js = [a, b] ∧ 0 ≤ a ∧ a ≤ 400 ∧ 0 ≤ b ∧ b ≤ 400 ∧ 0 ≤ a * b ∧ a * b ≤ 400) ∧ (kind ≠ "join" → 0 ≤ js.sum ∧ js.sum ≤ 400) ∧
  (kind = "sort" → ∃ (da : Addr) (x : V) (m : Int), det = .ref da ∧ H da = some (.tup [x, .int m]) ∧ 0 ≤ m) ∧ ∀ (j : Int) (H' : Hp), 0 ≤ j → j ≤ 400 → Same H H' → Q (.int j) H'
theorem at3 {a b c e : V} {tl : List V} : atI (a :: b :: c :: e :: tl) 3 = some e := atI_nat (j := 3) rfl
theorem ok_most {f : Addr} {fd : FuncData} (F : Fun K "_law_most" "_law_most" s_law_most f fd) (m_sum : mg "sum" = none) (m_min : mg "min" = none) : FnOk P w K mg base CX0 1 f fd ["draw", "step"] spMost := by
  refine F.ok sc_most (fun vs H Q E h => ?_) (fun cdv A outer s0 H vs Q E hr h => ?_)
  · obtain ⟨d, s, g, st, inp, ns, tl, n, nm, det, kind, is, js, kvs, rfl, _⟩ := h
    rfl
  obtain ⟨d, s, g, st, inp, ns, tl, n, nm, det, kind, is, js, kvs, rfl, D, eg, es, ei, il, jl, hv, hj, hj2, hs, q⟩ := h
  have nd := sc_most.nd
  have hu64 : _ + 64 < cLine := hr.units
  have z2 : 2 ≤ sizeLine := by decide
  have hu1 : _ + 1 < cLine := Nat.lt_of_le_of_lt (Nat.add_le_add_left (by decide : 1 ≤ 64) _) hu64
  refine ⟨_, pss_cons (ps_setLc (i := 2) (own := [("one", 3)]) (g := gName 3) (tt := tYes) rfl nd rfl rfl (sw_true rfl rfl rfl (by decide +kernel)) (pi_tup (pe_ix ix_tup (pv 1) pe_int (fun _ _ => rfl))) (blkOk_by (N := N_law_most) (sc := defScope s_law_most) (by decide +kernel)) (fun _ _ _ _ _ => pg_name (i := 3) nd rfl (Or.inl rfl)) (fun _ _ _ _ _ => pts_nil) (fun _ _ _ _ _ => (pe_dget hu1 (pe_ix (show IxR _ (rIxL K) from ix_list) (pv 0) pe_int (fun _ _ => rfl)) (pv 3) (fun _ _ => rfl))))
      (pss_cons (ps_if (pt_cmpR op_eq (pe_ix ix_tup (pv 1) pe_int (fun _ _ => rfl)) pe_str (nomark _)) (pss_one (ps_ret (pe_op op_mul (pe_ix ix_list (pv 2) pe_int (fun _ _ => rfl)) (pe_ix ix_list (pv 2) pe_int (fun _ _ => rfl))))) (pss_nil))
      (pss_one (ps_ret (pe_ifExp (pt_cmpR op_eq (pe_ix ix_tup (pv 1) pe_int (fun _ _ => rfl)) pe_str (nomark _)) (pe_callB (cr_min rfl) (by rfl) m_min boot_min (pa_cons (pe_lst (pa_cons (pe_callB (cr_sum rfl) (by rfl) m_sum boot_sum (pa_cons (pv 2) pa_nil)) (pa_cons (pe_ix ix_tup (pe_ix ix_tup (pv 1) pe_int (fun _ _ => rfl)) pe_int (fun _ _ => rfl)) pa_nil))) pa_nil)) (pe_callB (cr_sum rfl) (by rfl) m_sum boot_sum (pa_cons (pv 2) pa_nil)))))), ?_⟩
  refine ⟨_, rfl, st, _, 2, _, rfl, rfl, SqT.of es, rfl, inp, rfl, ⟨_, SqT.of ei⟩, fun D1 hD1 => lc_tup (xs := is.map V.str) (fun i H' => Same H H' ∧ H' D1 = some (.lst ((js.take i).map V.int))) ⟨same_upd hD1, upd_same⟩ (fun i H' _ h => SqT.of (h.1 _ _ ei)) ?_ ?_⟩
  · rintro i x H' hx ⟨sm, e⟩
    have nD : ∀ {o}, Same H (upd H' D1 o) := fun b o' e' => by
      rw [upd_ne (ne_of_none e' hD1)]
      exact sm _ _ e'
    rw [List.getElem?_map] at hx
    obtain ⟨z, hz, rfl⟩ := Option.map_eq_some_iff.mp hx
    obtain ⟨j, hj', ej⟩ := hv i z hz
    have gt : DGet H' g (.str z) (some (.int j)) := ej ▸ DGet.k (k := .inr z) (sm _ _ eg)
    refine ⟨rfl, ?_⟩
    refine ⟨_, rfl, d, _, 3, _, rfl, rfl, SqL.of (sm _ _ D.at_d), at3, _, rfl, g, _, rfl, gt, _, e, ?_, nD, ?_⟩
    · rw [List.length_map]
      have h1 : (js.take i).length ≤ js.length := by rw [List.length_take]; omega
      exact Nat.lt_of_le_of_lt (show _ ≤ 1000 by omega) (by decide)
    · have h1 : js.take (i + 1) = js.take i ++ [j] := by
        rw [List.take_add_one, hj']
        rfl
      rw [h1, List.map_append]
      exact upd_same
  rintro H1 ⟨s1, e1⟩
  rw [List.length_map, il, List.take_length] at e1
  refine ⟨_, rfl, st, _, 1, _, rfl, rfl, SqT.of (s1 _ _ es), rfl, rfl, _, rfl, ite2 (fun c => ?_) (fun c => ?_)⟩
  · have ek : kind = "join" := by
      have := of_decide_eq_true c
      injection this
    obtain ⟨a, b, rfl, a0, a1, b0, b1, p0, p1⟩ := hj ek
    refine ⟨_, rfl, D1, _, 0, _, rfl, rfl, SqL.of e1, rfl, _, rfl, D1, _, 1, _, rfl, rfl, SqL.of e1, rfl, _, _, rfl, rfl, ?_, ?_⟩
    · exact .inl (by show _ ∧ _; omega)
    · exact q _ _ p0 p1 s1
  · have nj : kind ≠ "join" := fun e => c (decide_eq_true (by rw [e]))
    obtain ⟨q0, q1⟩ := hj2 nj
    refine ⟨_, rfl, st, _, 1, _, rfl, rfl, SqT.of (s1 _ _ es), rfl, rfl, _, rfl, ite2 (fun c2 => ?_) (fun c2 => ⟨_, rfl, D1, js, rfl, SqL.of e1, q _ _ q0 q1 s1⟩)⟩
    have ek : kind = "sort" := by
      have := of_decide_eq_true c2
      injection this
    obtain ⟨da, x, m, rfl, ed, m0⟩ := hs ek
    refine ⟨_, rfl, D1, js, rfl, SqL.of e1, ?_⟩
    refine ⟨_, rfl, st, _, 3, _, rfl, rfl, SqT.of (s1 _ _ es), rfl, da, _, 1, _, rfl, rfl, SqT.of (s1 _ _ ed), rfl, z2, fun p hp => ?_⟩
    refine ⟨p, [_, m], rfl, SqL.of upd_same, (by show 0 < 2; decide), fun k hk hle => q _ _ ?_ ?_ (s1.trans (same_upd hp))⟩
    · rcases List.mem_cons.mp hk with rfl | hk
      · exact q0
      · rw [List.mem_singleton.mp hk]
        exact m0
    · exact Int.le_trans (hle _ List.mem_cons_self) q1
end
end Kx

namespace Kx
open PySem PySem.Spec PyProof.Rows L2
theorem nodup_len : ∀ {M ks : List L2.Key}, M.Nodup → (∀ z ∈ M, z ∈ ks) → M.length ≤ ks.length
  | [], _, _, _ => Nat.zero_le _
  | x :: M, ks, hn, hs => by
    have hn' := List.nodup_cons.mp hn
    obtain ⟨u, t, rfl⟩ := List.append_of_mem (hs x List.mem_cons_self)
    have h1 : M.length ≤ (u ++ t).length := nodup_len hn'.2 fun z hz => by
      have h2 := List.mem_append.mp (hs z (List.mem_cons_of_mem _ hz))
      rcases h2 with h2 | h2
      · exact List.mem_append_left _ h2
      rcases List.mem_cons.mp h2 with e | h2
      · rw [e] at hz
        exact absurd hz hn'.1
      · exact List.mem_append_right _ h2
    rw [List.length_append] at h1
    rw [List.length_append, List.length_cons, List.length_cons]
    omega
section
variable {X : Cx}
/-- len of a set of ints and texts -/
def rLenK (P : Program) (w : World) : List V → Hp → VK → Prop := fun vs H Q => ∃ (a : Addr) (L : List L2.Key), vs = [.ref a] ∧ H a = some (Yk.SetKO P w a L) ∧ Q (.int (L.length : Nat)) H
theorem cr_lenK : CallR X (.builtin "len") (rLenK X.prog X.w) := by
  intro pins s σ H vs us Q I r h
  obtain ⟨a, L, rfl, ha, q⟩ := h
  rw [Vals.ref1 r]
  obtain ⟨o, es, ep, t, ho, hex, hd, _, eL, _, hb, hf, _⟩ := Yk.setKO_get I ha
  have len : L.length = es.size := by
    rw [eL, List.length_map, Array.length_toList]
  have hb2 : es.size < 2 ^ 63 := Nat.lt_of_lt_of_le hb (by decide)
  exact call_len_set ho hex hd hf (by omega) ⟨.int (L.length : Nat), H, I.tok _, ⟨_, by rw [len]⟩, q⟩
end
/-- a list whose set has as many things has no thing twice -/
theorem len_nodup : ∀ {ks M : List L2.Key}, M.Nodup → (∀ z, z ∈ M ↔ z ∈ ks) → ks.length ≤ M.length → ks.Nodup
  | [], _, _, _, _ => List.nodup_nil
  | x :: r, M, hn, hm, hl => by
    by_cases hx : x ∈ r
    · have h1 := nodup_len (ks := r) hn fun z hz => by
        rcases List.mem_cons.mp ((hm z).mp hz) with e | h
        · rw [e]
          exact hx
        · exact h
      rw [List.length_cons] at hl
      omega
    · have xM : x ∈ M := (hm x).mpr List.mem_cons_self
      obtain ⟨u, v, rfl⟩ := List.append_of_mem xM
      have hp := List.nodup_cons.mp ((List.perm_middle (l₁ := u) (a := x) (l₂ := v)).nodup hn)
      refine List.nodup_cons.mpr ⟨hx, len_nodup (M := u ++ v) hp.2 (fun z => ?_) ?_⟩
      · have h0 := hm z
        rw [(List.perm_middle (l₁ := u) (a := x) (l₂ := v)).mem_iff, List.mem_cons, List.mem_cons] at h0
        constructor
        · intro h
          rcases h0.mp (.inr h) with e | h2
          · exact absurd (e ▸ h) hp.1
          · exact h2
        · intro h
          rcases h0.mpr (.inr h) with e | h2
          · exact absurd (e ▸ h) hx
          · exact h2
      · rw [List.length_append] at hl ⊢
        rw [List.length_cons, List.length_cons] at hl
        omega
theorem nodup_strs {l : List Str} (h : (l.map fun x => (Sum.inr x : L2.Key)).Nodup) : l.Nodup :=
  (List.pairwise_map.mp h).imp fun ne e => ne (congrArg Sum.inr e)
/-- every name that a drawn column can have -/
def allNames : List Str := (["k", "t", "n", "m", "f0", "f1", "f2", "c"] : List Str) ++ lates
theorem few_names {l : List Str} (hn : l.Nodup) (h : ∀ x ∈ l, x ∈ allNames) : l.length ≤ 24 := by
  have h1 := nodup_len (M := l.map fun x => (Sum.inr x : L2.Key)) (ks := allNames.map fun x => (Sum.inr x : L2.Key)) (List.pairwise_map.mpr (hn.imp fun ne e => ne (Sum.inr.inj e))) fun z hz => by
    obtain ⟨x, hx, rfl⟩ := List.mem_map.mp hz
    exact List.mem_map.mpr ⟨x, h x hx, rfl⟩
  rw [List.length_map, List.length_map] at h1
  exact h1
end Kx

namespace Kx
open PySem PySem.Spec PyProof.Rows L2
abbrev s_law_fold : Stmt := topS 29
/-- a fold that the law draws: where its detail stands, where its pair stands, its word, what it tells, its expression, that one's kind, its name -/
structure FCol where
  det : Addr
  col : Addr
  op : Str
  told : V
  ex : Option Ex
  kind : Bool
  name : Str
def folds6 : List Str := ["count", "sum", "least", "greatest", "mean", "unlike"]
def lateK (op : Str) (k : Bool) : Bool := if op ∈ (["least", "greatest"] : List Str) then k else true
def FTold (H : Hp) (kf : Str → Option Bool) (op : Str) (told : V) (k : Bool) : Option Ex → Prop
  | none => op = "count" ∧ told = .non ∧ k = true
  | some e => op ≠ "count" ∧ ExAt H told e ∧ Kind kf e k ∧ e.dep ≤ 3 ∧ (op ∉ (["least", "unlike", "greatest"] : List Str) → k = true)
theorem FTold.keep {H H' : Hp} {kf : Str → Option Bool} {op : Str} {told : V} {k : Bool} {oe : Option Ex} (t : FTold H kf op told k oe) (h : ∀ (a : Addr) (xs : List V), H a = some (.tup xs) → H' a = some (.tup xs)) : FTold H' kf op told k oe := by
  cases oe with
  | none => exact t
  | some e => exact ⟨t.1, t.2.1.keep h, t.2.2⟩
def fnames : List Str := ["f0", "f1", "f2", "c"]
structure FColAt (H : Hp) (kf : Str → Option Bool) (m : FCol) : Prop where
  at_det : H m.det = some (.tup [.str m.op, m.told, .str m.name])
  at_col : H m.col = some (.tup [.str m.name, .str (kW (lateK m.op m.kind))])
  told : FTold H kf m.op m.told m.kind m.ex
  op : m.op ∈ folds6
  nm : m.name ∈ fnames
theorem FColAt.keep {H H' : Hp} {kf : Str → Option Bool} {m : FCol} (M : FColAt H kf m) (h : ∀ (a : Addr) (xs : List V), H a = some (.tup xs) → H' a = some (.tup xs)) : FColAt H' kf m :=
  ⟨h _ _ M.at_det, h _ _ M.at_col, M.told.keep h, M.op, M.nm⟩
structure FSt (H0 H : Hp) (kf : Str → Option Bool) (d s p1 p2 : Addr) (ks : List Col) (ns : List Int) (tl : List V) (fs : List FCol) : Prop where
  dr : ∃ n, DrawAt H d s ns tl n
  b : But d H0 H
  f1 : H0 p1 = none
  f2 : H0 p2 = none
  fs' : ∃ o, H0 s = some o
  ne : p1 ≠ p2
  n1 : p1 ≠ d
  n2 : p2 ≠ d
  e1 : H p1 = some (.lst (fs.map fun m => .ref m.det))
  e2 : H p2 = some (.lst ((ks.map fun c => .ref c.1) ++ fs.map fun m => .ref m.col))
  each : ∀ m ∈ fs, FColAt H kf m
theorem FSt.step {H0 H H' : Hp} {kf : Str → Option Bool} {d s p1 p2 : Addr} {ks : List Col} {ns : List Int} {tl : List V} {fs : List FCol} {n : Int} (S : FSt H0 H kf d s p1 p2 ks ns tl fs) (b : But d H H') (D : DrawAt H' d s ns tl n) : FSt H0 H' kf d s p1 p2 ks ns tl fs := by
  obtain ⟨n0, D0⟩ := S.dr
  exact ⟨⟨n, D⟩, S.b.trans b, S.f1, S.f2, S.fs', S.ne, S.n1, S.n2, b _ _ S.n1 S.e1, b _ _ S.n2 S.e2, fun m hm => (S.each m hm).keep (b.tup D0.at_d)⟩
theorem FSt.new {H0 H : Hp} {kf : Str → Option Bool} {d s p1 p2 p : Addr} {ks : List Col} {ns : List Int} {tl : List V} {fs : List FCol} {o : HO} (S : FSt H0 H kf d s p1 p2 ks ns tl fs) (h : H p = none) : FSt H0 (upd H p o) kf d s p1 p2 ks ns tl fs := by
  obtain ⟨n0, D0⟩ := S.dr
  exact S.step (same_but (same_upd h)) (D0.keep (same_upd h))
theorem FSt.add {H0 H : Hp} {kf : Str → Option Bool} {d s p1 p2 : Addr} {ks : List Col} {ns : List Int} {tl : List V} {fs : List FCol} (S : FSt H0 H kf d s p1 p2 ks ns tl fs) {m : FCol} (M : FColAt H kf m) :
    FSt H0 (upd (upd H p1 (.lst ((fs.map fun m => .ref m.det) ++ [.ref m.det]))) p2 (.lst (((ks.map fun c => .ref c.1) ++ fs.map fun m => .ref m.col) ++ [.ref m.col]))) kf d s p1 p2 ks ns tl (fs ++ [m]) := by
  obtain ⟨n0, D0⟩ := S.dr
  have kp : ∀ {a : Addr} {o : HO}, a ≠ p1 → a ≠ p2 → H a = some o → upd (upd H p1 (.lst ((fs.map fun m => .ref m.det) ++ [.ref m.det]))) p2 (.lst (((ks.map fun c => .ref c.1) ++ fs.map fun m => .ref m.col) ++ [.ref m.col])) a = some o := fun h1 h2 e => by
    rw [upd_ne h2, upd_ne h1]
    exact e
  have kt : ∀ (a : Addr) (xs : List V), H a = some (.tup xs) → upd (upd H p1 (.lst ((fs.map fun m => .ref m.det) ++ [.ref m.det]))) p2 (.lst (((ks.map fun c => .ref c.1) ++ fs.map fun m => .ref m.col) ++ [.ref m.col])) a = some (.tup xs) := fun a xs e =>
    kp (fun q => by rw [q, S.e1] at e; cases e) (fun q => by rw [q, S.e2] at e; cases e) e
  obtain ⟨os, es⟩ := S.fs'
  have ks1 : s ≠ p1 := ne_of_none es S.f1
  have ks2 : s ≠ p2 := ne_of_none es S.f2
  refine ⟨⟨n0, kp S.n1.symm S.n2.symm D0.at_d, kp ks1 ks2 D0.at_s, D0.n0⟩, fun c o hc e => kp (ne_of_none e S.f1) (ne_of_none e S.f2) (S.b c o hc e), S.f1, S.f2, S.fs', S.ne, S.n1, S.n2, ?_, ?_, fun x hx => ?_⟩
  · rw [List.map_append, upd_ne S.ne]
    exact upd_same
  · rw [List.map_append, ← List.append_assoc]
    exact upd_same
  · rcases List.mem_append.mp hx with hx | hx
    · exact (S.each x hx).keep kt
    · rw [List.mem_singleton.mp hx]
      exact M.keep kt
theorem cut_2 (xs : List V) : cutV xs none (some 2) = xs.take 2 := by
  unfold cutV
  rw [HT.sIx_none, show (some (2 : Int)) = some ((2 : Nat) : Int) from rfl, HT.sIx_nat, List.drop_zero]
  match xs with
  | [] => rfl
  | [x] => rfl
  | x :: y :: r =>
    rw [List.length_cons, List.length_cons, show min 2 (r.length + 1 + 1) - 0 = 2 by omega]
theorem cut_two (ks : List Col) : ∃ ys : List Col, cutV (ks.map fun c => V.ref c.1) none (some 2) = (ys.map fun c => V.ref c.1) ∧ (∀ c ∈ ys, c ∈ ks) ∧ ys.length ≤ 2 := by
  have e : cutV (ks.map fun c => V.ref c.1) none (some 2) = (ks.take 2).map fun c => V.ref c.1 := by
    rw [List.map_take]
    exact cut_2 _
  exact ⟨_, e, fun c hc => List.mem_of_mem_take hc, by rw [List.length_take]; omega⟩
theorem f_name {i : Nat} (h : i < 3) : ("f" : Str) ++ Str.ofString (toString ((0 : Int) + (i : Nat))) ∈ fnames ∧ ("f" : Str).length + (Str.ofString (toString ((0 : Int) + (i : Nat)))).length ≤ sizeLine := by
  match i, h with
  | 0, _ => decide +kernel
  | 1, _ => decide +kernel
  | 2, _ => decide +kernel
theorem in_strs {z : Str} {l : List Str} {A B : Prop} (h1 : z ∈ l → A) (h2 : z ∉ l → B) : if (if false = true then !inV (.str z) (l.map V.str) else inV (.str z) (l.map V.str)) = true then A else B := by
  rw [if_neg Bool.false_ne_true, inV_str]
  by_cases h : z ∈ l
  · rw [decide_eq_true h]
    exact iteT (h1 h)
  · rw [decide_eq_false h]
    exact iteF (h2 h)
section
variable {P : Program} {w : World} {K : PySem.W.Frag} {mg : Str → Option Value} {base : Heap}
/-! ### _law_fold -/
abbrev N_law_fold : List Str := ["draw", "columns", "keys", "pair", "folds", "found", "number", "kind", "told", "late", "name", "names"]
def spFold : Sp := fun vs H Q _ => ∃ (d s cols : Addr) (cl : List Col) (kf : Str → Option Bool) (ns : List Int) (tl : List V) (n : Int), vs = [.ref d, .ref cols] ∧ DrawAt H d s ns tl n ∧ ColsAt H cols cl ∧ (∀ c ∈ cl, kf c.2.1 = some c.2.2) ∧ cl ≠ [] ∧
  ∀ (r t kt ft f : Addr) (ks : List Col) (fs : List FCol) (n' : Int) (H' : Hp), H' r = some (.tup [.ref t, .ref f]) → H' t = some (.tup [.ref kt, .ref ft]) → H' kt = some (.tup (ks.map fun c => .str c.2.1)) → H' ft = some (.tup (fs.map fun m => .ref m.det)) → H' f = some (.lst ((ks.map fun c => .ref c.1) ++ fs.map fun m => .ref m.col)) →
    (∀ c ∈ ks, c ∈ cl) → (∀ m ∈ fs, FColAt H' kf m) → ((ks.map fun c => c.2.1) ++ fs.map FCol.name).Nodup → fs ≠ [] → fs.length ≤ 3 → But d H H' → DrawAt H' d s ns tl n' → Q (.ref r) H'
theorem sc_fold : FnScope N_law_fold ["draw", "columns"] (defScope s_law_fold) := ⟨rfl, rfl, rfl, by decide +kernel, rfl, by decide +kernel, by decide +kernel⟩
theorem ok_fold {f : Addr} {fd : FuncData} (F : Fun K "_law_fold" "_law_fold" s_law_fold f fd) (m_range : mg "range" = none) (m_str : mg "str" = none) (m_tuple : mg "tuple" = none) (m_list : mg "list" = none) (m_len : mg "len" = none) (m_set : mg "set" = none) (G_law_next : Ready P w K mg base 3 "_law_next" ["draw", "bound"] spNext) (G_law_pick : Ready P w K mg base 4 "_law_pick" ["draw", "things"] (spPick K))
    (G_law_int : Ready P w K mg base 6 "_law_int" ["draw", "columns", "deep"] (spInt 2)) : FnOk P w K mg base CX0 8 f fd ["draw", "columns"] spFold := by
  refine F.ok sc_fold (fun vs H Q E h => ?_) (fun cdv A outer s0 H vs Q E hr h => ?_)
  · obtain ⟨d, s, cols, cl, kf, ns, tl, n, rfl, _⟩ := h
    rfl
  obtain ⟨d, s, cols, cl, kf, ns, tl, n, rfl, D, C, hk, hne, q⟩ := h
  have nd := sc_fold.nd
  have hu64 : _ + 64 < cLine := hr.units
  have hr6 : Room 6 _ := hr.mono (by omega)
  have hr4 : Room 4 _ := hr.mono (by omega)
  have hr3 : Room 3 _ := hr.mono (by omega)
  refine ⟨_, pss_cons (ps_set (i := 2) nd rfl (.inl rfl) (pe_slice sl_list (pe_lc (own := [("pair", 3)]) (g := gName 3) (tt := _) rfl nd (pi_list (pv 1)) (blkOk_by (N := N_law_fold) (sc := defScope s_law_fold) (by decide +kernel)) (fun _ _ _ _ _ => pg_name (i := 3) nd rfl (Or.inl rfl)) (fun _ _ _ _ _ => pts_one (pt_cmpR op_eq (pe_fn (G_law_next) hr3 (pa_cons (pv 0) (pa_cons pe_int pa_nil))) pe_int (nomark _))) (fun _ _ _ _ _ => (pv 3))) po_none (po_some pe_int)))
      (pss_cons (ps_par (i := 4) (j := 5) rfl nd rfl rfl (by decide) rfl rfl (pa_cons (pe_lst pa_nil) (pa_cons (pe_callTy call_list_of (by rfl) m_list PyProof.Rows.boot_list (pa_cons (pv 2) pa_nil)) pa_nil)) rfl)
      (pss_cons (ps_for PassesOwn.never rfl (pi_range1 rfl m_range (pa_cons (pe_op op_add pe_int (pe_fn (G_law_next) hr3 (pa_cons (pv 0) (pa_cons pe_int pa_nil)))) pa_nil)) (pg_name (i := 6) nd rfl (.inl rfl)) (pss_cons (ps_set (i := 7) nd rfl (.inl rfl) (pe_fn (G_law_pick) hr4 (pa_cons (pv 0) (pa_cons (pe_tup (pa_cons pe_str (pa_cons pe_str (pa_cons pe_str (pa_cons pe_str (pa_cons pe_str (pa_cons pe_str pa_nil))))))) pa_nil))))
      (C8.pss_cut (ps_asg (pe_ifExp (pt_cmpR op_eq (pv 7) pe_str (nomark _)) (pe_tup (pa_cons pe_non (pa_cons pe_str pa_nil))) (pe_tup (pa_cons (pe_fn (G_law_int) hr6 (pa_cons (pv 0) (pa_cons (pv 1) (pa_cons pe_int pa_nil)))) (pa_cons pe_str pa_nil)))) (pg_tup rfl (pgs_cons (pg_name (i := 8) nd rfl (.inl rfl)) (pgs_cons (pg_name (i := 9) nd rfl (.inl rfl)) pgs_nil))))
      (C8.pss_cut (ps_if (PW.pt (pw_and (pt_cmpR op_in_seq (pv 7) (pe_tup (pa_cons pe_str (pa_cons pe_str (pa_cons pe_str pa_nil)))) (by with_unfolding_all rfl)) (pw_and1 (pt_cmpR op_eq (pe_fn (G_law_next) hr3 (pa_cons (pv 0) (pa_cons pe_int pa_nil))) pe_int (nomark _))))) (pss_cons (ps_asg (pe_fn (G_law_pick) hr4 (pa_cons (pv 0) (pa_cons (pv 1) pa_nil))) (pg_tup rfl (pgs_cons (pg_name (i := 10) nd rfl (.inl rfl)) (pgs_cons (pg_name (i := 9) nd rfl (.inl rfl)) pgs_nil))))
      (pss_one (ps_set (i := 8) nd rfl (.inl rfl) (pe_tup (pa_cons pe_str (pa_cons (pv 10) pa_nil)))))) (pss_nil))
      (pss_cons (ps_expr (pe_bm PySem.F.plainAttrs_list PySem.F.slot_list_append PySem.F.type_list_append mt_append (pv 4) (pa_cons (pe_tup (pa_cons (pv 7) (pa_cons (pv 8) (pa_cons (pe_op op_add_str pe_str (pe_callTy call_str_int (by rfl) m_str PyProof.Rows.boot_str (pa_cons (pv 6) pa_nil))) pa_nil)))) pa_nil)))
      (pss_one (ps_expr (pe_bm PySem.F.plainAttrs_list PySem.F.slot_list_append PySem.F.type_list_append mt_append (pv 5) (pa_cons (pe_tup (pa_cons (pe_op op_add_str pe_str (pe_callTy call_str_int (by rfl) m_str PyProof.Rows.boot_str (pa_cons (pv 6) pa_nil))) (pa_cons (pe_ifExp (pt_cmpR op_in_seq (pv 7) (pe_tup (pa_cons pe_str (pa_cons pe_str pa_nil))) (by with_unfolding_all rfl)) (pv 9) pe_str) pa_nil))) pa_nil)))))))))
      (pss_cons (ps_setLc (i := 11) (own := [("name", 10), ("kind", 7)]) (g := (gTup K 2 (gCons (gName 10) (gCons (gName 7) gNil)))) (tt := tYes) rfl nd rfl rfl (sw_true rfl rfl rfl (by decide +kernel)) (pi_list (pv 5)) (blkOk_by (N := N_law_fold) (sc := defScope s_law_fold) (by decide +kernel)) (fun _ _ _ _ _ => pg_tup rfl (pgs_cons (pg_name (i := 10) nd rfl (.inl rfl)) (pgs_cons (pg_name (i := 7) nd rfl (.inl rfl)) pgs_nil))) (fun _ _ _ _ _ => pts_nil) (fun _ _ _ _ _ => (pv 10)))
      (pss_cons (ps_if (pt_cmpR op_lt (pe_callB cr_lenK (by rfl) m_len PySem.boot_len (pa_cons (pe_callTy (Yk.cr_setK rfl) (by rfl) m_set PyProof.Rows.boot_set (pa_cons (pv 11) pa_nil)) pa_nil)) (pe_callB call_len_seq (by rfl) m_len PySem.boot_len (pa_cons (pv 11) pa_nil)) (nomark _)) (pss_one (ps_ret (pe_tup (pa_cons (pe_tup (pa_cons (pe_tup pa_nil) (pa_cons (pe_tup (pa_cons (pe_tup (pa_cons pe_str (pa_cons pe_non (pa_cons pe_str pa_nil)))) pa_nil)) pa_nil))) (pa_cons (pe_lst (pa_cons (pe_tup (pa_cons pe_str (pa_cons pe_str pa_nil))) pa_nil)) pa_nil))))) (pss_nil))
      (pss_one (ps_ret (pe_tup (pa_cons (pe_tup (pa_cons (pe_callTy call_tuple_of (by rfl) m_tuple PyProof.Rows.boot_tuple (pa_cons (pe_lc (own := [("name", 10), ("kind", 7)]) (g := (gTup K 2 (gCons (gName 10) (gCons (gName 7) gNil)))) (tt := tYes) rfl nd (pi_list (pv 2)) (blkOk_by (N := N_law_fold) (sc := defScope s_law_fold) (by decide +kernel)) (fun _ _ _ _ _ => pg_tup rfl (pgs_cons (pg_name (i := 10) nd rfl (.inl rfl)) (pgs_cons (pg_name (i := 7) nd rfl (.inl rfl)) pgs_nil))) (fun _ _ _ _ _ => pts_nil) (fun _ _ _ _ _ => (pv 10))) pa_nil)) (pa_cons (pe_callTy call_tuple_of (by rfl) m_tuple PyProof.Rows.boot_tuple (pa_cons (pv 4) pa_nil)) pa_nil))) (pa_cons (pv 5) pa_nil))))))))), ?_⟩
  have z2 : 2 ≤ sizeLine := by decide
  have z3 : 3 ≤ sizeLine := by decide
  have z6 : 6 ≤ sizeLine := by decide
  have cne := C.ne D
  have clne : (cl.map fun c => V.ref c.1) ≠ [] := fun e => hne (List.map_eq_nil_iff.mp e)
  -- keys
  refine ⟨_, rfl, cols, rfl, ⟨_, SqL.of C.all⟩, fun D1 hD1 => ?_⟩
  have n1 : D1 ≠ d := (ne_of_none D.at_d hD1).symm
  refine lc_list (K := K) (a := cols) (xs := cl.map fun c => .ref c.1) (fun i H' => ∃ n' ks, DrawAt H' d s ns tl n' ∧ But d H H' ∧ H' D1 = some (.lst (ks.map fun c => .ref c.1)) ∧ (∀ c ∈ ks, c ∈ cl) ∧ ks.length ≤ i) ⟨n, [], D.keep (same_upd hD1), same_but (same_upd hD1), upd_same, fun c hc => absurd hc List.not_mem_nil, Nat.le_refl _⟩ (fun i H' _ h => ?_) ?_ ?_
  · obtain ⟨n', ks, D', b', _⟩ := h
    exact SqL.of (C.but D b').all
  · rintro i x H' hx ⟨n', ks, D', b', e', sub, le⟩
    rw [List.getElem?_map] at hx
    obtain ⟨c, hc, rfl⟩ := Option.map_eq_some_iff.mp hx
    have hi : i < cl.length := (List.getElem?_eq_some_iff.mp hc).1
    refine ⟨rfl, _, rfl, d, s, ns, tl, _, 2, rfl, D', by decide, fun r H3 r0 r1 b3 D3 => ⟨rfl, _, rfl, ite2 (fun cc => ?_) (fun cc => ?_)⟩⟩
    · have e3 := b3 _ _ n1 e'
      refine ⟨_, rfl, _, e3, ?_, n' + 1, ks ++ [c], ?_, ?_, ?_, ?_, ?_⟩
      · rw [List.length_map]
        have := C.few
        exact Nat.lt_of_le_of_lt (show ks.length ≤ 1000 by omega) (by decide)
      · exact ⟨by rw [upd_ne n1.symm]; exact D3.at_d, by rw [upd_ne (ne_of_none D.at_s hD1)]; exact D3.at_s, D3.n0⟩
      · exact fun b o hb e => by
          rw [upd_ne (ne_of_none e hD1)]
          exact (b'.trans b3) _ _ hb e
      · rw [upd_same, List.map_append]
        rfl
      · intro c' hc'
        rcases List.mem_append.mp hc' with hc' | hc'
        · exact sub _ hc'
        · rw [List.mem_singleton.mp hc']
          exact List.mem_of_getElem? hc
      · rw [List.length_append]
        exact Nat.succ_le_succ le
    · exact ⟨n' + 1, ks, D3, b'.trans b3, b3 _ _ n1 e', sub, Nat.le_succ_of_le le⟩
  rintro H1 ⟨nk, ks0, D1', b1, e1, sub0, le0⟩
  -- the first two
  refine ⟨_, rfl, D1, _, rfl, SqL.of e1, fun pk hpk => ?_⟩
  obtain ⟨ks, eks, subk, lek⟩ := cut_two ks0
  have hks : ks.length ≤ 2 := lek
  rw [eks]
  have sub : ∀ c ∈ ks, c ∈ cl := fun c hc => sub0 c (subk c hc)
  have b2 : But d H (upd H1 pk (.lst (ks.map fun c => .ref c.1))) := b1.trans (same_but (same_upd hpk))
  have D2 := D1'.keep (same_upd (o := .lst (ks.map fun c => .ref c.1)) hpk)
  have npk : pk ≠ d := (ne_of_none D1'.at_d hpk).symm
  have epk : upd H1 pk (.lst (ks.map fun c => .ref c.1)) pk = some (.lst (ks.map fun c => .ref c.1)) := upd_same
  generalize upd H1 pk (.lst (ks.map fun c => .ref c.1)) = H2 at b2 D2 epk ⊢
  clear D1' hpk e1 n1 b1 eks
  -- folds, found
  refine ⟨Nat.zero_le _, fun p1 hp1 => ?_⟩
  have s1 := same_upd (o := .lst []) hp1
  refine ⟨_, rfl, pk, _, rfl, .inl (SqL.of (s1 _ _ epk)), fun p2 hp2 => ⟨_, _, rfl, ?_⟩⟩
  have hp2' : H2 p2 = none := by
    by_cases e : p2 = p1
    · rw [e, upd_same] at hp2
      cases hp2
    · rw [upd_ne e] at hp2
      exact hp2
  have S0 : FSt H2 (upd (upd H2 p1 (.lst [])) p2 (.lst (ks.map fun c => .ref c.1))) kf d s p1 p2 ks ns tl [] := by
    have s2 := s1.trans (same_upd (o := .lst (ks.map fun c => .ref c.1)) hp2)
    exact ⟨⟨_, D2.keep s2⟩, same_but s2, hp1, hp2', ⟨_, D2.at_s⟩, ne_of_none upd_same hp2, (ne_of_none D2.at_d hp1).symm, (ne_of_none D2.at_d hp2').symm, same_upd hp2 _ _ upd_same, by rw [upd_same]; simp, fun m hm => (List.not_mem_nil hm).elim⟩
  obtain ⟨n0, D0⟩ := S0.dr
  refine ⟨_, rfl, d, s, ns, tl, _, _, rfl, D0, (by show (0 : Int) < 3; decide), fun r H1 r0 r1 b1 D1 => ?_⟩
  have S1 := S0.step b1 D1
  clear S0 D0 b1 D1 hp2
  refine ⟨_, _, rfl, rfl, _, rfl, by omega, by omega, ?_⟩
  have bC : ∀ {H' : Hp} {fs : List FCol}, FSt H2 H' kf d s p1 p2 ks ns tl fs → ColsAt H' cols cl := fun S => C.but D (b2.trans S.b)
  have e3 : ∀ {H' : Hp} {fs : List FCol}, FSt H2 H' kf d s p1 p2 ks ns tl fs → H' pk = some (.lst (ks.map fun c => .ref c.1)) := fun S => S.b _ _ npk epk
  refine for_range (fun i σ H' => ∃ y3 y6 y7 y8 y9 y10 y11 fs, σ = [some (.ref d), some (.ref cols), some (.ref pk), y3, some (.ref p1), some (.ref p2), y6, y7, y8, y9, y10, y11] ∧ FSt H2 H' kf d s p1 p2 ks ns tl fs ∧ fs.length ≤ i ∧ (0 < i → fs ≠ [])) ⟨none, none, none, none, none, none, none, [], rfl, S1, Nat.le_refl _, fun h => absurd h (Nat.lt_irrefl _)⟩ ?_ ?_
  · rintro i σ H3 hi ⟨y3, y6, y7, y8, y9, y10, y11, fs, rfl, S3, hl, hz⟩
    obtain ⟨n3, D3⟩ := S3.dr
    refine ⟨_, rfl, z6, fun q1 hq1 => ?_⟩
    have S4 := S3.new (o := .tup (folds6.map V.str)) hq1
    obtain ⟨n4, D4⟩ := S4.dr
    refine ⟨d, s, q1, ns, tl, _, folds6.map V.str, rfl, D4, (ne_of_none D3.at_d hq1).symm, .inr (SqT.of upd_same), (by intro z; cases z), fun v1 H5 hv1 b5 D5 => ?_⟩
    have S5 := S4.step b5 D5
    obtain ⟨op, hop, rfl⟩ := mem_strs (l := folds6) hv1
    clear S4 D4 b5 S3 D3 hq1 hv1
    refine ⟨fun σ H' => ∃ y10 tv oe k, σ = [some (.ref d), some (.ref cols), some (.ref pk), y3, some (.ref p1), some (.ref p2), some (.int ((0 : Int) + (i : Nat))), some (.str op), some tv, some (.str (kW k)), y10, y11] ∧ FSt H2 H' kf d s p1 p2 ks ns tl fs ∧ FTold H' kf op tv k oe, ?_, ?_⟩
    · refine ⟨_, rfl, rfl, _, rfl, ite2 (fun c => ?_) (fun c => ?_)⟩
      · refine ⟨z2, fun t ht => ⟨t, _, rfl, SqT.of upd_same, rfl, _, _, rfl, _, _, rfl, rfl, ?_⟩⟩
        exact ⟨_, .non, none, true, rfl, S5.new ht, by have := of_decide_eq_true c; injection this, rfl, rfl⟩
      · obtain ⟨n5, D5'⟩ := S5.dr
        refine ⟨_, rfl, _, rfl, d, s, cols, cl, kf, ns, tl, _, 1, rfl, D5', bC S5, hk, by decide, rfl, fun v e n6 H6 ke de xe b6 D6 => ?_⟩
        have S6 := S5.step b6 D6
        refine ⟨z2, fun t ht => ⟨t, _, rfl, SqT.of upd_same, rfl, _, _, rfl, _, _, rfl, rfl, ?_⟩⟩
        exact ⟨_, v, some e, true, rfl, S6.new ht, fun e' => c (decide_eq_true (by rw [e'])), xe.keep fun a xs z => same_upd ht _ _ z, ke, de, fun _ => rfl⟩
    clear S5 D5 y10
    rintro σ H6 ⟨y10, tv, oe, k, rfl, S6, T6⟩
    refine ⟨fun σ H' => ∃ y10 tv oe k, σ = [some (.ref d), some (.ref cols), some (.ref pk), y3, some (.ref p1), some (.ref p2), some (.int ((0 : Int) + (i : Nat))), some (.str op), some tv, some (.str (kW k)), y10, y11] ∧ FSt H2 H' kf d s p1 p2 ks ns tl fs ∧ FTold H' kf op tv k oe, ?_, ?_⟩
    · refine ⟨_, rfl, z3, fun q2 hq2 => ?_⟩
      have S7 := S6.new (o := .tup ((["least", "unlike", "greatest"] : List Str).map V.str)) hq2
      have T7 := T6.keep (H' := upd H6 q2 (.tup ((["least", "unlike", "greatest"] : List Str).map V.str))) fun a xs z => same_upd hq2 _ _ z
      refine ⟨q2, (["least", "unlike", "greatest"] : List Str).map V.str, rfl, .inr (SqT.of upd_same), rfl, flat_strs _, _, rfl, in_strs (fun hin => ?_) (fun hin => iteF ?_)⟩
      · obtain ⟨n7, D7⟩ := S7.dr
        refine ⟨_, rfl, d, s, ns, tl, _, _, rfl, D7, (by show (0 : Int) < 2; decide), fun r2 H8 _ _ b8 D8 => ?_⟩
        have S8 := S7.step b8 D8
        refine ⟨rfl, _, rfl, ite2 (fun c => ?_) (fun c => ?_)⟩
        · refine ⟨_, rfl, _, rfl, d, s, cols, ns, tl, _, _, rfl, D8, cne, .inl (SqL.of (bC S8).all), clne, fun v H9 hv b9 D9 => ?_⟩
          have S9 := S8.step b9 D9
          obtain ⟨⟨a, x, kb⟩, hc, rfl⟩ := List.mem_map.mp hv
          refine ⟨a, _, rfl, SqT.of ((bC S9).each _ hc), rfl, _, _, rfl, _, _, rfl, rfl, ?_⟩
          refine ⟨_, rfl, z2, fun t ht => ?_⟩
          exact ⟨_, .ref t, some (.col x), kb, rfl, S9.new ht, fun e => by rw [e] at hin; revert hin; decide +kernel, ⟨t, rfl, upd_same⟩, .col (hk _ hc), by show 1 ≤ 3; omega, fun hno => absurd hin hno⟩
        · exact ⟨_, tv, oe, k, rfl, S8, T7.keep (b8.tup D7.at_d)⟩
      · exact ⟨_, tv, oe, k, rfl, S7, T7⟩
    clear S6 T6 y10 tv oe k
    rintro σ H7 ⟨y10, tv, oe, k, rfl, S7, T7⟩
    obtain ⟨fn, fl⟩ := f_name (i := i) (by omega)
    have m3 : ∀ {g : FCol → V}, (fs.map g).length < sizeLine := by
      intro g
      rw [List.length_map]
      exact Nat.lt_of_le_of_lt (show _ ≤ 3 by omega) (by decide)
    have m9 : ((ks.map fun c => V.ref c.1) ++ fs.map fun m => V.ref m.col).length < sizeLine := by
      rw [List.length_append, List.length_map, List.length_map]
      exact Nat.lt_of_le_of_lt (show _ ≤ 1003 by omega) (by decide)
    refine ⟨_, rfl, .inl ⟨rfl, _, SqL.of S7.e1⟩, _, rfl, _, rfl, _, rfl, _, rfl, log_num (by omega), "f", _, rfl, rfl, fl, ?_⟩
    refine ⟨z3, fun t1 ht1 => ?_⟩
    have S8 := S7.new (o := .tup [.str op, tv, .str ("f" ++ Str.ofString (toString ((0 : Int) + (i : Nat))))]) ht1
    refine ⟨p1, _, _, rfl, rfl, S8.e1, m3, ?_⟩
    refine ⟨_, rfl, .inl ⟨rfl, _, SqL.of (by rw [upd_ne S8.ne.symm]; exact S8.e2)⟩, _, rfl, _, rfl, log_num (by omega), "f", _, rfl, rfl, fl, ?_⟩
    generalize ("f" : Str) ++ Str.ofString (toString ((0 : Int) + (i : Nat))) = z at fn S8 ⊢
    have fin : ∀ {H' : Hp} {t2 : Addr}, FSt H2 H' kf d s p1 p2 ks ns tl fs → FTold H' kf op tv k oe → H' t1 = some (.tup [.str op, tv, .str z]) → H' t2 = some (.tup [.str z, .str (kW (lateK op k))]) →
        FSt H2 (upd (upd H' p1 (.lst ((fs.map fun m => .ref m.det) ++ [.ref t1]))) p2 (.lst (((ks.map fun c => .ref c.1) ++ fs.map fun m => .ref m.col) ++ [.ref t2]))) kf d s p1 p2 ks ns tl (fs ++ [⟨t1, t2, op, tv, oe, k, z⟩]) := fun {H' t2} S T e1 e2 => S.add (m := ⟨t1, t2, op, tv, oe, k, z⟩) ⟨e1, e2, T, hop, fn⟩
    have T8 := T7.keep (H' := upd H7 t1 (.tup [.str op, tv, .str z])) fun a xs e => same_upd ht1 _ _ e
    have et1 : upd H7 t1 (.tup [.str op, tv, .str z]) t1 = some (.tup [.str op, tv, .str z]) := upd_same
    generalize upd H7 t1 (.tup [.str op, tv, .str z]) = H8 at S8 T8 et1 ⊢
    clear S7 T7 ht1
    refine ⟨_, rfl, z2, fun q3 hq3 => ?_⟩
    have nq3 : p1 ≠ q3 := ne_of_none upd_same hq3
    have hq3' : H8 q3 = none := by
      rw [upd_ne nq3.symm] at hq3
      exact hq3
    rw [upd_comm nq3]
    have S9 := S8.new (o := .tup [.str "least", .str "greatest"]) hq3'
    have T9 := T8.keep (H' := upd H8 q3 (.tup [.str "least", .str "greatest"])) fun a xs e => same_upd hq3' _ _ e
    have et9 := same_upd (o := .tup [.str "least", .str "greatest"]) hq3' _ _ et1
    have eq9 : upd (upd H8 q3 (.tup [.str "least", .str "greatest"])) p1 (.lst ((fs.map fun m => .ref m.det) ++ [.ref t1])) q3 = some (.tup [.str "least", .str "greatest"]) := by
      rw [upd_ne nq3.symm]
      exact upd_same
    refine ⟨q3, (["least", "greatest"] : List Str).map V.str, rfl, .inr (SqT.of eq9), rfl, flat_strs _, _, rfl, ?_⟩
    generalize upd H8 q3 (.tup [.str "least", .str "greatest"]) = H9 at S9 T9 et9 eq9 ⊢
    clear S8 T8 et1 hq3' hq3 nq3 eq9
    refine in_strs (fun hin => ⟨_, rfl, z2, fun t2 ht2 => ?_⟩) (fun hin => ⟨z2, fun t2 ht2 => ?_⟩)
    · have nt2 : p1 ≠ t2 := ne_of_none upd_same ht2
      have ht2' : H9 t2 = none := by
        rw [upd_ne nt2.symm] at ht2
        exact ht2
      rw [upd_comm nt2]
      have S10 := S9.new (o := .tup [.str z, .str (kW k)]) ht2'
      refine ⟨p2, _, _, rfl, rfl, by rw [upd_ne S10.ne.symm]; exact S10.e2, m9, ?_⟩
      have lk : lateK op k = k := if_pos hin
      exact ⟨_, _, _, _, _, _, _, _, rfl, fin S10 (T9.keep fun a xs e => same_upd ht2' _ _ e) (same_upd ht2' _ _ et9) (by rw [lk]; exact upd_same), by rw [List.length_append]; show fs.length + 1 ≤ i + 1; omega, fun _ h => by cases fs <;> cases h⟩
    · have nt2 : p1 ≠ t2 := ne_of_none upd_same ht2
      have ht2' : H9 t2 = none := by
        rw [upd_ne nt2.symm] at ht2
        exact ht2
      rw [upd_comm nt2]
      have S10 := S9.new (o := .tup [.str z, .str "int"]) ht2'
      refine ⟨p2, _, _, rfl, rfl, by rw [upd_ne S10.ne.symm]; exact S10.e2, m9, ?_⟩
      have lk : lateK op k = true := if_neg hin
      exact ⟨_, _, _, _, _, _, _, _, rfl, fin S10 (T9.keep fun a xs e => same_upd ht2' _ _ e) (same_upd ht2' _ _ et9) (by rw [lk]; exact upd_same), by rw [List.length_append]; show fs.length + 1 ≤ i + 1; omega, fun _ h => by cases fs <;> cases h⟩
  · rintro σ H3 ⟨y3, y6, y7, y8, y9, y10, y11, fs, rfl, S3, hl, hz⟩
    have hl3 : fs.length ≤ 3 := by omega
    have hfs : fs ≠ [] := hz (by omega)
    -- names
    obtain ⟨prs, eprs, enm⟩ : ∃ prs : List (Addr × Str), prs = (ks.map fun c => (c.1, c.2.1)) ++ fs.map (fun m => (m.col, m.name)) ∧ prs.map (·.2) = (ks.map fun c => c.2.1) ++ fs.map FCol.name := ⟨_, rfl, by rw [List.map_append, List.map_map, List.map_map]; rfl⟩
    have er : (ks.map fun c => V.ref c.1) ++ (fs.map fun m => V.ref m.col) = prs.map fun p => V.ref p.1 := by
      rw [eprs, List.map_append, List.map_map, List.map_map]
      rfl
    have lp : prs.length ≤ 1003 := by
      rw [eprs, List.length_append, List.length_map, List.length_map]
      omega
    have each : ∀ p ∈ prs, ∃ u, H3 p.1 = some (.tup [.str p.2, u]) := fun p hp => by
      rw [eprs] at hp
      rcases List.mem_append.mp hp with hp | hp
      · obtain ⟨c, hc, rfl⟩ := List.mem_map.mp hp
        exact ⟨_, (bC S3).each c (sub c hc)⟩
      · obtain ⟨m, hm, rfl⟩ := List.mem_map.mp hp
        exact ⟨_, (S3.each m hm).at_col⟩
    have e2 := S3.e2
    rw [er] at e2
    refine ⟨_, rfl, p2, rfl, ⟨_, SqL.of e2⟩, fun D4 hD4 => lc_list (K := K) (a := p2) (xs := prs.map fun p => .ref p.1) (fun i H' => Same H3 H' ∧ H' D4 = some (.lst (((prs.map (·.2)).take i).map V.str))) ⟨same_upd hD4, upd_same⟩ (fun i H' _ h => SqL.of (h.1 _ _ e2)) ?_ ?_⟩
    · rintro i x H' hx ⟨sm, e⟩
      rw [List.getElem?_map] at hx
      obtain ⟨p, hp, rfl⟩ := Option.map_eq_some_iff.mp hx
      obtain ⟨u, eu⟩ := each p (List.mem_of_getElem? hp)
      refine ⟨p.1, _, rfl, SqT.of (sm _ _ eu), rfl, _, _, rfl, _, _, rfl, rfl, rfl, _, rfl, _, e, ?_, fun b o' e' => ?_, ?_⟩
      · rw [List.length_map, List.length_take, List.length_map]
        exact Nat.lt_of_le_of_lt (show _ ≤ 1003 by omega) (by decide)
      · rw [upd_ne (ne_of_none e' hD4)]
        exact sm _ _ e'
      · have h1 : (prs.map (·.2)).take (i + 1) = (prs.map (·.2)).take i ++ [p.2] := by
          rw [List.take_add_one, List.getElem?_map, hp]
          rfl
        rw [h1, List.map_append]
        exact upd_same
    rintro H4 ⟨s4, e4⟩
    rw [List.length_map, List.take_of_length_le (by rw [List.length_map]; exact Nat.le_refl _), enm] at e4
    obtain ⟨n3, D3⟩ := S3.dr
    have S4 := S3.step (same_but s4) (D3.keep s4)
    clear each e2 er S3 D3 s4
    have ek : (((ks.map fun c => c.2.1) ++ fs.map FCol.name).map (fun x => (Sum.inr x : L2.Key))).map kV = ((ks.map fun c => c.2.1) ++ fs.map FCol.name).map V.str := by
      rw [List.map_map]
      rfl
    refine ⟨_, rfl, D4, ((ks.map fun c => c.2.1) ++ fs.map FCol.name).map (fun x => (Sum.inr x : L2.Key)), rfl, .inl (SqL.of (by rw [ek]; exact e4)), ?_, fun p M nM mM hp => ?_⟩
    · rw [List.length_map, List.length_append, List.length_map, List.length_map]
      omega
    have S5 := S4.new (o := Yk.SetKO P w p M) hp
    have e5 := same_upd (o := Yk.SetKO P w p M) hp _ _ e4
    have z1 : 1 ≤ sizeLine := by decide
    refine ⟨p, M, rfl, upd_same, _, rfl, D4, _, rfl, .inl (SqL.of e5), _, _, rfl, rfl, _, rfl, ite2 (fun c => ?_) (fun c => ?_)⟩
    · refine ⟨Nat.zero_le _, fun e0 h0 => ⟨z3, fun x hx => ⟨z1, fun y hy => ⟨z2, fun zt hzt => ⟨z2, fun wt hwt => ⟨z1, fun l hl => ⟨z2, fun rr hrr => ?_⟩⟩⟩⟩⟩⟩⟩
      have S12 := ((((((S5.new (o := .tup []) h0).new (o := .tup [.str "count", .non, .str "c"]) hx).new (o := .tup [.ref x]) hy).new (o := .tup [.ref e0, .ref y]) hzt).new (o := .tup [.str "c", .str "int"]) hwt).new (o := .lst [.ref wt]) hl).new (o := .tup [.ref zt, .ref l]) hrr
      obtain ⟨n12, D12⟩ := S12.dr
      have u1 := same_upd (o := .tup [.ref zt, .ref l]) hrr
      have u2 := (same_upd (o := .lst [.ref wt]) hl).trans u1
      have u3 := (same_upd (o := .tup [.str "c", .str "int"]) hwt).trans u2
      have u4 := (same_upd (o := .tup [.ref e0, .ref y]) hzt).trans u3
      have u5 := (same_upd (o := .tup [.ref x]) hy).trans u4
      have u6 := (same_upd (o := .tup [.str "count", .non, .str "c"]) hx).trans u5
      exact q rr zt e0 y l [] [⟨x, wt, "count", .non, none, true, "c"⟩] n12 _ upd_same (u3 _ _ upd_same) (u6 _ _ upd_same) (u4 _ _ upd_same) (u1 _ _ upd_same) (fun c hc => absurd hc List.not_mem_nil)
        (fun m hm => by
          rw [List.mem_singleton.mp hm]
          exact ⟨u5 _ _ upd_same, u2 _ _ upd_same, ⟨rfl, rfl, rfl⟩, (show ("count" : Str) ∈ folds6 by decide +kernel), (show ("c" : Str) ∈ fnames by decide +kernel)⟩) (List.nodup_cons.mpr ⟨List.not_mem_nil, List.nodup_nil⟩) (by intro z; cases z) (show 1 ≤ 3 by decide) (b2.trans S12.b) D12
    · have hnd : ((ks.map fun c => c.2.1) ++ fs.map FCol.name).Nodup := nodup_strs (len_nodup nM mM (by
        have h1 : ¬ ((M.length : Nat) : Int) < (((((ks.map fun c => c.2.1) ++ fs.map FCol.name).map V.str).length : Nat) : Int) := fun z => c (decide_eq_true z)
        rw [List.length_map] at h1 ⊢
        omega))
      have ek5 := e3 S5
      have C5 := bC S5
      obtain ⟨n5, D5⟩ := S5.dr
      refine ⟨_, rfl, pk, rfl, ⟨_, SqL.of ek5⟩, fun D6 hD6 => lc_list (K := K) (a := pk) (xs := ks.map fun c => .ref c.1) (fun i H' => Same (upd H4 p (Yk.SetKO P w p M)) H' ∧ H' D6 = some (.lst (((ks.map fun c => c.2.1).take i).map V.str))) ⟨same_upd hD6, upd_same⟩ (fun i H' _ h => SqL.of (h.1 _ _ ek5)) ?_ ?_⟩
      · rintro i x H' hx ⟨sm, e⟩
        rw [List.getElem?_map] at hx
        obtain ⟨p, hp, rfl⟩ := Option.map_eq_some_iff.mp hx
        have eu := C5.each p (sub p (List.mem_of_getElem? hp))
        refine ⟨p.1, _, rfl, SqT.of (sm _ _ eu), rfl, _, _, rfl, _, _, rfl, rfl, rfl, _, rfl, _, e, ?_, fun b o' e' => ?_, ?_⟩
        · rw [List.length_map, List.length_take, List.length_map]
          exact Nat.lt_of_le_of_lt (show _ ≤ 1003 by omega) (by decide)
        · rw [upd_ne (ne_of_none e' hD6)]
          exact sm _ _ e'
        · have h1 : (ks.map fun c => c.2.1).take (i + 1) = (ks.map fun c => c.2.1).take i ++ [p.2.1] := by
            rw [List.take_add_one, List.getElem?_map, hp]
            rfl
          rw [h1, List.map_append]
          exact upd_same
      rintro H6 ⟨s6, e6⟩
      rw [List.length_map, List.take_of_length_le (by rw [List.length_map]; exact Nat.le_refl _), List.map_map] at e6
      have S6 := S5.step (same_but s6) (D5.keep s6)
      refine ⟨D6, _, rfl, .inl ⟨SqL.of e6, fun kt hkt => ?_⟩⟩
      have S7 := S6.new (o := .tup (ks.map (V.str ∘ fun c => c.2.1))) hkt
      refine ⟨_, rfl, p1, _, rfl, .inl ⟨SqL.of S7.e1, fun ft hft => ?_⟩⟩
      have S8 := S7.new (o := .tup (fs.map fun m => .ref m.det)) hft
      refine ⟨z2, fun t ht => ⟨_, rfl, z2, fun rr hrr => ?_⟩⟩
      have S9 := (S8.new (o := .tup [.ref kt, .ref ft]) ht).new (o := .tup [.ref t, .ref p2]) hrr
      obtain ⟨n9, D9⟩ := S9.dr
      have u1 := same_upd (o := .tup [.ref t, .ref p2]) hrr
      have u2 := (same_upd (o := .tup [.ref kt, .ref ft]) ht).trans u1
      have u3 := (same_upd (o := .tup (fs.map fun m => .ref m.det)) hft).trans u2
      exact q rr t kt ft p2 ks fs n9 _ upd_same (u1 _ _ upd_same) (u3 _ _ upd_same) (u2 _ _ upd_same) S9.e2 sub S9.each hnd hfs hl3 (b2.trans S9.b) D9
end
end Kx

namespace Kx
open PySem PySem.Spec PyProof.Rows L2
abbrev s_law_join : Stmt := topS 30
abbrev NC : Type := Str × Bool
def colD (c : NC) : PyData := .tuple [.str c.1, .str (kW c.2)]
theorem kW_inj {a b : Bool} (h : kW a = kW b) : a = b := by
  cases a <;> cases b <;> first | rfl | (exfalso; revert h; decide +kernel)
theorem colD_eqv (a b : NC) : PyData.eqv (colD a) (colD b) = decide (a = b) := by
  show ((a.1 == b.1) && ((kW a.2 == kW b.2) && true)) = _
  rw [Bool.and_true]
  by_cases h : a = b
  · rw [h, decide_eq_true rfl, beq_self_eq_true, beq_self_eq_true]
    rfl
  · rw [decide_eq_false h]
    by_cases h1 : a.1 = b.1
    · have h2 : ¬ kW a.2 = kW b.2 := fun e => h (Prod.ext h1 (kW_inj e))
      rw [beq_eq_false_iff_ne.mpr h2, Bool.and_false]
    · rw [beq_eq_false_iff_ne.mpr h1]
      rfl
theorem any_col (c : NC) : ∀ l : List NC, (l.map colD).any (fun z => PyData.eqv z (colD c)) = decide (c ∈ l)
  | [] => by simp
  | a :: l => by
    rw [List.map_cons, List.any_cons, colD_eqv, any_col c l]
    by_cases h : a = c
    · simp [h]
    · have h' : ¬ c = a := fun e => h e.symm
      simp [h, h']
theorem colD_ok {c : NC} (h : PyData.canLay0 (.str c.1) = true) : PyData.canLay0 (colD c) = true := by
  show (PyData.canLay0 (.str c.1) && (PyData.canLay0 (.str (kW c.2)) && true)) = true
  rw [h]
  cases c.2 <;> decide +kernel
theorem colsD_ok : ∀ l : List NC, (∀ c ∈ l, PyData.canLay0 (.str c.1) = true) → PyData.canLayAll0 (l.map colD) = true
  | [], _ => rfl
  | c :: l, h => by
    show (PyData.canLay0 (colD c) && PyData.canLayAll0 (l.map colD)) = true
    rw [colD_ok (h c List.mem_cons_self), colsD_ok l fun x hx => h x (List.mem_cons_of_mem _ hx)]
    rfl
theorem colsD_dep : ∀ l : List NC, PyData.depthAll (l.map colD) ≤ 1
  | [] => Nat.zero_le _
  | c :: l => by
    show max (PyData.depth (colD c)) (PyData.depthAll (l.map colD)) ≤ 1
    exact Nat.max_le.mpr ⟨Nat.le_refl 1, colsD_dep l⟩
theorem colD_sh {c : NC} (h : PyData.canLay0 (.str c.1) = true) : SeqAt.shaped (colD c) = true := by
  show (PyData.canLay0 (colD c) && decide (PyData.depth (colD c) ≤ 64)) = true
  rw [colD_ok h]
  rfl
theorem colsD_sh {l : List NC} (h : ∀ c ∈ l, PyData.canLay0 (.str c.1) = true) : SeqAt.shaped (.list (l.map colD)) = true := by
  have d := colsD_dep l
  show (PyData.canLayAll0 (l.map colD) && decide (PyData.depthAll (l.map colD) + 1 ≤ 64)) = true
  rw [colsD_ok l h, decide_eq_true (by omega)]
  rfl
def PairsAt (H : Hp) (cl : List Col) : Prop := ∀ c ∈ cl, H c.1 = some (.tup [.str c.2.1, .str (kW c.2.2)])
theorem col_dp {K : PySem.W.Frag} {H : Hp} {c : Col} (h : H c.1 = some (.tup [.str c.2.1, .str (kW c.2.2)])) : Dp K H (.ref c.1) (colD c.2) := .tup (SqT.of h) (.cons (.str _) (.cons (.str _) .nil))
theorem cols_dpA {K : PySem.W.Frag} {H : Hp} : ∀ {cl : List Col}, PairsAt H cl → DpAll K H (cl.map fun c => .ref c.1) ((cl.map (·.2)).map colD)
  | [], _ => .nil
  | c :: cl, h => .cons (col_dp (h c List.mem_cons_self)) (cols_dpA fun x hx => h x (List.mem_cons_of_mem _ hx))
theorem cols_dp {K : PySem.W.Frag} {H : Hp} {a : Addr} {cl : List Col} (e : H a = some (.lst (cl.map fun c => .ref c.1))) (h : PairsAt H cl) : Dp K H (.ref a) (.list ((cl.map (·.2)).map colD)) := .lst (SqL.of e) (cols_dpA h)
/-- a table that the law knows: where its columns' list stands -/
structure Tab (H : Hp) (a : Addr) (cl : List Col) : Prop where
  cols : ColsAt H a cl
  nod : (cl.map fun c => c.2.1).Nodup
  inn : ∀ c ∈ cl, c.2.1 ∈ allNames
  ne : cl ≠ []
theorem Tab.few {H : Hp} {a : Addr} {cl : List Col} (T : Tab H a cl) : cl.length ≤ 24 := by
  have := few_names T.nod fun x hx => by
    obtain ⟨c, hc, rfl⟩ := List.mem_map.mp hx
    exact T.inn c hc
  rw [List.length_map] at this
  exact this
theorem all_ok : ∀ x ∈ allNames, PyData.canLay0 (.str x) = true := by decide +kernel
theorem Tab.keep {H H' : Hp} {a : Addr} {cl : List Col} (T : Tab H a cl) (h : Same H H') : Tab H' a cl := ⟨T.cols.keep h, T.nod, T.inn, T.ne⟩
theorem Tab.but {H H' : Hp} {a d s : Addr} {cl : List Col} {ns : List Int} {tl : List V} {n : Int} (T : Tab H a cl) (D : DrawAt H d s ns tl n) (h : But d H H') : Tab H' a cl := ⟨T.cols.but D h, T.nod, T.inn, T.ne⟩
/-- what the law knows: names, where their columns stand, the columns -/
abbrev Knw : Type := List (Str × Addr × List Col)
structure KnowsAt (H : Hp) (kd g : Addr) (kn : Knw) : Prop where
  at_k : H kd = some (.dK (kn.map fun e => (.inr e.1, .ref e.2.1)))
  tabs : ∀ e ∈ kn, Tab H e.2.1 e.2.2
  nod : (kn.map (·.1)).Nodup
  few : kn.length ≤ 40
  sizes : ∃ kvs : List (L2.Key × V), H g = some (.dK kvs) ∧ kvs.length ≤ 40 ∧ ∀ e ∈ kn, ∃ j : Int, valV kvs (.inr e.1) = some (.int j) ∧ 0 ≤ j ∧ j ≤ 400
  nms : ∀ e ∈ kn, PyData.canLay0 (.str e.1) = true
theorem KnowsAt.keep {H H' : Hp} {kd g : Addr} {kn : Knw} (k : KnowsAt H kd g kn) (h : Same H H') : KnowsAt H' kd g kn := by
  obtain ⟨kvs, h1, h2⟩ := k.sizes
  exact ⟨h _ _ k.at_k, fun e he => (k.tabs e he).keep h, k.nod, k.few, ⟨kvs, h _ _ h1, h2⟩, k.nms⟩
theorem KnowsAt.but {H H' : Hp} {kd g d s : Addr} {kn : Knw} {ns : List Int} {tl : List V} {n : Int} (k : KnowsAt H kd g kn) (D : DrawAt H d s ns tl n) (h : But d H H') : KnowsAt H' kd g kn := by
  obtain ⟨kvs, h1, h2⟩ := k.sizes
  have nd : ∀ {a : Addr} {q : List (L2.Key × V)}, H a = some (.dK q) → a ≠ d := fun e z => by
    rw [z, D.at_d] at e
    cases e
  exact ⟨h _ _ (nd k.at_k) k.at_k, fun e he => (k.tabs e he).but D h, k.nod, k.few, ⟨kvs, h _ _ (nd h1) h1, h2⟩, k.nms⟩
theorem val_key {α : Type} {f : α → V} {nm : α → Str} : ∀ {l : List α}, (l.map nm).Nodup → ∀ {e : α}, e ∈ l → valV (l.map fun e => ((.inr (nm e) : L2.Key), f e)) (.inr (nm e)) = some (f e)
  | [], _, e, h => absurd h List.not_mem_nil
  | x :: l, hn, e, h => by
    unfold valV
    rw [List.map_cons, List.find?_cons]
    by_cases hx : nm x = nm e
    · have hxe : x = e := by
        rcases List.mem_cons.mp h with rfl | h
        · rfl
        · exact absurd (by rw [hx]; exact List.mem_map.mpr ⟨e, h, rfl⟩) (List.nodup_cons.mp hn).1
      rw [decide_eq_true (show (Sum.inr (nm x) : L2.Key) = Sum.inr (nm e) by rw [hx]), hxe]
      rfl
    · rw [decide_eq_false (show ¬ (Sum.inr (nm x) : L2.Key) = Sum.inr (nm e) from fun z => hx (Sum.inr.inj z))]
      have hl : e ∈ l := by
        rcases List.mem_cons.mp h with rfl | h
        · exact absurd rfl hx
        · exact h
      exact val_key (List.nodup_cons.mp hn).2 hl
theorem KnowsAt.get {H : Hp} {kd g : Addr} {kn : Knw} (k : KnowsAt H kd g kn) {e : Str × Addr × List Col} (he : e ∈ kn) : DGet H kd (.str e.1) (some (.ref e.2.1)) := by
  have := val_key (f := fun e : Str × Addr × List Col => V.ref e.2.1) (nm := fun e => e.1) k.nod he
  exact this ▸ DGet.k (k := .inr e.1) k.at_k
def joinC (f s k : List NC) : List NC := k ++ (f.filter (fun c => decide (c ∉ k)) ++ s.filter fun c => decide (c ∉ k))
theorem filt_yes {P : Col → Bool} {cl : List Col} {i : Nat} {c : Col} (h : cl[i]? = some c) (hp : P c = true) : (cl.take (i + 1)).filter P = (cl.take i).filter P ++ [c] := by
  rw [take_at h, List.filter_append, List.filter_cons, hp]
  rfl
theorem filt_no {P : Col → Bool} {cl : List Col} {i : Nat} {c : Col} (h : cl[i]? = some c) (hp : P c = false) : (cl.take (i + 1)).filter P = (cl.take i).filter P := by
  rw [take_at h, List.filter_append, List.filter_cons, hp]
  show _ ++ [] = _
  rw [List.append_nil]
theorem filt_len {P : Col → Bool} (cl : List Col) : (cl.filter P).length ≤ cl.length := List.length_filter_le _ _
theorem cut_nat (xs : List V) (m : Nat) : cutV xs none (some (m : Int)) = xs.take m := by
  unfold cutV
  rw [HT.sIx_none, HT.sIx_nat, List.drop_zero, Nat.sub_zero]
  by_cases h : m ≤ xs.length
  · rw [Nat.min_eq_left h]
  · rw [Nat.min_eq_right (by omega), List.take_length, List.take_of_length_le (by omega)]
theorem room65 {k : Nat} {A : Around} (r : Room k A) : A.units + 65 < cLine := by
  have := r.un
  omega
section
variable {P : Program} {w : World} {K : PySem.W.Frag} {mg : Str → Option Value} {base : Heap}
/-! ### _law_join -/
abbrev N_law_join : List Str := ["draw", "known", "one", "other", "first", "second", "keys", "pair", "rest", "names", "name", "kind"]
def spJoin : Sp := fun vs H Q _ => ∃ (d s kd g : Addr) (kn : Knw) (one : Str) (a1 : Addr) (c1 : List Col) (ns : List Int) (n : Int), vs = [.ref d, .ref kd, .str one] ∧ DrawAt H d s ns [.ref g] n ∧ KnowsAt H kd g kn ∧ (one, a1, c1) ∈ kn ∧
  (∀ (r : Addr) (n' : Int) (H' : Hp), H' r = some (.tup [.non, .non]) → But d H H' → DrawAt H' d s ns [.ref g] n' → Q (.ref r) H') ∧
  ∀ (r t kt f a2 : Addr) (other : Str) (c2 ks cl : List Col) (n' : Int) (H' : Hp), H' r = some (.tup [.ref t, .ref f]) → H' t = some (.tup [.str other, .ref kt]) → H' kt = some (.tup (ks.map fun c => .str c.2.1)) → (other, a2, c2) ∈ kn → Tab H' f cl → ks ≠ [] →
    (∀ c ∈ ks, c ∈ c1 ∧ c.2 ∈ c2.map (·.2)) → cl.map (·.2) = joinC (c1.map (·.2)) (c2.map (·.2)) (ks.map (·.2)) → (∀ kvs x y, H g = some (.dK kvs) → valV kvs (.inr one) = some (.int x) → valV kvs (.inr other) = some (.int y) → x * y ≤ 400) → But d H H' → DrawAt H' d s ns [.ref g] n' → Q (.ref r) H'
theorem sc_join : FnScope N_law_join ["draw", "known", "one"] (defScope s_law_join) := ⟨rfl, rfl, rfl, by decide +kernel, rfl, by decide +kernel, by decide +kernel⟩
theorem ok_join {f : Addr} {fd : FuncData} (F : Fun K "_law_join" "_law_join" s_law_join f fd) (m_tuple : mg "tuple" = none) (m_len : mg "len" = none) (m_set : mg "set" = none) (m_sorted : mg "sorted" = none) (G_law_next : Ready P w K mg base 3 "_law_next" ["draw", "bound"] spNext) (G_law_pick : Ready P w K mg base 4 "_law_pick" ["draw", "things"] (spPick K)) :
    FnOk P w K mg base CX0 5 f fd ["draw", "known", "one"] spJoin := by
  refine F.ok sc_join (fun vs H Q E h => ?_) (fun cdv A outer s0 H vs Q E hr h => ?_)
  · obtain ⟨d, s, kd, g, kn, one, a1, c1, ns, n, rfl, _⟩ := h
    rfl
  obtain ⟨d, s, kd, g, kn, one, a1, c1, ns, n, rfl, D, KN, h1, q0, q⟩ := h
  have nd := sc_join.nd
  have hr4 : Room 4 _ := hr
  have hr3 : Room 3 _ := hr.mono (by omega)
  have hu64 : _ + 64 < cLine := hr.units
  have hu65 := room65 hr
  have hu1 : _ + 1 < cLine := Nat.lt_of_le_of_lt (Nat.add_le_add_left (by decide : 1 ≤ 64) _) hu64
  refine ⟨_, pss_cons (ps_set (i := 3) nd rfl (.inl rfl) (pe_fn (G_law_pick) hr4 (pa_cons (pv 0) (pa_cons (pe_callB (call_sortedD rfl) (by rfl) m_sorted (by decide +kernel) (pa_cons (pv 1) pa_nil)) pa_nil))))
      (pss_cons (ps_if (pt_cmpR op_gt (pe_op op_mul (pe_dget hu1 (pe_ix (show IxR _ (rIxL K) from ix_list) (pv 0) pe_int (fun _ _ => rfl)) (pv 2) (fun _ _ => rfl)) (pe_dget hu1 (pe_ix (show IxR _ (rIxL K) from ix_list) (pv 0) pe_int (fun _ _ => rfl)) (pv 3) (fun _ _ => rfl))) pe_int (nomark _)) (pss_one (ps_ret (pe_tup (pa_cons pe_non (pa_cons pe_non pa_nil))))) (pss_nil))
      (pss_cons (ps_asg (pe_tup (pa_cons (pe_dget hu1 (pv 1) (pv 2) (fun _ _ => rfl)) (pa_cons (pe_dget hu1 (pv 1) (pv 3) (fun _ _ => rfl)) pa_nil))) (pg_tup rfl (pgs_cons (pg_name (i := 4) nd rfl (.inl rfl)) (pgs_cons (pg_name (i := 5) nd rfl (.inr rfl)) pgs_nil))))
      (pss_cons (ps_set (i := 6) nd rfl (.inr rfl) (pe_slice sl_list (pe_lc (own := [("pair", 7)]) (g := gName 7) (tt := tTest (tOp (rInD K) (tVar 7) (tVar 5))) rfl nd (pi_list (pv 4)) (blkOk_by (N := N_law_join) (sc := defScope s_law_join) (by decide +kernel)) (fun _ _ _ _ _ => pg_name (i := 7) nd rfl (Or.inl rfl)) (fun _ _ _ _ _ => pts_one (pt_cmpR (op_inD hu65) (pv 7) (pv 5) rfl)) (fun _ _ _ _ _ => (pv 7))) po_none (po_some (pe_op op_add pe_int (pe_fn (G_law_next) hr3 (pa_cons (pv 0) (pa_cons pe_int pa_nil)))))))
      (pss_cons (ps_set (i := 8) nd rfl (.inl rfl) (pe_op op_cat (pe_lc (own := [("pair", 7)]) (g := gName 7) (tt := tTest (tOp (rNotInD K) (tVar 7) (tVar 6))) rfl nd (pi_list (pv 4)) (blkOk_by (N := N_law_join) (sc := defScope s_law_join) (by decide +kernel)) (fun _ _ _ _ _ => pg_name (i := 7) nd rfl (Or.inl rfl)) (fun _ _ _ _ _ => pts_one (pt_cmpR (op_notInD hu65) (pv 7) (pv 6) rfl)) (fun _ _ _ _ _ => (pv 7))) (pe_lc (own := [("pair", 7)]) (g := gName 7) (tt := tTest (tOp (rNotInD K) (tVar 7) (tVar 6))) rfl nd (pi_list (pv 5)) (blkOk_by (N := N_law_join) (sc := defScope s_law_join) (by decide +kernel)) (fun _ _ _ _ _ => pg_name (i := 7) nd rfl (Or.inl rfl)) (fun _ _ _ _ _ => pts_one (pt_cmpR (op_notInD hu65) (pv 7) (pv 6) rfl)) (fun _ _ _ _ _ => (pv 7)))))
      (pss_cons (ps_setLc (i := 9) (own := [("name", 10), ("kind", 11)]) (g := (gTup K 2 (gCons (gName 10) (gCons (gName 11) gNil)))) (tt := tYes) rfl nd rfl rfl (sw_true rfl rfl rfl (by decide +kernel)) (pi_list (pe_op op_cat (pv 6) (pv 8))) (blkOk_by (N := N_law_join) (sc := defScope s_law_join) (by decide +kernel)) (fun _ _ _ _ _ => pg_tup rfl (pgs_cons (pg_name (i := 10) nd rfl (.inl rfl)) (pgs_cons (pg_name (i := 11) nd rfl (.inl rfl)) pgs_nil))) (fun _ _ _ _ _ => pts_nil) (fun _ _ _ _ _ => (pv 10)))
      (pss_cons (ps_if (PW.pt (pw_or (pt_cmpR (op_eqD hu64) (pv 6) (pe_lst pa_nil) (nomark _)) (pw_or1 (pt_cmpR op_lt (pe_callB cr_lenK (by rfl) m_len PySem.boot_len (pa_cons (pe_callTy (Yk.cr_setK rfl) (by rfl) m_set PyProof.Rows.boot_set (pa_cons (pv 9) pa_nil)) pa_nil)) (pe_callB call_len_seq (by rfl) m_len PySem.boot_len (pa_cons (pv 9) pa_nil)) (nomark _))))) (pss_one (ps_ret (pe_tup (pa_cons pe_non (pa_cons pe_non pa_nil))))) (pss_nil))
      (pss_one (ps_ret (pe_tup (pa_cons (pe_tup (pa_cons (pv 3) (pa_cons (pe_callTy call_tuple_of (by rfl) m_tuple PyProof.Rows.boot_tuple (pa_cons (pe_lc (own := [("name", 10), ("kind", 11)]) (g := (gTup K 2 (gCons (gName 10) (gCons (gName 11) gNil)))) (tt := tYes) rfl nd (pi_list (pv 6)) (blkOk_by (N := N_law_join) (sc := defScope s_law_join) (by decide +kernel)) (fun _ _ _ _ _ => pg_tup rfl (pgs_cons (pg_name (i := 10) nd rfl (.inl rfl)) (pgs_cons (pg_name (i := 11) nd rfl (.inl rfl)) pgs_nil))) (fun _ _ _ _ _ => pts_nil) (fun _ _ _ _ _ => (pv 10))) pa_nil)) pa_nil))) (pa_cons (pe_op op_cat (pv 6) (pv 8)) pa_nil))))))))))), ?_⟩
  have z2 : 2 ≤ sizeLine := by decide
  obtain ⟨kvs, eg, lkv, hsz⟩ := KN.sizes
  -- other
  refine ⟨_, rfl, _, rfl, kd, _, kn.map (·.1), rfl, .inl KN.at_k, (by rw [List.map_map, List.map_map]; rfl), (by rw [List.length_map]; have := KN.few; omega), fun ys p pm _ hp => ?_⟩
  have sp := same_upd (o := .lst (ys.map V.str)) hp
  refine ⟨d, s, p, ns, [.ref g], n, ys.map V.str, rfl, D.keep sp, (ne_of_none D.at_d hp).symm, .inl (SqL.of upd_same), ?_, fun v H1 hv b1 D1 => ?_⟩
  · intro z
    have h0 : ys = [] := List.map_eq_nil_iff.mp z
    rw [h0] at pm
    have h2 := pm.nil_eq
    rw [List.map_eq_nil_iff.mp h2.symm] at h1
    exact absurd h1 List.not_mem_nil
  obtain ⟨other, ho, rfl⟩ := mem_strs hv
  obtain ⟨e2, he2, rfl⟩ := List.mem_map.mp (pm.mem_iff.mp ho)
  obtain ⟨other, a2, c2⟩ := e2
  have b01 : But d H H1 := (same_but sp).trans b1
  have KN1 := KN.but D b01
  obtain ⟨j1, g1, j10, j11⟩ := hsz _ h1
  obtain ⟨j2, g2, j20, j21⟩ := hsz _ he2
  have ng : g ≠ d := fun z => by
    rw [z, D.at_d] at eg
    cases eg
  have eg1 := b01 _ _ ng eg
  have gt1 : DGet H1 g (.str one) (some (.int j1)) := g1 ▸ DGet.k (k := .inr one) eg1
  have gt2 : DGet H1 g (.str other) (some (.int j2)) := g2 ▸ DGet.k (k := .inr other) eg1
  clear hv pm ho sp hp b1
  -- sizes
  refine ⟨_, rfl, d, _, 3, _, rfl, rfl, SqL.of D1.at_d, at3, _, rfl, g, _, rfl, gt1, _, rfl, d, _, 3, _, rfl, rfl, SqL.of D1.at_d, at3, _, rfl, g, _, rfl, gt2, _, _, rfl, rfl, ?_, ?_⟩
  · have p0 := Int.mul_nonneg j10 j20
    have p1 : j1 * j2 ≤ 400 * 400 := Int.mul_le_mul j11 j21 j20 (by decide)
    exact .inl (by show _ ∧ _; omega)
  refine ⟨_, _, rfl, rfl, _, rfl, ite2 (fun c => ⟨z2, fun r hr => q0 r _ _ upd_same (b01.trans (same_but (same_upd hr))) (D1.keep (same_upd hr))⟩) (fun c => ?_)⟩
  have j12 : j1 * j2 ≤ 400 := by
    rcases Int.lt_or_le 400 (j1 * j2) with z | z
    · exact absurd (decide_eq_true z) c
    · exact z
  refine ⟨_, rfl, _, rfl, kd, _, rfl, KN1.get h1, _, rfl, _, rfl, kd, _, rfl, KN1.get he2, z2, fun t0 ht0 => ⟨t0, _, rfl, SqT.of upd_same, rfl, _, _, rfl, _, _, rfl, rfl, ?_⟩⟩
  have u0 := same_upd (o := .tup [.ref a1, .ref a2]) ht0
  replace KN1 := KN1.keep u0
  replace b01 := b01.trans (same_but (d := d) u0)
  replace D1 := D1.keep u0
  clear gt1 gt2 eg1 u0
  dsimp only at KN1 b01 D1 ⊢
  generalize upd H1 t0 (.tup [.ref a1, .ref a2]) = H3 at KN1 b01 D1 ⊢
  have T1 := KN1.tabs _ h1
  have T2 := KN1.tabs _ he2
  dsimp only at T1 T2 ⊢
  -- keys
  refine ⟨_, rfl, a1, rfl, ⟨_, SqL.of T1.cols.all⟩, fun D2 hD2 => ?_⟩
  refine lc_list (K := K) (a := a1) (xs := c1.map fun c => .ref c.1) (fun i H' => Same H3 H' ∧ H' D2 = some (.lst (((c1.take i).filter (fun c : Col => decide (c.2 ∈ c2.map (·.2)))).map fun c => .ref c.1))) ⟨same_upd hD2, upd_same⟩ (fun i H' _ h => SqL.of (h.1 _ _ T1.cols.all)) ?_ ?_
  · rintro i x H' hx ⟨sm, e⟩
    rw [List.getElem?_map] at hx
    obtain ⟨c, hc, rfl⟩ := Option.map_eq_some_iff.mp hx
    have cm := List.mem_of_getElem? hc
    refine ⟨rfl, _, rfl, _, rfl, colD c.2, _, col_dp (sm _ _ (T1.cols.each c cm)), cols_dp (sm _ _ T2.cols.all) (fun c hc => sm _ _ (T2.cols.each c hc)), colD_sh (T1.cols.ok c cm), colsD_sh (fun z hz => by
      obtain ⟨c, hc, rfl⟩ := List.mem_map.mp hz
      exact T2.cols.ok c hc), _, rfl, ?_⟩
    rw [any_col]
    have lf : (((c1.take i).filter (fun c : Col => decide (c.2 ∈ c2.map (·.2)))).map fun c => V.ref c.1).length < sizeLine := by
      rw [List.length_map]
      have h1 := filt_len (P := (fun c : Col => decide (c.2 ∈ c2.map (·.2)))) (c1.take i)
      have h2 : (c1.take i).length ≤ c1.length := by rw [List.length_take]; omega
      have h3 := T1.few
      exact Nat.lt_of_le_of_lt (show _ ≤ 24 by omega) (by decide)
    refine ite2 (fun cc => ⟨_, rfl, _, e, lf, fun b o e' => ?_, ?_⟩) (fun cc => ⟨sm, ?_⟩)
    · rw [upd_ne (ne_of_none e' hD2)]
      exact sm _ _ e'
    · rw [filt_yes hc (by simpa using cc), List.map_append]
      exact upd_same
    · rw [filt_no hc (by simpa using cc)]
      exact e
  rintro H4 ⟨s4, e4⟩
  rw [List.length_map, List.take_length] at e4
  have n2 : D2 ≠ d := (ne_of_none D1.at_d hD2).symm
  have D4 := D1.keep s4
  refine ⟨_, rfl, d, s, ns, [.ref g], _, 2, rfl, D4, by decide, fun r H5 r0 r1 b5 D5 => ?_⟩
  refine ⟨_, _, rfl, rfl, _, rfl, D2, _, rfl, SqL.of (b5 _ _ n2 e4), fun pk hpk => ?_⟩
  obtain ⟨m, rfl⟩ := Int.eq_ofNat_of_zero_le r0
  have e1m : (1 : Int) + (m : Int) = ((1 + m : Nat) : Int) := by omega
  rw [e1m, cut_nat, ← List.map_take]
  obtain ⟨ks, eks⟩ : ∃ ks, ks = (c1.filter (fun c : Col => decide (c.2 ∈ c2.map (·.2)))).take (1 + m) := ⟨_, rfl⟩
  rw [← eks]
  have hks : ∀ c ∈ ks, c ∈ c1 ∧ c.2 ∈ c2.map (·.2) := fun c hc => by
    rw [eks] at hc
    have h2 := List.mem_filter.mp (List.mem_of_mem_take hc)
    exact ⟨h2.1, of_decide_eq_true h2.2⟩
  have lks : ks.length ≤ 2 := by
    rw [eks, List.length_take]
    omega
  have b35 : But d H3 (upd H5 pk (.lst (ks.map fun c => .ref c.1))) := ((same_but s4).trans b5).trans (same_but (same_upd hpk))
  have D6 := D5.keep (same_upd (o := .lst (ks.map fun c => .ref c.1)) hpk)
  have epk : upd H5 pk (.lst (ks.map fun c => .ref c.1)) pk = some (.lst (ks.map fun c => .ref c.1)) := upd_same
  generalize upd H5 pk (.lst (ks.map fun c => .ref c.1)) = H6 at b35 D6 epk ⊢
  replace T1 := T1.but D1 b35
  replace T2 := T2.but D1 b35
  replace KN1 := KN1.but D1 b35
  replace b01 := b01.trans b35
  clear D4 s4 e4 b5 D5 hpk hD2 n2 b35 D1 eks
  have ksA : PairsAt H6 ks := fun c hc => T1.cols.each c (hks c hc).1
  have ksO : ∀ z ∈ ks.map (·.2), PyData.canLay0 (.str z.1) = true := fun z hz => by
    obtain ⟨c, hc, rfl⟩ := List.mem_map.mp hz
    exact T1.cols.ok c (hks c hc).1
  -- rest
  refine ⟨_, rfl, a1, rfl, ⟨_, SqL.of T1.cols.all⟩, fun DA hDA => ?_⟩
  refine lc_list (K := K) (a := a1) (xs := c1.map fun c => .ref c.1) (fun i H' => Same H6 H' ∧ H' DA = some (.lst (((c1.take i).filter (fun c : Col => decide (c.2 ∉ ks.map (·.2)))).map fun c => .ref c.1))) ⟨same_upd hDA, upd_same⟩ (fun i H' _ h => SqL.of (h.1 _ _ T1.cols.all)) ?_ ?_
  · rintro i x H' hx ⟨sm, e⟩
    rw [List.getElem?_map] at hx
    obtain ⟨c, hc, rfl⟩ := Option.map_eq_some_iff.mp hx
    have cm := List.mem_of_getElem? hc
    refine ⟨rfl, _, rfl, _, rfl, colD c.2, _, col_dp (sm _ _ (T1.cols.each c cm)), cols_dp (sm _ _ epk) (fun c hc => sm _ _ (ksA c hc)), colD_sh (T1.cols.ok c cm), colsD_sh ksO, _, rfl, ?_⟩
    rw [any_col]
    have lf : (((c1.take i).filter (fun c : Col => decide (c.2 ∉ ks.map (·.2)))).map fun c => V.ref c.1).length < sizeLine := by
      rw [List.length_map]
      have h1 := filt_len (P := (fun c : Col => decide (c.2 ∉ ks.map (·.2)))) (c1.take i)
      have h2 : (c1.take i).length ≤ c1.length := by rw [List.length_take]; omega
      have h3 := T1.few
      exact Nat.lt_of_le_of_lt (show _ ≤ 24 by omega) (by decide)
    refine ite2 (fun cc => ⟨_, rfl, _, e, lf, fun b o e' => ?_, ?_⟩) (fun cc => ⟨sm, ?_⟩)
    · rw [upd_ne (ne_of_none e' hDA)]
      exact sm _ _ e'
    · rw [filt_yes hc (by simpa using cc), List.map_append]
      exact upd_same
    · rw [filt_no hc (by simpa using cc)]
      exact e
  rintro H7 ⟨s7, eA⟩
  rw [List.length_map, List.take_length] at eA
  replace T1 := T1.keep s7
  replace T2 := T2.keep s7
  replace b01 := b01.trans (same_but (d := d) s7)
  replace epk := s7 _ _ epk
  replace ksA : PairsAt H7 ks := fun c hc => s7 _ _ (ksA c hc)
  replace D6 := D6.keep s7
  clear s7 hDA KN1
  refine ⟨_, rfl, a2, rfl, ⟨_, SqL.of T2.cols.all⟩, fun DB hDB => ?_⟩
  refine lc_list (K := K) (a := a2) (xs := c2.map fun c => .ref c.1) (fun i H' => Same H7 H' ∧ H' DB = some (.lst (((c2.take i).filter (fun c : Col => decide (c.2 ∉ ks.map (·.2)))).map fun c => .ref c.1))) ⟨same_upd hDB, upd_same⟩ (fun i H' _ h => SqL.of (h.1 _ _ T2.cols.all)) ?_ ?_
  · rintro i x H' hx ⟨sm, e⟩
    rw [List.getElem?_map] at hx
    obtain ⟨c, hc, rfl⟩ := Option.map_eq_some_iff.mp hx
    have cm := List.mem_of_getElem? hc
    refine ⟨rfl, _, rfl, _, rfl, colD c.2, _, col_dp (sm _ _ (T2.cols.each c cm)), cols_dp (sm _ _ epk) (fun c hc => sm _ _ (ksA c hc)), colD_sh (T2.cols.ok c cm), colsD_sh ksO, _, rfl, ?_⟩
    rw [any_col]
    have lf : (((c2.take i).filter (fun c : Col => decide (c.2 ∉ ks.map (·.2)))).map fun c => V.ref c.1).length < sizeLine := by
      rw [List.length_map]
      have h1 := filt_len (P := (fun c : Col => decide (c.2 ∉ ks.map (·.2)))) (c2.take i)
      have h2 : (c2.take i).length ≤ c2.length := by rw [List.length_take]; omega
      have h3 := T2.few
      exact Nat.lt_of_le_of_lt (show _ ≤ 24 by omega) (by decide)
    refine ite2 (fun cc => ⟨_, rfl, _, e, lf, fun b o e' => ?_, ?_⟩) (fun cc => ⟨sm, ?_⟩)
    · rw [upd_ne (ne_of_none e' hDB)]
      exact sm _ _ e'
    · rw [filt_yes hc (by simpa using cc), List.map_append]
      exact upd_same
    · rw [filt_no hc (by simpa using cc)]
      exact e
  rintro H8 ⟨s8, eB⟩
  rw [List.length_map, List.take_length] at eB
  replace T1 := T1.keep s8
  replace T2 := T2.keep s8
  replace b01 := b01.trans (same_but (d := d) s8)
  replace epk := s8 _ _ epk
  replace ksA : PairsAt H8 ks := fun c hc => s8 _ _ (ksA c hc)
  replace D6 := D6.keep s8
  replace eA := s8 _ _ eA
  clear s8 hDB
  obtain ⟨lA, elA⟩ : ∃ l, l = c1.filter (fun c : Col => decide (c.2 ∉ ks.map (·.2))) := ⟨_, rfl⟩
  obtain ⟨lB, elB⟩ : ∃ l, l = c2.filter (fun c : Col => decide (c.2 ∉ ks.map (·.2))) := ⟨_, rfl⟩
  rw [← elA] at eA
  rw [← elB] at eB
  have lnA : lA.length ≤ 24 := by
    rw [elA]
    exact Nat.le_trans (filt_len _) T1.few
  have lnB : lB.length ≤ 24 := by
    rw [elB]
    exact Nat.le_trans (filt_len _) T2.few
  have s50 : ∀ {n : Nat}, n ≤ 50 → n ≤ sizeLine := fun h => Nat.le_trans h (by decide)
  have s50' : ∀ {n : Nat}, n ≤ 50 → n < sizeLine := fun h => Nat.lt_of_le_of_lt h (by decide)
  refine ⟨DA, DB, _, _, rfl, rfl, eA, eB, (by rw [List.length_map, List.length_map]; exact s50 (by omega)), fun pr hpr => ?_⟩
  rw [← List.map_append]
  have allA : PairsAt H8 (ks ++ (lA ++ lB)) := fun c hc => by
    rcases List.mem_append.mp hc with hc | hc
    · exact ksA c hc
    rcases List.mem_append.mp hc with hc | hc
    · rw [elA] at hc
      exact T1.cols.each c (List.mem_filter.mp hc).1
    · rw [elB] at hc
      exact T2.cols.each c (List.mem_filter.mp hc).1
  have inn : ∀ c ∈ ks ++ (lA ++ lB), c.2.1 ∈ allNames := fun c hc => by
    rcases List.mem_append.mp hc with hc | hc
    · exact T1.inn c (hks c hc).1
    rcases List.mem_append.mp hc with hc | hc
    · rw [elA] at hc
      exact T1.inn c (List.mem_filter.mp hc).1
    · rw [elB] at hc
      exact T2.inn c (List.mem_filter.mp hc).1
  have s9 := same_upd (o := .lst ((lA ++ lB).map fun c => .ref c.1)) hpr
  have epr : upd H8 pr (.lst ((lA ++ lB).map fun c => .ref c.1)) pr = some (.lst ((lA ++ lB).map fun c => .ref c.1)) := upd_same
  generalize upd H8 pr (.lst ((lA ++ lB).map fun c => .ref c.1)) = H9 at s9 epr ⊢
  replace b01 := b01.trans (same_but (d := d) s9)
  replace epk := s9 _ _ epk
  replace D6 := D6.keep s9
  replace allA : PairsAt H9 (ks ++ (lA ++ lB)) := fun c hc => s9 _ _ (allA c hc)
  clear s9 hpr eA eB ksA T1 T2
  have lall : (ks ++ (lA ++ lB)).length ≤ 50 := by
    rw [List.length_append, List.length_append]
    omega
  have lcat : (ks.map fun c => V.ref c.1).length + ((lA ++ lB).map fun c => V.ref c.1).length ≤ sizeLine := by
    rw [List.length_map, List.length_map, ← List.length_append]
    exact s50 lall
  -- names
  refine ⟨_, rfl, _, rfl, pk, pr, _, _, rfl, rfl, epk, epr, lcat, fun pn hpn => ?_⟩
  rw [← List.map_append]
  have sn := same_upd (o := .lst ((ks ++ (lA ++ lB)).map fun c => .ref c.1)) hpn
  have epn : upd H9 pn (.lst ((ks ++ (lA ++ lB)).map fun c => .ref c.1)) pn = some (.lst ((ks ++ (lA ++ lB)).map fun c => .ref c.1)) := upd_same
  generalize upd H9 pn (.lst ((ks ++ (lA ++ lB)).map fun c => .ref c.1)) = H10 at sn epn ⊢
  refine ⟨pn, rfl, ⟨_, SqL.of epn⟩, fun DN hDN => lc_list (K := K) (a := pn) (xs := (ks ++ (lA ++ lB)).map fun c => .ref c.1) (fun i H' => Same H10 H' ∧ H' DN = some (.lst ((((ks ++ (lA ++ lB)).map fun c => c.2.1).take i).map V.str))) ⟨same_upd hDN, upd_same⟩ (fun i H' _ h => SqL.of (h.1 _ _ epn)) ?_ ?_⟩
  · rintro i x H' hx ⟨sm, e⟩
    rw [List.getElem?_map] at hx
    obtain ⟨p, hp, rfl⟩ := Option.map_eq_some_iff.mp hx
    have eu := sn _ _ (allA p (List.mem_of_getElem? hp))
    refine ⟨p.1, _, rfl, SqT.of (sm _ _ eu), rfl, _, _, rfl, _, _, rfl, rfl, rfl, _, rfl, _, e, ?_, fun b o' e' => ?_, ?_⟩
    · rw [List.length_map, List.length_take, List.length_map]
      exact s50' (by omega)
    · rw [upd_ne (ne_of_none e' hDN)]
      exact sm _ _ e'
    · have h1 : ((ks ++ (lA ++ lB)).map fun c => c.2.1).take (i + 1) = ((ks ++ (lA ++ lB)).map fun c => c.2.1).take i ++ [p.2.1] := by
        rw [List.take_add_one, List.getElem?_map, hp]
        rfl
      rw [h1, List.map_append (f := V.str)]
      exact upd_same
  rintro H11 ⟨s11, e11⟩
  rw [List.length_map, List.take_of_length_le (by rw [List.length_map]; exact Nat.le_refl _)] at e11
  replace s11 := sn.trans s11
  replace b01 := b01.trans (same_but (d := d) s11)
  replace epk := s11 _ _ epk
  replace epr := s11 _ _ epr
  replace D6 := D6.keep s11
  replace allA : PairsAt H11 (ks ++ (lA ++ lB)) := fun c hc => s11 _ _ (allA c hc)
  clear s11 hDN sn epn hpn
  -- the test
  refine ⟨_, rfl, Nat.zero_le _, fun p0 hp0 => ?_⟩
  have s12 := same_upd (o := .lst []) hp0
  have e0 : upd H11 p0 (.lst []) p0 = some (.lst []) := upd_same
  generalize upd H11 p0 (.lst []) = H12 at s12 e0 ⊢
  replace b01 := b01.trans (same_but (d := d) s12)
  replace epk := s12 _ _ epk
  replace epr := s12 _ _ epr
  replace e11 := s12 _ _ e11
  replace D6 := D6.keep s12
  replace allA : PairsAt H12 (ks ++ (lA ++ lB)) := fun c hc => s12 _ _ (allA c hc)
  clear s12 hp0
  refine ⟨_, _, cols_dp epk (fun c hc => allA c (List.mem_append_left _ hc)), .lst (SqL.of e0) .nil, colsD_sh ksO, by decide, _, rfl, ite2 (fun c => iteT ⟨z2, fun r hr => q0 r _ _ upd_same (b01.trans (same_but (same_upd hr))) (D6.keep (same_upd hr))⟩) (fun cne => ?_)⟩
  have hne : ks ≠ [] := fun z => by
    rw [z] at cne
    exact cne rfl
  have ek : (((ks ++ (lA ++ lB)).map fun c => c.2.1).map (fun x => (Sum.inr x : L2.Key))).map kV = ((ks ++ (lA ++ lB)).map fun c => c.2.1).map V.str := by
    rw [List.map_map]
    rfl
  refine ⟨_, rfl, DN, ((ks ++ (lA ++ lB)).map fun c => c.2.1).map (fun x => (Sum.inr x : L2.Key)), rfl, .inl (SqL.of (by rw [ek]; exact e11)), ?_, fun p M nM mM hp => ?_⟩
  · rw [List.length_map, List.length_map]
    omega
  have s13 := same_upd (o := Yk.SetKO P w p M) hp
  refine ⟨p, M, rfl, upd_same, _, rfl, DN, _, rfl, .inl (SqL.of (s13 _ _ e11)), _, _, rfl, rfl, _, rfl, ite2 (fun c => ?_) (fun c => ?_)⟩
  · exact ⟨z2, fun r hr => q0 r _ _ upd_same ((b01.trans (same_but s13)).trans (same_but (same_upd hr))) ((D6.keep s13).keep (same_upd hr))⟩
  have hnd : ((ks ++ (lA ++ lB)).map fun c => c.2.1).Nodup := nodup_strs (len_nodup nM mM (by
    have h1 : ¬ ((M.length : Nat) : Int) < (((((ks ++ (lA ++ lB)).map fun c => c.2.1).map V.str).length : Nat) : Int) := fun z => c (decide_eq_true z)
    rw [List.length_map] at h1 ⊢
    omega))
  refine ⟨_, rfl, _, rfl, pk, rfl, ⟨_, SqL.of (s13 _ _ epk)⟩, fun D7 hD7 => lc_list (K := K) (a := pk) (xs := ks.map fun c => .ref c.1) (fun i H' => Same (upd H12 p (Yk.SetKO P w p M)) H' ∧ H' D7 = some (.lst (((ks.map fun c => c.2.1).take i).map V.str))) ⟨same_upd hD7, upd_same⟩ (fun i H' _ h => SqL.of (h.1 _ _ (s13 _ _ epk))) ?_ ?_⟩
  · rintro i x H' hx ⟨sm, e⟩
    rw [List.getElem?_map] at hx
    obtain ⟨p', hp', rfl⟩ := Option.map_eq_some_iff.mp hx
    have eu := s13 _ _ (allA p' (List.mem_append_left _ (List.mem_of_getElem? hp')))
    refine ⟨p'.1, _, rfl, SqT.of (sm _ _ eu), rfl, _, _, rfl, _, _, rfl, rfl, rfl, _, rfl, _, e, ?_, fun b o' e' => ?_, ?_⟩
    · rw [List.length_map, List.length_take, List.length_map]
      exact s50' (by omega)
    · rw [upd_ne (ne_of_none e' hD7)]
      exact sm _ _ e'
    · have h1 : (ks.map fun c => c.2.1).take (i + 1) = (ks.map fun c => c.2.1).take i ++ [p'.2.1] := by
        rw [List.take_add_one, List.getElem?_map, hp']
        rfl
      rw [h1, List.map_append]
      exact upd_same
  rintro H14 ⟨s14, e14⟩
  rw [List.length_map, List.take_of_length_le (by rw [List.length_map]; exact Nat.le_refl _), List.map_map] at e14
  refine ⟨D7, _, rfl, .inl ⟨SqL.of e14, fun kt hkt => ⟨z2, fun t ht => ?_⟩⟩⟩
  have s15 := ((s13.trans s14).trans (same_upd (o := .tup (ks.map (V.str ∘ fun c => c.2.1))) hkt)).trans (same_upd (o := .tup [.str other, .ref kt]) ht)
  refine ⟨_, rfl, _, rfl, pk, pr, _, _, rfl, rfl, s15 _ _ epk, s15 _ _ epr, lcat, fun f' hf' => ⟨z2, fun r hr => ?_⟩⟩
  rw [← List.map_append] at hr ⊢
  have v1 := same_upd (o := .tup [.ref t, .ref f']) hr
  have v2 := (same_upd (o := .lst ((ks ++ (lA ++ lB)).map fun c => .ref c.1)) hf').trans v1
  have v3 := (same_upd (o := .tup [.str other, .ref kt]) ht).trans v2
  have v4 := s15.trans v2
  refine q r t kt f' a2 other c2 ks (ks ++ (lA ++ lB)) _ _ upd_same (v2 _ _ upd_same) (v3 _ _ upd_same) he2 ⟨⟨v1 _ _ upd_same, fun c hc => v4 _ _ (allA c hc), by omega, fun c hc => all_ok _ (inn c hc)⟩, hnd, inn, fun z => hne (List.append_eq_nil_iff.mp z).1⟩ hne hks ?_ (fun kvs' x y hg hx hy => ?_) (b01.trans (same_but v4)) (D6.keep v4)
  · unfold joinC
    rw [List.map_append, List.map_append, elA, elB, List.filter_map, List.filter_map]
    rfl
  · rw [eg] at hg
    cases hg
    rw [g1] at hx
    rw [g2] at hy
    cases hx
    cases hy
    exact j12
end
end Kx

set_option maxHeartbeats 8000000
namespace Kx
open PySem PySem.Spec PyProof.Rows L2
abbrev s_law_step : Stmt := topS 32
/-! ### jobs as data -/
abbrev MC : Type := Ex × Bool × Str
abbrev FC : Type := Str × Option Ex × Bool × Str
inductive Det where
  | read (cs : List NC)
  | filter (e : Ex)
  | map (ms : List MC)
  | fold (ks : List NC) (fs : List FC)
  | join (ks : List NC)
  | union
  | unlike
  | sort (ws : List (Str × Str)) (m : Int)
def Det.what : Det → Str
  | .read _ => "read"
  | .filter _ => "filter"
  | .map _ => "map"
  | .fold _ _ => "fold"
  | .join _ => "join"
  | .union => "union"
  | .unlike => "unlike"
  | .sort _ _ => "sort"
def FTo (H : Hp) (told : V) : Option Ex → Prop
  | none => told = .non
  | some e => ExAt H told e
/-- a tuple of which it is known that it has no dict of its own -/
def TupF (H : Hp) (a : Addr) (xs : List V) : Prop := ∃ o : Obj, o.dict = none ∧ H a = some (.frz o (.tup xs))
theorem TupF.sq {K : PySem.W.Frag} {H : Hp} {a : Addr} {xs : List V} (t : TupF H a xs) : SqT K H a xs := let ⟨o, _, e⟩ := t; .inl (.inr ⟨o, e⟩)
abbrev KeepF (H H' : Hp) : Prop := ∀ (a : Addr) (xs : List V), TupF H a xs → TupF H' a xs
theorem same_f {H H' : Hp} (h : Same H H') : KeepF H H' := fun a xs ⟨o, d, e⟩ => ⟨o, d, h _ _ e⟩
theorem But.tupF {H H' : Hp} {d : Addr} {l : List V} (h : But d H H') (hd : H d = some (.lst l)) : KeepF H H' := fun a xs ⟨o, dn, e⟩ => ⟨o, dn, h a _ (fun q => by rw [q, hd] at e; cases e) e⟩
def DetAt (H : Hp) (v : V) : Det → Prop
  | .read cs => ∃ (t : Addr) (as : List Col), v = .ref t ∧ TupF H t (as.map fun c => .ref c.1) ∧ PairsAt H as ∧ as.map (·.2) = cs
  | .filter e => ExAt H v e
  | .map ms => ∃ (t : Addr) (as : List (Addr × MC)), v = .ref t ∧ H t = some (.tup (as.map fun p => .ref p.1)) ∧ (∀ p ∈ as, ∃ told, H p.1 = some (.tup [told, .str p.2.2.2]) ∧ ExAt H told p.2.1) ∧ as.map (·.2) = ms
  | .fold ks fs => ∃ (t kt ft : Addr) (as : List (Addr × FC)), v = .ref t ∧ H t = some (.tup [.ref kt, .ref ft]) ∧ H kt = some (.tup (ks.map fun k => .str k.1)) ∧ H ft = some (.tup (as.map fun p => .ref p.1)) ∧ (∀ p ∈ as, ∃ told, H p.1 = some (.tup [.str p.2.1, told, .str p.2.2.2.2]) ∧ FTo H told p.2.2.1) ∧ as.map (·.2) = fs
  | .join ks => ∃ t : Addr, v = .ref t ∧ H t = some (.tup (ks.map fun k => .str k.1))
  | .union => ∃ t : Addr, v = .ref t ∧ H t = some (.tup [])
  | .unlike => ∃ t : Addr, v = .ref t ∧ H t = some (.tup [])
  | .sort ws m => ∃ (t wt : Addr) (as : List (Addr × Str × Str)), v = .ref t ∧ H t = some (.tup [.ref wt, .int m]) ∧ H wt = some (.tup (as.map fun p => .ref p.1)) ∧ (∀ p ∈ as, H p.1 = some (.tup [.str p.2.1, .str p.2.2])) ∧ as.map (·.2) = ws
abbrev KeepT (H H' : Hp) : Prop := ∀ (a : Addr) (xs : List V), H a = some (.tup xs) → H' a = some (.tup xs)
theorem FTo.keep {H H' : Hp} (h : KeepT H H') {told : V} : ∀ {o : Option Ex}, FTo H told o → FTo H' told o
  | none, q => q
  | some _, q => ExAt.keep h q
theorem DetAt.keep {H H' : Hp} (h : KeepT H H') (hf : KeepF H H') {v : V} : ∀ {d : Det}, DetAt H v d → DetAt H' v d
  | .read _, ⟨t, as, e, h1, h2, h3⟩ => ⟨t, as, e, hf _ _ h1, fun c hc => h _ _ (h2 c hc), h3⟩
  | .filter _, q => ExAt.keep h q
  | .map _, ⟨t, as, e, h1, h2, h3⟩ => ⟨t, as, e, h _ _ h1, fun p hp => let ⟨told, a, b⟩ := h2 p hp; ⟨told, h _ _ a, b.keep h⟩, h3⟩
  | .fold _ _, ⟨t, kt, ft, as, e, h1, h2, h3, h4, h5⟩ => ⟨t, kt, ft, as, e, h _ _ h1, h _ _ h2, h _ _ h3, fun p hp => let ⟨told, a, b⟩ := h4 p hp; ⟨told, h _ _ a, b.keep h⟩, h5⟩
  | .join _, ⟨t, e, h1⟩ => ⟨t, e, h _ _ h1⟩
  | .union, ⟨t, e, h1⟩ => ⟨t, e, h _ _ h1⟩
  | .unlike, ⟨t, e, h1⟩ => ⟨t, e, h _ _ h1⟩
  | .sort _ _, ⟨t, wt, as, e, h1, h2, h3, h4⟩ => ⟨t, wt, as, e, h _ _ h1, h _ _ h2, fun p hp => h _ _ (h3 p hp), h4⟩
structure Stp where
  name : Str
  ins : List Str
  det : Det
def StpAt (H : Hp) (a : Addr) (s : Stp) : Prop := ∃ (inp : Addr) (dv : V), H a = some (.tup [.str s.name, .str s.det.what, .ref inp, dv]) ∧ H inp = some (.tup (s.ins.map V.str)) ∧ DetAt H dv s.det
theorem StpAt.keep {H H' : Hp} (h : KeepT H H') (hf : KeepF H H') {a : Addr} {s : Stp} : StpAt H a s → StpAt H' a s := fun ⟨inp, dv, h1, h2, h3⟩ => ⟨inp, dv, h _ _ h1, h _ _ h2, h3.keep h hf⟩
theorem same_t {H H' : Hp} (h : Same H H') : KeepT H H' := fun a xs e => h a _ e
/-- the kind of a column, by its name -/
def kfN (cs : List NC) (x : Str) : Option Bool := (cs.find? fun c => decide (c.1 = x)).map (·.2)
theorem kfN_of : ∀ {cs : List NC}, (cs.map (·.1)).Nodup → ∀ {c : NC}, c ∈ cs → kfN cs c.1 = some c.2
  | [], _, c, h => absurd h List.not_mem_nil
  | x :: cs, hn, c, h => by
    unfold kfN
    rw [List.find?_cons]
    by_cases hx : x.1 = c.1
    · have e : x = c := by
        rcases List.mem_cons.mp h with rfl | h
        · rfl
        · exact absurd (by show x.1 ∈ _; rw [hx]; exact List.mem_map.mpr ⟨c, h, rfl⟩) (List.nodup_cons.mp hn).1
      rw [decide_eq_true hx, e]
      rfl
    · rw [decide_eq_false hx]
      have hl : c ∈ cs := by
        rcases List.mem_cons.mp h with rfl | h
        · exact absurd rfl hx
        · exact h
      exact kfN_of (List.nodup_cons.mp hn).2 hl
def FOk (cs : List NC) (m : FC) : Prop := m.1 ∈ folds6 ∧ match m.2.1 with
  | none => m.1 = "count" ∧ m.2.2.1 = true
  | some e => m.1 ≠ "count" ∧ Kind (kfN cs) e m.2.2.1 ∧ e.dep ≤ 3 ∧ (m.1 ∉ (["least", "unlike", "greatest"] : List Str) → m.2.2.1 = true)
inductive StepOk (kn : List (Str × List NC)) : List Str → Det → List NC → Prop where
  | filter {one : Str} {cs : List NC} {e : Ex} (h : (one, cs) ∈ kn) (k : Kind (kfN cs) e true) (d : e.dep ≤ 4) : StepOk kn [one] (.filter e) cs
  | map {one : Str} {cs : List NC} {ms : List MC} (h : (one, cs) ∈ kn) (k : ∀ m ∈ ms, Kind (kfN cs) m.1 m.2.1 ∧ m.1.dep ≤ 4) (nd : (ms.map (·.2.2)).Nodup) (ne : ms ≠ []) (l : ms.length ≤ 3) : StepOk kn [one] (.map ms) (ms.map fun m => (m.2.2, m.2.1))
  | fold {one : Str} {cs ks : List NC} {fs : List FC} (h : (one, cs) ∈ kn) (hk : ∀ k ∈ ks, k ∈ cs) (hf : ∀ m ∈ fs, FOk cs m) (nd : (ks.map (·.1) ++ fs.map (·.2.2.2)).Nodup) (ne : fs ≠ []) (l : fs.length ≤ 3) : StepOk kn [one] (.fold ks fs) (ks ++ fs.map fun m => (m.2.2.2, lateK m.1 m.2.2.1))
  | join {one other : Str} {f s ks : List NC} (h1 : (one, f) ∈ kn) (h2 : (other, s) ∈ kn) (ne : ks ≠ []) (hk : ∀ k ∈ ks, k ∈ f ∧ k ∈ s) (nd : ((joinC f s ks).map (·.1)).Nodup) : StepOk kn [one, other] (.join ks) (joinC f s ks)
  | union {one other : Str} {cs : List NC} (h1 : (one, cs) ∈ kn) (h2 : (other, cs) ∈ kn) : StepOk kn [one, other] .union cs
  | unlike {one : Str} {cs : List NC} (h : (one, cs) ∈ kn) : StepOk kn [one] .unlike cs
  | sort {one : Str} {cs : List NC} {ws : List (Str × Str)} {m : Int} (h : (one, cs) ∈ kn) (ne : ws ≠ []) (hw : ∀ x ∈ ws, (∃ k, (x.1, k) ∈ cs) ∧ (x.2 = "up" ∨ x.2 = "down")) (l : ws.length ≤ 2) (m1 : 1 ≤ m) (m5 : m ≤ 5) : StepOk kn [one] (.sort ws m) cs
def abs (kn : Knw) : List (Str × List NC) := kn.map fun e => (e.1, e.2.2.map (·.2))
theorem abs_mem {kn : Knw} {e : Str × Addr × List Col} (h : e ∈ kn) : (e.1, e.2.2.map (·.2)) ∈ abs kn := List.mem_map.mpr ⟨e, h, rfl⟩
def SizeOk (kvs : List (L2.Key × V)) (ins : List Str) (what : Str) : Prop := ∃ js : List Int, ins.length = js.length ∧ (∀ (i : Nat) (x : Str), ins[i]? = some x → ∃ j : Int, js[i]? = some j ∧ valV kvs (.inr x) = some (.int j)) ∧
  (what = "join" → ∃ a b : Int, js = [a, b] ∧ 0 ≤ a ∧ a ≤ 400 ∧ 0 ≤ b ∧ b ≤ 400 ∧ 0 ≤ a * b ∧ a * b ≤ 400) ∧ (what ≠ "join" → 0 ≤ js.sum ∧ js.sum ≤ 400)
theorem size_one {kvs : List (L2.Key × V)} {one what : Str} {j : Int} (h : valV kvs (.inr one) = some (.int j)) (h0 : 0 ≤ j) (h1 : j ≤ 400) (nj : what ≠ "join") : SizeOk kvs [one] what :=
  by
  refine ⟨[j], rfl, fun i x e => ?_, fun z => absurd z nj, fun _ => ?_⟩
  · match i, e with
    | 0, e =>
      cases e
      exact ⟨j, rfl, h⟩
    | i + 1, e => cases e
  · show 0 ≤ j + 0 ∧ j + 0 ≤ 400
    omega
theorem size_two {kvs : List (L2.Key × V)} {one other what : Str} {a b : Int} (h : valV kvs (.inr one) = some (.int a)) (h' : valV kvs (.inr other) = some (.int b)) (a0 : 0 ≤ a) (a1 : a ≤ 400) (b0 : 0 ≤ b) (b1 : b ≤ 400) (hj : what = "join" → a * b ≤ 400) (hs : what ≠ "join" → a + b ≤ 400) : SizeOk kvs [one, other] what :=
  by
  refine ⟨[a, b], rfl, fun i x e => ?_, fun z => ⟨a, b, rfl, a0, a1, b0, b1, Int.mul_nonneg a0 b0, hj z⟩, fun z => ?_⟩
  · match i, e with
    | 0, e =>
      cases e
      exact ⟨a, rfl, h⟩
    | 1, e =>
      cases e
      exact ⟨b, rfl, h'⟩
    | i + 2, e => cases e
  · have := hs z
    show 0 ≤ a + (b + 0) ∧ a + (b + 0) ≤ 400
    omega
theorem colsA_eqv : ∀ l m : List NC, PyData.eqvAll (l.map colD) (m.map colD) = decide (l = m)
  | [], [] => rfl
  | [], _ :: _ => rfl
  | _ :: _, [] => rfl
  | a :: l, b :: m => by
    show (PyData.eqv (colD a) (colD b) && PyData.eqvAll (l.map colD) (m.map colD)) = _
    rw [colD_eqv, colsA_eqv l m]
    by_cases h1 : a = b
    · by_cases h2 : l = m
      · simp [h1, h2]
      · simp [h1, h2]
    · simp [h1]
theorem colsD_eqv (l m : List NC) : PyData.eqv (.list (l.map colD)) (.list (m.map colD)) = decide (l = m) := colsA_eqv l m
def WaysAt (H : Hp) (cl : List Col) (as : List (Addr × Str × Str)) : Prop := ∀ p ∈ as, H p.1 = some (.tup [.str p.2.1, .str p.2.2]) ∧ (∃ k, (p.2.1, k) ∈ cl.map (·.2)) ∧ (p.2.2 = "up" ∨ p.2.2 = "down") ∧ PyData.canLay0 (.str p.2.1) = true
theorem WaysAt.keep {H H' : Hp} {cl : List Col} {as : List (Addr × Str × Str)} (W : WaysAt H cl as) (h : KeepT H H') : WaysAt H' cl as := fun p hp => ⟨h _ _ (W p hp).1, (W p hp).2⟩
def wayD (x : Str × Str) : PyData := .tuple [.str x.1, .str x.2]
theorem ways_dp {K : PySem.W.Frag} {H : Hp} {cl : List Col} : ∀ {as : List (Addr × Str × Str)}, WaysAt H cl as → DpAll K H (as.map fun p => .ref p.1) (as.map fun p => wayD p.2)
  | [], _ => .nil
  | p :: as, h => .cons (.tup (SqT.of (h p List.mem_cons_self).1) (.cons (.str _) (.cons (.str _) .nil))) (ways_dp fun x hx => h x (List.mem_cons_of_mem _ hx))
theorem way_ok {x : Str × Str} (h : PyData.canLay0 (.str x.1) = true) (w : x.2 = "up" ∨ x.2 = "down") : PyData.canLay0 (wayD x) = true := by
  show (PyData.canLay0 (.str x.1) && (PyData.canLay0 (.str x.2) && true)) = true
  rw [h]
  rcases w with w | w
  · rw [w]
    decide +kernel
  · rw [w]
    decide +kernel
theorem ways_ok {H : Hp} {cl : List Col} : ∀ {as : List (Addr × Str × Str)}, WaysAt H cl as → PyData.canLayAll0 (as.map fun p => wayD p.2) = true
  | [], _ => rfl
  | p :: as, h => by
    show (PyData.canLay0 (wayD p.2) && PyData.canLayAll0 (as.map fun p => wayD p.2)) = true
    rw [way_ok (h p List.mem_cons_self).2.2.2 (h p List.mem_cons_self).2.2.1, ways_ok fun x hx => h x (List.mem_cons_of_mem _ hx)]
    rfl
theorem ways_dep : ∀ as : List (Addr × Str × Str), PyData.depthAll (as.map fun p => wayD p.2) ≤ 1
  | [] => Nat.zero_le _
  | p :: as => by
    show max (PyData.depth (wayD p.2)) (PyData.depthAll (as.map fun p => wayD p.2)) ≤ 1
    exact Nat.max_le.mpr ⟨Nat.le_refl 1, ways_dep as⟩
theorem ways_sh {H : Hp} {cl : List Col} {as : List (Addr × Str × Str)} (W : WaysAt H cl as) : SeqAt.shaped (.tuple (as.map fun p => wayD p.2)) = true := by
  have d := ways_dep as
  show (PyData.canLayAll0 (as.map fun p => wayD p.2) && decide (PyData.depthAll (as.map fun p => wayD p.2) + 1 ≤ 64)) = true
  rw [ways_ok W, decide_eq_true (by omega)]
  rfl
theorem fn_all : ∀ x ∈ fnames, x ∈ allNames := by decide +kernel
section
variable {P : Program} {w : World} {K : PySem.W.Frag} {mg : Str → Option Value} {base : Heap}
/-! ### _law_step -/
abbrev N_law_step : List Str := ["draw", "known", "name", "one", "columns", "kind", "details", "late", "pair", "some", "other", "ways"]
def spStep : Sp := fun vs H Q _ => ∃ (d s kd g : Addr) (kn : Knw) (name one : Str) (a1 : Addr) (c1 : List Col) (ns : List Int) (n : Int), vs = [.ref d, .ref kd, .str name, .str one] ∧ DrawAt H d s ns [.ref g] n ∧ KnowsAt H kd g kn ∧ (one, a1, c1) ∈ kn ∧
  ∀ (r st f : Addr) (ins : List Str) (det : Det) (cl : List Col) (n' : Int) (H' : Hp), H' r = some (.tup [.ref st, .ref f]) → StpAt H' st ⟨name, ins, det⟩ → Tab H' f cl → StepOk (abs kn) ins det (cl.map (·.2)) → (∀ kvs, H g = some (.dK kvs) → SizeOk kvs ins det.what) → But d H H' → DrawAt H' d s ns [.ref g] n' → Q (.ref r) H'
theorem sc_step : FnScope N_law_step ["draw", "known", "name", "one"] (defScope s_law_step) := ⟨rfl, rfl, rfl, by decide +kernel, rfl, by decide +kernel, by decide +kernel⟩
theorem ok_step {f : Addr} {fd : FuncData} (F : Fun K "_law_step" "_law_step" s_law_step f fd) (m_tuple : mg "tuple" = none) (m_sorted : mg "sorted" = none) (G_law_next : Ready P w K mg base 3 "_law_next" ["draw", "bound"] spNext) (G_law_pick : Ready P w K mg base 4 "_law_pick" ["draw", "things"] (spPick K))
    (G_law_int : Ready P w K mg base 7 "_law_int" ["draw", "columns", "deep"] (spInt 3)) (G_law_map : Ready P w K mg base 8 "_law_map" ["draw", "columns", "at"] spMap) (G_law_fold : Ready P w K mg base 8 "_law_fold" ["draw", "columns"] spFold) (G_law_join : Ready P w K mg base 5 "_law_join" ["draw", "known", "one"] spJoin) :
    FnOk P w K mg base CX0 9 f fd ["draw", "known", "name", "one"] spStep := by
  refine F.ok sc_step (fun vs H Q E h => ?_) (fun cdv A outer s0 H vs Q E hr h => ?_)
  · obtain ⟨d, s, kd, g, kn, name, one, a1, c1, ns, n, rfl, _⟩ := h
    rfl
  obtain ⟨d, s, kd, g, kn, name, one, a1, c1, ns, n, rfl, D, KN, h1, q⟩ := h
  have nd := sc_step.nd
  have hr8 : Room 8 _ := hr
  have hr7 : Room 7 _ := hr.mono (by omega)
  have hr5 : Room 5 _ := hr.mono (by omega)
  have hr4 : Room 4 _ := hr.mono (by omega)
  have hr3 : Room 3 _ := hr.mono (by omega)
  have hu64 : _ + 64 < cLine := hr.units
  have hu1 : _ + 1 < cLine := Nat.lt_of_le_of_lt (Nat.add_le_add_left (by decide : 1 ≤ 64) _) hu64
  refine ⟨_, pss_cons (ps_asg (pe_tup (pa_cons (pe_dget hu1 (pv 1) (pv 3) (fun _ _ => rfl)) (pa_cons (pe_fn (G_law_next) hr3 (pa_cons (pv 0) (pa_cons pe_int pa_nil))) pa_nil))) (pg_tup rfl (pgs_cons (pg_name (i := 4) nd rfl (.inr rfl)) (pgs_cons (pg_name (i := 5) nd rfl (.inl rfl)) pgs_nil))))
      (pss_cons (ps_if (pt_cmpR op_lt (pv 5) pe_int (nomark _)) (pss_one (ps_ret (pe_tup (pa_cons (pe_tup (pa_cons (pv 2) (pa_cons pe_str (pa_cons (pe_tup (pa_cons (pv 3) pa_nil)) (pa_cons (pe_fn (G_law_int) hr7 (pa_cons (pv 0) (pa_cons (pv 4) (pa_cons pe_int pa_nil)))) pa_nil))))) (pa_cons (pv 4) pa_nil))))) (pss_nil))
      (pss_cons (ps_if (pt_cmpR op_eq (pv 5) pe_int (nomark _)) (pss_cons (ps_asg (pe_fn (G_law_map) hr8 (pa_cons (pv 0) (pa_cons (pv 4) (pa_cons pe_int pa_nil)))) (pg_tup rfl (pgs_cons (pg_name (i := 6) nd rfl (.inl rfl)) (pgs_cons (pg_name (i := 7) nd rfl (.inl rfl)) pgs_nil))))
      (pss_one (ps_ret (pe_tup (pa_cons (pe_tup (pa_cons (pv 2) (pa_cons pe_str (pa_cons (pe_tup (pa_cons (pv 3) pa_nil)) (pa_cons (pv 6) pa_nil))))) (pa_cons (pv 7) pa_nil)))))) (pss_nil))
      (pss_cons (ps_if (pt_cmpR op_lt (pv 5) pe_int (nomark _)) (pss_cons (ps_asg (pe_fn (G_law_fold) hr8 (pa_cons (pv 0) (pa_cons (pv 4) pa_nil))) (pg_tup rfl (pgs_cons (pg_name (i := 6) nd rfl (.inl rfl)) (pgs_cons (pg_name (i := 7) nd rfl (.inl rfl)) pgs_nil))))
      (pss_one (ps_ret (pe_tup (pa_cons (pe_tup (pa_cons (pv 2) (pa_cons pe_str (pa_cons (pe_tup (pa_cons (pv 3) pa_nil)) (pa_cons (pv 6) pa_nil))))) (pa_cons (pv 7) pa_nil)))))) (pss_nil))
      (C8.pss_cut (ps_if (pt_cmpR op_eq (pv 5) pe_int (nomark _)) (pss_cons (ps_asg (pe_fn (G_law_join) hr5 (pa_cons (pv 0) (pa_cons (pv 1) (pa_cons (pv 3) pa_nil)))) (pg_tup rfl (pgs_cons (pg_name (i := 8) nd rfl (.inl rfl)) (pgs_cons (pg_name (i := 7) nd rfl (.inl rfl)) pgs_nil))))
      (pss_one (ps_if (pt_cmpR op_notN (pv 8) pe_non (nomark _)) (pss_one (ps_ret (pe_tup (pa_cons (pe_tup (pa_cons (pv 2) (pa_cons pe_str (pa_cons (pe_tup (pa_cons (pv 3) (pa_cons (pe_ix ix_tup (pv 8) pe_int (fun _ _ => rfl)) pa_nil))) (pa_cons (pe_ix ix_tup (pv 8) pe_int (fun _ _ => rfl)) pa_nil))))) (pa_cons (pv 7) pa_nil))))) (pss_nil)))) (pss_nil))
      (C8.pss_cut (ps_if (pt_cmpR op_eq (pv 5) pe_int (nomark _)) (pss_cons (ps_setLc (i := 9) (own := [("other", 10)]) (g := gName 10) (tt := tAnd (tTest (tOp (rEqD K) (tDGet (tVar 1) (tVar 10)) (tVar 4))) (tTest (tOp (rI0 fun i j => V.bl (decide (i ≤ j))) (tOp (rI0 fun i j => V.int (i + j)) (tDGet (tOp (rIxL K) (tVar 0) (tC (V.int 3))) (tVar 3)) (tDGet (tOp (rIxL K) (tVar 0) (tC (V.int 3))) (tVar 10))) (tC (V.int 60))))) rfl nd rfl rfl (sw_true rfl rfl rfl (by decide +kernel)) (pi_list (pe_callB (call_sortedD rfl) (by rfl) m_sorted (by decide +kernel) (pa_cons (pv 1) pa_nil))) (blkOk_by (N := N_law_step) (sc := defScope s_law_step) (by decide +kernel)) (fun _ _ _ _ _ => pg_name (i := 10) nd rfl (Or.inl rfl)) (fun _ _ _ _ _ => pts_one (PW.pt (pw_and (pt_cmpR (op_eqD hu64) (pe_dget hu1 (pv 1) (pv 10) (fun _ _ => rfl)) (pv 4) (nomark _)) (pw_and1 (pt_cmpR op_le (pe_op op_add (pe_dget hu1 (pe_ix (show IxR _ (rIxL K) from ix_list) (pv 0) pe_int (fun _ _ => rfl)) (pv 3) (fun _ _ => rfl)) (pe_dget hu1 (pe_ix (show IxR _ (rIxL K) from ix_list) (pv 0) pe_int (fun _ _ => rfl)) (pv 10) (fun _ _ => rfl))) pe_int (nomark _)))))) (fun _ _ _ _ _ => (pv 10)))
      (pss_one (ps_if (pt_cmpR (op_neD hu64) (pv 9) (pe_lst pa_nil) (nomark _)) (pss_one (ps_ret (pe_tup (pa_cons (pe_tup (pa_cons (pv 2) (pa_cons pe_str (pa_cons (pe_tup (pa_cons (pv 3) (pa_cons (pe_fn (G_law_pick) hr4 (pa_cons (pv 0) (pa_cons (pv 9) pa_nil))) pa_nil))) (pa_cons (pe_tup pa_nil) pa_nil))))) (pa_cons (pv 4) pa_nil))))) (pss_nil)))) (pss_nil))
      (C8.pss_cut (ps_if (pt_cmpR op_eq (pv 5) pe_int (nomark _)) (pss_cons (ps_set (i := 11) nd rfl (.inl rfl) (pe_callTy call_tuple_of (by rfl) m_tuple PyProof.Rows.boot_tuple (pa_cons (pe_slice sl_list (pe_lc (own := [("pair", 8)]) (g := gName 8) (tt := _) (te := tTup (tCons (tOp (rIxT K) (tVar 8) (tC (V.int 0))) (tCons (tCall (spPick K) [] E0 (tCons (tVar 0) (tCons (tTup (tCons (tC (V.str "up")) (tCons (tC (V.str "down")) tNil))) tNil))) tNil))) rfl nd (pi_list (pv 4)) (blkOk_by (N := N_law_step) (sc := defScope s_law_step) (by decide +kernel)) (fun _ _ _ _ _ => pg_name (i := 8) nd rfl (Or.inl rfl)) (fun _ _ _ _ _ => pts_one (pt_cmpR op_eq (pe_fn (G_law_next) hr3 (pa_cons (pv 0) (pa_cons pe_int pa_nil))) pe_int (nomark _))) (fun _ _ _ _ _ => (pe_tup (pa_cons (pe_ix ix_tup (pv 8) pe_int (fun _ _ => rfl)) (pa_cons (pe_fn (G_law_pick) hr4 (pa_cons (pv 0) (pa_cons (pe_tup (pa_cons pe_str (pa_cons pe_str pa_nil))) pa_nil))) pa_nil))))) po_none (po_some pe_int)) pa_nil)))
      (pss_one (ps_if (pt_cmpR (op_neD hu64) (pv 11) (pe_tup pa_nil) (nomark _)) (pss_one (ps_ret (pe_tup (pa_cons (pe_tup (pa_cons (pv 2) (pa_cons pe_str (pa_cons (pe_tup (pa_cons (pv 3) pa_nil)) (pa_cons (pe_tup (pa_cons (pv 11) (pa_cons (pe_op op_add pe_int (pe_fn (G_law_next) hr3 (pa_cons (pv 0) (pa_cons pe_int pa_nil)))) pa_nil))) pa_nil))))) (pa_cons (pv 4) pa_nil))))) (pss_nil)))) (pss_nil))
      (pss_one (ps_ret (pe_tup (pa_cons (pe_tup (pa_cons (pv 2) (pa_cons pe_str (pa_cons (pe_tup (pa_cons (pv 3) pa_nil)) (pa_cons (pe_tup pa_nil) pa_nil))))) (pa_cons (pv 4) pa_nil))))))))))), ?_⟩
  have z1 : 1 ≤ sizeLine := by decide
  have z2 : 2 ≤ sizeLine := by decide
  have z4 : 4 ≤ sizeLine := by decide
  obtain ⟨kvs, eg, lkv, hsz⟩ := KN.sizes
  have ret : ∀ (H' : Hp) (inp f : Addr) (dv : V) (ins : List Str) (det : Det) (cl : List Col) (n' : Int), H' inp = some (.tup (ins.map V.str)) → DetAt H' dv det → Tab H' f cl → StepOk (abs kn) ins det (cl.map (·.2)) → (∀ kvs, H g = some (.dK kvs) → SizeOk kvs ins det.what) → But d H H' → DrawAt H' d s ns [.ref g] n' →
      ∀ st, H' st = none → ∀ r, upd H' st (.tup [.str name, .str det.what, .ref inp, dv]) r = none → Q (.ref r) (upd (upd H' st (.tup [.str name, .str det.what, .ref inp, dv])) r (.tup [.ref st, .ref f])) := fun H' inp f dv ins det cl n' ei xd T O Z b D' st hst r hr => by
    have s1 := same_upd (o := .tup [.str name, .str det.what, .ref inp, dv]) hst
    have s2 := s1.trans (same_upd (o := .tup [.ref st, .ref f]) hr)
    exact q r st f ins det cl n' _ upd_same ⟨inp, dv, same_upd hr _ _ upd_same, s2 _ _ ei, xd.keep (same_t s2) (same_f s2)⟩ (T.keep s2) O Z (b.trans (same_but s2)) (D'.keep s2)
  have one_sz : ∀ {what : Str}, what ≠ "join" → ∀ kvs', H g = some (.dK kvs') → SizeOk kvs' [one] what := fun hw kvs' h => by
    rw [eg] at h
    cases h
    obtain ⟨j, g1, j0, j1⟩ := hsz _ h1
    exact size_one g1 j0 j1 hw
  have kn1 : (one, c1.map (·.2)) ∈ abs kn := abs_mem h1
  have hk : ∀ c ∈ c1, kfN (c1.map (·.2)) c.2.1 = some c.2.2 := fun c hc => kfN_of (by rw [List.map_map]; exact (KN.tabs _ h1).nod) (List.mem_map.mpr ⟨c, hc, rfl⟩)
  -- columns, kind
  refine ⟨_, rfl, _, rfl, kd, _, rfl, KN.get h1, _, rfl, d, s, ns, [.ref g], n, 9, rfl, D, by decide, fun kd0 H1 r0 r1 b1 D1 => ⟨z2, fun t0 ht0 => ⟨t0, _, rfl, SqT.of upd_same, rfl, _, _, rfl, _, _, rfl, rfl, ?_⟩⟩⟩
  dsimp only at D1 ht0 ⊢
  have u0 := same_upd (o := .tup [.ref a1, .int kd0]) ht0
  have b0 : But d H (upd H1 t0 (.tup [.ref a1, .int kd0])) := b1.trans (same_but u0)
  replace D1 := D1.keep u0
  generalize upd H1 t0 (.tup [.ref a1, .int kd0]) = H2 at b0 D1 ⊢
  clear u0 ht0 b1
  have T1 : ∀ {H' : Hp}, But d H H' → Tab H' a1 c1 := fun b => (KN.tabs _ h1).but D b
  -- filter
  refine ⟨_, rfl, _, _, rfl, rfl, _, rfl, ite2 (fun c => ?_) (fun c => ?_)⟩
  · refine ⟨_, rfl, _, rfl, z1, fun inp hinp => ?_⟩
    have s1 := same_upd (o := .tup [.str one]) hinp
    have ei : upd H2 inp (.tup [.str one]) inp = some (.tup [.str one]) := upd_same
    have D2 := D1.keep s1
    have b2 : But d H (upd H2 inp (.tup [.str one])) := b0.trans (same_but s1)
    refine ⟨_, rfl, _, rfl, d, s, a1, c1, kfN (c1.map (·.2)), ns, [.ref g], _, 2, rfl, D2, (T1 b2).cols, hk, by decide, rfl, fun v e n5 H5 ke de xe b5 D5 => ⟨z4, fun st hst => ⟨_, rfl, z2, fun r hr => ?_⟩⟩⟩
    exact ret H5 inp a1 v [one] (.filter e) c1 n5 (b5.tup D2.at_d _ _ ei) xe (T1 (b2.trans b5)) (.filter kn1 ke de) (one_sz (show ("filter" : Str) ≠ "join" by decide +kernel)) (b2.trans b5) D5 st hst r hr
  clear c
  -- map
  refine ⟨_, rfl, rfl, _, rfl, ite2 (fun c => ?_) (fun c => ?_)⟩
  · refine ⟨_, rfl, _, rfl, d, s, a1, .int 0, c1, kfN (c1.map (·.2)), ns, [.ref g], _, rfl, D1, (T1 b0).cols, hk, (KN.tabs _ h1).ne, fun r0 t f0 ms n5 H5 er et ef hms hnd hne hl b5 D5 => ?_⟩
    refine ⟨r0, _, rfl, SqT.of er, rfl, _, _, rfl, _, _, rfl, rfl, ?_⟩
    refine ⟨_, rfl, _, rfl, z1, fun inp hinp => ⟨_, rfl, z4, fun st hst => ⟨_, rfl, z2, fun r hr => ?_⟩⟩⟩
    have s1 := same_upd (o := .tup [.str one]) hinp
    have hms' := fun m hm => (hms m hm).keep (same_t s1)
    refine ret _ inp f0 (.ref t) [one] (.map (ms.map fun m => (m.ex, m.kind, m.name))) (ms.map fun m => (m.col, m.name, m.kind)) n5 upd_same ⟨t, ms.map fun m => (m.det, m.ex, m.kind, m.name), rfl, ?_, fun p hp => ?_, ?_⟩ ⟨⟨?_, fun c hc => ?_, ?_, fun c hc => ?_⟩, ?_, fun c hc => ?_, ?_⟩ ?_ (one_sz (show ("map" : Str) ≠ "join" by decide +kernel)) ((b0.trans b5).trans (same_but s1)) (D5.keep s1) st hst r hr
    · rw [List.map_map]
      exact s1 _ _ et
    · obtain ⟨m, hm, rfl⟩ := List.mem_map.mp hp
      exact ⟨m.told, (hms' m hm).at_det, (hms' m hm).ex⟩
    · rw [List.map_map]
      rfl
    · rw [List.map_map]
      exact s1 _ _ ef
    · obtain ⟨m, hm, rfl⟩ := List.mem_map.mp hc
      exact (hms' m hm).at_col
    · rw [List.length_map]
      omega
    · obtain ⟨m, hm, rfl⟩ := List.mem_map.mp hc
      exact lates_ok _ (hms m hm).nm
    · rw [List.map_map]
      exact hnd
    · obtain ⟨m, hm, rfl⟩ := List.mem_map.mp hc
      exact List.mem_append_right _ (hms m hm).nm
    · exact fun z => hne (List.map_eq_nil_iff.mp z)
    · have := StepOk.map (ms := ms.map fun m => (m.ex, m.kind, m.name)) kn1 (fun m' hm' => by
        obtain ⟨m, hm, rfl⟩ := List.mem_map.mp hm'
        exact ⟨(hms m hm).kd, (hms m hm).dep⟩) (by rw [List.map_map]; exact hnd) (fun z => hne (List.map_eq_nil_iff.mp z)) (by rw [List.length_map]; exact hl)
      rw [List.map_map] at this ⊢
      exact this
  clear c
  -- fold
  refine ⟨_, rfl, _, _, rfl, rfl, _, rfl, ite2 (fun c => ?_) (fun c => ?_)⟩
  · refine ⟨_, rfl, _, rfl, d, s, a1, c1, kfN (c1.map (·.2)), ns, [.ref g], _, rfl, D1, (T1 b0).cols, hk, (KN.tabs _ h1).ne, fun r0 t kt ft f0 ks fs n5 H5 er et ekt eft ef hks hfs hnd hne hl b5 D5 => ?_⟩
    refine ⟨r0, _, rfl, SqT.of er, rfl, _, _, rfl, _, _, rfl, rfl, ?_⟩
    refine ⟨_, rfl, _, rfl, z1, fun inp hinp => ⟨_, rfl, z4, fun st hst => ⟨_, rfl, z2, fun r hr => ?_⟩⟩⟩
    have s1 := same_upd (o := .tup [.str one]) hinp
    have hfs' := fun m hm => (hfs m hm).keep (same_t s1)
    have C6 := (T1 (b0.trans b5)).keep s1
    have lk : ks.length ≤ 24 := by
      have h2 := few_names (l := ks.map fun c => c.2.1) (List.nodup_append.mp hnd).1 fun x hx => by
        obtain ⟨c, hc, rfl⟩ := List.mem_map.mp hx
        exact C6.inn c (hks c hc)
      rw [List.length_map] at h2
      exact h2
    refine ret _ inp f0 (.ref t) [one] (.fold (ks.map (·.2)) (fs.map fun m => (m.op, m.ex, m.kind, m.name))) (ks ++ fs.map fun m => (m.col, m.name, lateK m.op m.kind)) n5 upd_same ⟨t, kt, ft, fs.map fun m => (m.det, m.op, m.ex, m.kind, m.name), rfl, s1 _ _ et, ?_, ?_, fun p hp => ?_, ?_⟩ ⟨⟨?_, fun c hc => ?_, ?_, fun c hc => ?_⟩, ?_, fun c hc => ?_, ?_⟩ ?_ (one_sz (show ("fold" : Str) ≠ "join" by decide +kernel)) ((b0.trans b5).trans (same_but s1)) (D5.keep s1) st hst r hr
    · rw [List.map_map]
      exact s1 _ _ ekt
    · rw [List.map_map]
      exact s1 _ _ eft
    · obtain ⟨m, hm, rfl⟩ := List.mem_map.mp hp
      refine ⟨m.told, (hfs' m hm).at_det, ?_⟩
      have tt := (hfs' m hm).told
      show FTo _ m.told m.ex
      cases hx : m.ex with
      | none =>
        rw [hx] at tt
        exact tt.2.1
      | some e =>
        rw [hx] at tt
        exact tt.2.1
    · rw [List.map_map]
      rfl
    · rw [List.map_append, List.map_map]
      exact s1 _ _ ef
    · rcases List.mem_append.mp hc with hc | hc
      · exact C6.cols.each c (hks c hc)
      · obtain ⟨m, hm, rfl⟩ := List.mem_map.mp hc
        exact (hfs' m hm).at_col
    · rw [List.length_append, List.length_map]
      omega
    · rcases List.mem_append.mp hc with hc | hc
      · exact C6.cols.ok c (hks c hc)
      · obtain ⟨m, hm, rfl⟩ := List.mem_map.mp hc
        exact all_ok _ (fn_all _ (hfs m hm).nm)
    · rw [List.map_append, List.map_map]
      exact hnd
    · rcases List.mem_append.mp hc with hc | hc
      · exact C6.inn c (hks c hc)
      · obtain ⟨m, hm, rfl⟩ := List.mem_map.mp hc
        exact fn_all _ (hfs m hm).nm
    · exact fun z => hne (List.map_eq_nil_iff.mp (List.append_eq_nil_iff.mp z).2)
    · have := StepOk.fold (ks := ks.map (·.2)) (fs := fs.map fun m => (m.op, m.ex, m.kind, m.name)) kn1 (fun k hk' => by
        obtain ⟨c, hc, rfl⟩ := List.mem_map.mp hk'
        exact List.mem_map.mpr ⟨c, hks c hc, rfl⟩) (fun m' hm' => by
        obtain ⟨m, hm, rfl⟩ := List.mem_map.mp hm'
        refine ⟨(hfs m hm).op, ?_⟩
        have tt := (hfs m hm).told
        dsimp only
        cases hx : m.ex with
        | none =>
          rw [hx] at tt
          exact ⟨tt.1, tt.2.2⟩
        | some e =>
          rw [hx] at tt
          exact ⟨tt.1, tt.2.2⟩) (by rw [List.map_map, List.map_map]; exact hnd) (fun z => hne (List.map_eq_nil_iff.mp z)) (by rw [List.length_map]; exact hl)
      rw [List.map_map] at this
      rw [List.map_append, List.map_map]
      exact this
  clear c
  -- join
  let Mid : L2.St → Hp → Prop := fun σ H' => ∃ y6 y7 y8 y9 y10 y11 n', σ = [some (.ref d), some (.ref kd), some (.str name), some (.str one), some (.ref a1), some (.int kd0), y6, y7, y8, y9, y10, y11] ∧ But d H H' ∧ DrawAt H' d s ns [.ref g] n'
  refine ⟨Mid, ?_, ?_⟩
  · refine ⟨_, rfl, rfl, _, rfl, ite2 (fun c => ?_) (fun c => ⟨_, _, _, _, _, _, _, rfl, b0, D1⟩)⟩
    refine ⟨_, rfl, _, rfl, _, rfl, d, s, kd, g, kn, one, a1, c1, ns, _, rfl, D1, KN.but D b0, h1, fun r0 n5 H5 er b5 D5 => ?_, fun r0 t kt f0 a2 other c2 ks cl n5 H5 er et ek ho T hne hks hcl hsz' b5 D5 => ?_⟩
    · refine ⟨r0, _, rfl, SqT.of er, rfl, _, _, rfl, _, _, rfl, rfl, ?_⟩
      refine ⟨_, rfl, rfl, _, rfl, ?_⟩
      exact ⟨_, _, _, _, _, _, _, rfl, b0.trans b5, D5⟩
    · refine ⟨r0, _, rfl, SqT.of er, rfl, _, _, rfl, _, _, rfl, rfl, ?_⟩
      refine ⟨_, rfl, rfl, _, rfl, ?_⟩
      refine iteT ?_
      refine ⟨_, rfl, _, rfl, _, rfl, t, _, 0, _, rfl, rfl, SqT.of et, rfl, z2, fun inp hinp => ?_⟩
      have s1 := same_upd (o := .tup [.str one, .str other]) hinp
      refine ⟨_, rfl, t, _, 1, _, rfl, rfl, SqT.of (s1 _ _ et), rfl, z4, fun st hst => ⟨_, rfl, z2, fun r hr => ?_⟩⟩
      refine ret _ inp f0 (.ref kt) [one, other] (.join (ks.map (·.2))) cl n5 upd_same ⟨kt, rfl, by rw [List.map_map]; exact s1 _ _ ek⟩ (T.keep s1) ?_ (fun kvs' hg => ?_) ((b0.trans b5).trans (same_but s1)) (D5.keep s1) st hst r hr
      · rw [hcl]
        refine .join kn1 (abs_mem ho) (fun z => hne (List.map_eq_nil_iff.mp z)) (fun k hk' => ?_) ?_
        · obtain ⟨c, hc, rfl⟩ := List.mem_map.mp hk'
          exact ⟨List.mem_map.mpr ⟨c, (hks c hc).1, rfl⟩, (hks c hc).2⟩
        · rw [← hcl, List.map_map]
          exact T.nod
      · rw [eg] at hg
        cases hg
        obtain ⟨j1, g1, j10, j11⟩ := hsz _ h1
        obtain ⟨j2, g2, j20, j21⟩ := hsz _ ho
        refine size_two g1 g2 j10 j11 j20 j21 (fun _ => ?_) (fun z => absurd rfl z)
        exact hsz' kvs j1 j2 (b0 _ _ (fun z => by rw [z, D.at_d] at eg; cases eg) eg) g1 g2
  clear b0 D1
  rintro σ H3 ⟨y6, y7, y8, y9, y10, y11, n3, rfl, b0, D1⟩
  -- union
  refine ⟨Mid, ?_, ?_⟩
  · refine ⟨_, rfl, rfl, _, rfl, ite2 (fun c => ?_) (fun c => ⟨_, _, _, _, _, _, _, rfl, b0, D1⟩)⟩
    have KN3 := KN.but D b0
    refine ⟨_, rfl, kd, _, kn.map (·.1), rfl, .inl KN3.at_k, (by rw [List.map_map, List.map_map]; rfl), (by rw [List.length_map]; have := KN.few; omega), fun ys p pm _ hp => ?_⟩
    have sp := same_upd (o := .lst (ys.map V.str)) hp
    have ep : upd H3 p (.lst (ys.map V.str)) p = some (.lst (ys.map V.str)) := upd_same
    have ly : ys.length ≤ 40 := by
      rw [pm.length_eq, List.length_map]
      exact KN.few
    refine ⟨p, rfl, ⟨_, SqL.of ep⟩, fun D9 hD9 => ?_⟩
    have KN4 := KN3.keep sp
    have D4 := D1.keep sp
    have b4 : But d H (upd H3 p (.lst (ys.map V.str))) := b0.trans (same_but sp)
    generalize upd H3 p (.lst (ys.map V.str)) = H4 at ep KN4 D4 b4 hD9 ⊢
    have g3 : ∀ {H' : Hp}, But d H H' → H' g = some (.dK kvs) := fun b => b _ _ (fun z => by rw [z, D.at_d] at eg; cases eg) eg
    refine lc_list (K := K) (a := p) (xs := ys.map V.str) (fun i H' => Same H4 H' ∧ ∃ os : List Str, H' D9 = some (.lst (os.map V.str)) ∧ os.length ≤ i ∧ ∀ o ∈ os, ∃ a2 c2 j1 j2, (o, a2, c2) ∈ kn ∧ c2.map (·.2) = c1.map (·.2) ∧ valV kvs (.inr one) = some (.int j1) ∧ valV kvs (.inr o) = some (.int j2) ∧ 0 ≤ j1 ∧ 0 ≤ j2 ∧ j1 + j2 ≤ 60) ⟨same_upd hD9, [], upd_same, Nat.le_refl _, fun o ho => absurd ho List.not_mem_nil⟩ (fun i H' _ h => SqL.of (h.1 _ _ ep)) ?_ ?_
    · rintro i x H' hx ⟨sm, os, e9, lo, hos⟩
      rw [List.getElem?_map] at hx
      obtain ⟨o, ho, rfl⟩ := Option.map_eq_some_iff.mp hx
      have hi : i < ys.length := (List.getElem?_eq_some_iff.mp ho).1
      obtain ⟨e2, he2, rfl⟩ := List.mem_map.mp (pm.mem_iff.mp (List.mem_of_getElem? ho))
      have KN5 := KN4.keep sm
      have T2 := KN5.tabs _ he2
      have T1' := KN5.tabs _ h1
      obtain ⟨j1, g1, j10, j11⟩ := hsz _ h1
      obtain ⟨j2, g2, j20, j21⟩ := hsz _ he2
      have ok2 : ∀ {a : Addr} {c : List Col}, Tab H' a c → ∀ z ∈ c.map (·.2), PyData.canLay0 (.str z.1) = true := fun T z hz => by
        obtain ⟨c, hc, rfl⟩ := List.mem_map.mp hz
        exact T.cols.ok c hc
      refine ⟨rfl, ?_⟩
      refine ⟨_, rfl, _, rfl, kd, _, rfl, KN5.get he2, _, rfl, _, _, cols_dp T2.cols.all T2.cols.each, cols_dp T1'.cols.all T1'.cols.each, colsD_sh (ok2 T2), colsD_sh (ok2 T1'), _, rfl, ?_⟩
      rw [colsD_eqv]
      refine ite2 (fun ce => ?_) (fun ce => ⟨sm, os, e9, Nat.le_succ_of_le lo, hos⟩)
      have eg5 := g3 (b4.trans (same_but (d := d) sm))
      have D5 := D4.keep sm
      have gt1 : DGet H' g (.str one) (some (.int j1)) := g1 ▸ DGet.k (k := .inr one) eg5
      have gt2 : DGet H' g (.str e2.1) (some (.int j2)) := g2 ▸ DGet.k (k := .inr e2.1) eg5
      refine ⟨_, rfl, d, _, 3, _, rfl, rfl, SqL.of D5.at_d, at3, _, rfl, g, _, rfl, gt1, _, rfl, d, _, 3, _, rfl, rfl, SqL.of D5.at_d, at3, _, rfl, g, _, rfl, gt2, _, _, rfl, rfl, _, _, rfl, rfl, _, rfl, ite2 (fun cs => ?_) (fun cs => ⟨sm, os, e9, Nat.le_succ_of_le lo, hos⟩)⟩
      refine ⟨_, rfl, _, e9, Nat.lt_of_le_of_lt (show _ ≤ 40 by rw [List.length_map]; omega) (by decide), fun b o' e' => ?_, os ++ [e2.1], ?_, ?_, fun o ho' => ?_⟩
      · rw [upd_ne (ne_of_none e' hD9)]
        exact sm _ _ e'
      · rw [upd_same, List.map_append]
        rfl
      · rw [List.length_append]
        exact Nat.succ_le_succ lo
      · rcases List.mem_append.mp ho' with ho' | ho'
        · exact hos o ho'
        · rw [List.mem_singleton.mp ho']
          exact ⟨e2.2.1, e2.2.2, j1, j2, he2, of_decide_eq_true ce, g1, g2, j10, j20, of_decide_eq_true cs⟩
    rintro H5 ⟨s5, os, e9, lo, hos⟩
    rw [List.length_map] at lo
    have b5 := b4.trans (same_but (d := d) s5)
    have D5 := D4.keep s5
    have n9 : D9 ≠ d := (ne_of_none D4.at_d hD9).symm
    have okos : ∀ x ∈ os, PyData.canLay0 (.str x) = true := fun x hx => by
      obtain ⟨a2, c2, _, _, h2, _⟩ := hos x hx
      exact KN.nms _ h2
    refine ⟨_, rfl, Nat.zero_le _, fun p0 hp0 => ?_⟩
    have s6 := same_upd (o := .lst []) hp0
    refine ⟨_, _, .lst (SqL.of (s6 _ _ e9)) (dpa_strs os), .lst (SqL.of upd_same) .nil, strs_shaped okos, by decide, _, rfl, ite2 (fun cn => ?_) (fun cn => ⟨_, _, _, _, _, _, _, rfl, b5.trans (same_but s6), D5.keep s6⟩)⟩
    have hne := strs_ne cn
    have b6 := b5.trans (same_but (d := d) s6)
    have D6 := D5.keep s6
    refine ⟨_, rfl, _, rfl, _, rfl, _, rfl, d, s, D9, ns, [.ref g], _, os.map V.str, rfl, D6, n9, .inl (SqL.of (s6 _ _ e9)), hne, fun v H8 hv b8 D8 => ?_⟩
    obtain ⟨o, ho, rfl⟩ := mem_strs hv
    obtain ⟨a2, c2, j1, j2, h2, ec, g1, g2, j10, j20, j12⟩ := hos o ho
    refine ⟨z2, fun inp hinp => ⟨Nat.zero_le _, fun et het => ⟨z4, fun st hst => ⟨_, rfl, z2, fun r hr => ?_⟩⟩⟩⟩
    have s1 := (same_upd (o := .tup [.str one, .str o]) hinp).trans (same_upd (o := .tup []) het)
    refine ret _ inp a1 (.ref et) [one, o] .union c1 _ (same_upd het _ _ upd_same) ⟨et, rfl, upd_same⟩ ((T1 (b6.trans b8)).keep s1) ?_ (fun kvs' hg => ?_) ((b6.trans b8).trans (same_but s1)) (D8.keep s1) st hst r hr
    · exact .union kn1 (ec ▸ abs_mem h2)
    · rw [eg] at hg
      cases hg
      exact size_two g1 g2 j10 (by omega) j20 (by omega) (fun z => absurd z (by decide +kernel)) (fun _ => by omega)
  clear b0 D1 y6 y7 y8 y9 y10 y11 n3
  rintro σ H3 ⟨y6, y7, y8, y9, y10, y11, n3, rfl, b0, D1⟩
  -- sort
  refine ⟨Mid, ?_, ?_⟩
  · refine ⟨_, rfl, rfl, _, rfl, ite2 (fun c => ?_) (fun c => ⟨_, _, _, _, _, _, _, rfl, b0, D1⟩)⟩
    have TT := T1 b0
    refine ⟨_, rfl, a1, rfl, ⟨_, SqL.of TT.cols.all⟩, fun D9 hD9 => ?_⟩
    have n9 : D9 ≠ d := (ne_of_none D1.at_d hD9).symm
    refine lc_list (K := K) (a := a1) (xs := c1.map fun c => .ref c.1) (fun i H' => ∃ n' as, DrawAt H' d s ns [.ref g] n' ∧ But d H3 H' ∧ WaysAt H' c1 as ∧ H' D9 = some (.lst (as.map fun p => .ref p.1)) ∧ as.length ≤ i) ⟨_, [], D1.keep (same_upd hD9), same_but (same_upd hD9), fun p hp => absurd hp List.not_mem_nil, upd_same, Nat.le_refl _⟩ (fun i H' _ h => ?_) ?_ ?_
    · obtain ⟨n', as, D', b', _⟩ := h
      exact SqL.of (TT.cols.but D1 b').all
    · rintro i x H' hx ⟨n', as, D', b', W, e', le⟩
      rw [List.getElem?_map] at hx
      obtain ⟨c, hc, rfl⟩ := Option.map_eq_some_iff.mp hx
      have hi : i < c1.length := (List.getElem?_eq_some_iff.mp hc).1
      have cm := List.mem_of_getElem? hc
      refine ⟨rfl, _, rfl, d, s, ns, [.ref g], _, 2, rfl, D', by decide, fun r H4 r0 r1 b3 D4 => ⟨rfl, _, rfl, ite2 (fun cc => ?_) (fun cc => ?_)⟩⟩
      · have e4 := b3 _ _ n9 e'
        have W4 := W.keep (b3.tup D'.at_d)
        have c4 := (TT.cols.but D1 (b'.trans b3)).each c cm
        refine ⟨_, rfl, c.1, _, 0, _, rfl, rfl, SqT.of c4, rfl, _, rfl, z2, fun ut hut => ?_⟩
        have s5 := same_upd (o := .tup [.str "up", .str "down"]) hut
        refine ⟨d, s, ut, ns, [.ref g], _, [.str "up", .str "down"], rfl, D4.keep s5, (ne_of_none D4.at_d hut).symm, .inr (SqT.of upd_same), (by intro z; cases z), fun v H6 hv b6 D6 => ⟨z2, fun t ht => ?_⟩⟩
        obtain ⟨wy, hw, rfl⟩ := mem_strs (l := ["up", "down"]) hv
        have s7 := same_upd (o := .tup [.str c.2.1, .str wy]) ht
        have e7 := s7 _ _ (b6 _ _ n9 (s5 _ _ e4))
        have b37 : But d H3 (upd H6 t (.tup [.str c.2.1, .str wy])) := (((b'.trans b3).trans (same_but s5)).trans b6).trans (same_but s7)
        have W7 := ((W4.keep (same_t s5)).keep (b6.tup (D4.keep s5).at_d)).keep (same_t s7)
        have D7 := D6.keep s7
        refine ⟨_, e7, ?_, n' + 1 + 1, as ++ [(t, c.2.1, wy)], ?_, ?_, ?_, ?_, ?_⟩
        · rw [List.length_map]
          have := TT.few
          exact Nat.lt_of_le_of_lt (show as.length ≤ 24 by omega) (by decide)
        · exact ⟨by rw [upd_ne n9.symm]; exact D7.at_d, by rw [upd_ne (ne_of_none D1.at_s hD9)]; exact D7.at_s, D7.n0⟩
        · exact fun b o hb e => by
            rw [upd_ne (ne_of_none e hD9)]
            exact b37 _ _ hb e
        · have kt : KeepT (upd H6 t (.tup [.str c.2.1, .str wy])) (upd (upd H6 t (.tup [.str c.2.1, .str wy])) D9 (.lst ((as.map fun p => .ref p.1) ++ [.ref t]))) := fun a xs e => by
            rw [upd_ne (fun z => by rw [z, e7] at e; cases e)]
            exact e
          intro p hp
          rcases List.mem_append.mp hp with hp | hp
          · exact W7.keep kt p hp
          · rw [List.mem_singleton.mp hp]
            refine ⟨kt _ _ upd_same, ⟨c.2.2, List.mem_map.mpr ⟨c, cm, rfl⟩⟩, ?_, TT.cols.ok c cm⟩
            rcases List.mem_cons.mp hw with rfl | hw
            · exact .inl rfl
            · exact .inr (List.mem_singleton.mp hw)
        · rw [upd_same, List.map_append]
          rfl
        · rw [List.length_append]
          exact Nat.succ_le_succ le
      · exact ⟨_, as, D4, b'.trans b3, W.keep (b3.tup D'.at_d), b3 _ _ n9 e', Nat.le_succ_of_le le⟩
    rintro H5 ⟨n5, as0, D5, b5, W5, e5, _⟩
    refine ⟨_, rfl, D9, _, rfl, SqL.of e5, fun p hp => ?_⟩
    rw [cut_2, ← List.map_take]
    obtain ⟨as, eas⟩ : ∃ as, as = as0.take 2 := ⟨_, rfl⟩
    rw [← eas]
    have las : as.length ≤ 2 := by
      rw [eas, List.length_take]
      omega
    have W6 : WaysAt H5 c1 as := fun p hp => W5 p (by rw [eas] at hp; exact List.mem_of_mem_take hp)
    refine ⟨p, _, rfl, .inl ⟨SqL.of upd_same, fun wt hwt => ?_⟩⟩
    have s6 := (same_upd (o := .lst (as.map fun p => .ref p.1)) hp).trans (same_upd (o := .tup (as.map fun p => .ref p.1)) hwt)
    have ew : upd (upd H5 p (.lst (as.map fun p => .ref p.1))) wt (.tup (as.map fun p => .ref p.1)) wt = some (.tup (as.map fun p => .ref p.1)) := upd_same
    replace W6 := W6.keep (same_t s6)
    have D6 := D5.keep s6
    have b6 := (b0.trans b5).trans (same_but (d := d) s6)
    generalize upd (upd H5 p (.lst (as.map fun p => .ref p.1))) wt (.tup (as.map fun p => .ref p.1)) = H6 at ew W6 D6 b6 ⊢
    refine ⟨_, rfl, Nat.zero_le _, fun p0 hp0 => ?_⟩
    have s7 := same_upd (o := .tup []) hp0
    refine ⟨_, _, .tup (SqT.of (s7 _ _ ew)) (ways_dp (W6.keep (same_t s7))), .tup (SqT.of upd_same) .nil, ways_sh W6, by decide, _, rfl, ite2 (fun cn => ?_) (fun cn => ⟨_, _, _, _, _, _, _, rfl, b6.trans (same_but s7), D6.keep s7⟩)⟩
    have hne : as ≠ [] := fun z => by
      rw [z] at cn
      cases cn
    refine ⟨_, rfl, _, rfl, z1, fun inp hinp => ?_⟩
    have s8 := s7.trans (same_upd (o := .tup [.str one]) hinp)
    have ei : upd (upd H6 p0 (.tup [])) inp (.tup [.str one]) inp = some (.tup [.str one]) := upd_same
    refine ⟨_, rfl, _, rfl, d, s, ns, [.ref g], _, 5, rfl, D6.keep s8, by decide, fun m H8 m0 m1 b8 D8 => ⟨_, _, rfl, rfl, z2, fun t ht => ⟨z4, fun st hst => ⟨_, rfl, z2, fun r hr => ?_⟩⟩⟩⟩
    have s9 := same_upd (o := .tup [.ref wt, .int (1 + m)]) ht
    have kt := b8.tup (D6.keep s8).at_d
    have W9 := ((W6.keep (same_t s8)).keep kt).keep (same_t s9)
    refine ret _ inp a1 (.ref t) [one] (.sort (as.map (·.2)) (1 + m)) c1 _ (s9 _ _ (kt _ _ ei)) ⟨t, wt, as, rfl, upd_same, s9 _ _ (kt _ _ (s8 _ _ ew)), fun p hp => (W9 p hp).1, rfl⟩ ((T1 ((b6.trans (same_but s8)).trans b8)).keep s9) ?_ (one_sz (show ("sort" : Str) ≠ "join" by decide +kernel)) (((b6.trans (same_but s8)).trans b8).trans (same_but s9)) (D8.keep s9) st hst r hr
    exact .sort kn1 (fun z => hne (List.map_eq_nil_iff.mp z)) (fun x hx => by
      obtain ⟨p, hp, rfl⟩ := List.mem_map.mp hx
      exact ⟨(W9 p hp).2.1, (W9 p hp).2.2.1⟩) (by rw [List.length_map]; exact las) (by omega) (by omega)
  clear b0 D1 y6 y7 y8 y9 y10 y11 n3
  rintro σ H3 ⟨y6, y7, y8, y9, y10, y11, n3, rfl, b0, D1⟩
  -- unlike
  refine ⟨_, rfl, _, rfl, z1, fun inp hinp => ⟨Nat.zero_le _, fun et het => ⟨z4, fun st hst => ⟨_, rfl, z2, fun r hr => ?_⟩⟩⟩⟩
  have s1 := (same_upd (o := .tup [.str one]) hinp).trans (same_upd (o := .tup []) het)
  exact ret _ inp a1 (.ref et) [one] .unlike c1 _ (same_upd het _ _ upd_same) ⟨et, rfl, upd_same⟩ ((T1 b0).keep s1) (.unlike kn1) (one_sz (show ("unlike" : Str) ≠ "join" by decide +kernel)) (b0.trans (same_but s1)) (D1.keep s1) st hst r hr
end
end Kx

namespace Kx
open PySem PySem.Spec PyProof.Rows L2
section
variable {X : Cx}
/-- the pairs (a text, a value) that stand at these addresses -/
theorem prs_of {pins : List (Addr × Obj)} {σ : L2.St} {H : Hp} {s : Shared} (I : Inv X pins σ H s) : ∀ {ps : List Addr} {kvs : List (Str × V)}, Paired (fun p kv => SqT X.K H p [.str kv.1, kv.2]) ps kvs →
    ∃ prs : List (Value × Value), prs.length = ps.length ∧ kvs.length = ps.length ∧ (∀ (j : Nat) (u v : Value), prs[j]? = some (u, v) → ∃ b, ps[j]? = some b ∧ s.heap.IsTuple b #[u, v]) ∧ ∃ rs : List (L2.Key × Value), L2.KV (kvs.map fun kv => ((.inr kv.1 : L2.Key), kv.2)) rs ∧ rs.length = ps.length ∧ ∀ (j : Nat) (u v : Value), prs[j]? = some (u, v) → ∃ k, rs[j]? = some (k, v) ∧ (mixKind X.prog X.w).is k u = true
  | _, _, .nil => ⟨[], rfl, rfl, fun j u v e => by simp at e, [], .nil, rfl, fun j u v e => by simp at e⟩
  | _, _, .cons (a := p) (b := kv) h t => by
    obtain ⟨prs, l1, l2, hp, rs, hr, l3, hk⟩ := prs_of I t
    obtain ⟨its, rv, pt, _⟩ := I.tuple h
    cases rv with
    | cons r1 rv =>
      cases rv with
      | cons r2 rv =>
        cases rv
        rename_i u1 u2
        refine ⟨(u1, u2) :: prs, by rw [List.length_cons, List.length_cons, l1], by rw [List.length_cons, List.length_cons, l2], fun j u v e => ?_, (.inr kv.1, u2) :: rs, .cons ⟨rfl, r2⟩ hr, by rw [List.length_cons, List.length_cons, l3], fun j u v e => ?_⟩
        · cases j with
          | zero =>
            cases e
            exact ⟨p, rfl, pt⟩
          | succ j => exact hp j u v e
        · cases j with
          | zero =>
            cases e
            exact ⟨.inr kv.1, rfl, (Yk.rel_plain (k := .inr kv.1) r1).2 ▸ Yk.plain_is (Yk.rel_plain (k := .inr kv.1) r1).1⟩
          | succ j => exact hk j u v e
/-- dict(t) of such a tuple of pairs whose keys are texts -/
def rDictT (K : PySem.W.Frag) : List V → Hp → VK → Prop := fun vs H Q => ∃ (a : Addr) (ps : List Addr) (kvs : List (Str × V)), vs = [.ref a] ∧ TupF H a (ps.map V.ref) ∧ Paired (fun p kv => SqT K H p [.str kv.1, kv.2]) ps kvs ∧ ∀ p, H p = none → Q (.ref p) (upd H p (.dK (mergeK [] (kvs.map fun kv => ((.inr kv.1 : L2.Key), kv.2)))))
theorem cr_dictT (hc : X.calm = true) : CallR X (.type "dict") (rDictT X.K) := by
  intro pins s σ H vs us Q I r h
  obtain ⟨a, ps, kvs, rfl, hq, hp, q⟩ := h
  rw [Vals.ref1 r]
  obtain ⟨its, rv, pl, hz⟩ := I.tuple (hq.sq (K := X.K))
  have ei := refs_at rv
  subst ei
  rw [List.length_map] at hz
  obtain ⟨prs, l1, l2, hpr, rs, hr, l3, hk⟩ := prs_of I hp
  have pa : PlainSeq "tuple" s.heap a (ps.map Value.ref).toArray := by
    obtain ⟨o, hd, e⟩ := hq
    have ho := (I.hok a _ e).1
    obtain ⟨o', ho', hc', n, hdat⟩ := pl
    rw [ho] at ho'
    cases ho'
    exact ⟨o, n, ho, hc', hd, hdat⟩
  have items : PairItems s.heap (ps.map Value.ref).toArray (fun j => ps.getD j 0) prs := ⟨by simp [l1], fun j u v e => by
    obtain ⟨b, eb, ht⟩ := hpr j u v e
    have e0 : ps.getD j 0 = b := by simp [List.getD, eb]
    dsimp only
    rw [e0]
    exact ⟨by simp [eb], .inl ht⟩⟩
  refine PySem.call_dict_pairs (knd := mixKind X.prog X.w) (kvs := rs) (PairArg.tuple (prog := X.prog) (w := X.w) a (ps.map Value.ref).toArray (fun j => ps.getD j 0) prs) (I.ok.hd hc) ⟨pa, items⟩ ⟨by rw [l3, l1], fun j u v e => hk j u v e⟩ (by rw [l1]; exact hz) fun h' tk hd' k => ?_
  have hm : (s.heap.objs.size == sysModules) = false := beq_eq_false_iff_ne.mpr (Nat.ne_of_gt I.big)
  have hlen : (mergeK [] (kvs.map fun kv => ((.inr kv.1 : L2.Key), kv.2))).length ≤ sizeLine := by
    refine Nat.le_trans (length_mergeK _ []) ?_
    rw [List.length_nil, Nat.zero_add, List.length_map, l2]
    exact hz
  exact ⟨.ref s.heap.objs.size, upd H s.heap.objs.size (.dK (mergeK [] (kvs.map fun kv => ((.inr kv.1 : L2.Key), kv.2)))), I.laid (t' := tk) (fun b o e => k b o (by simp) e) (Nat.le_refl _) (show ObjOk X.prog X.w _ _ _ (.dK (mergeK [] (kvs.map fun kv => ((.inr kv.1 : L2.Key), kv.2)))) from ⟨hlen, hm, merged [] rs, KV.merge hr .nil, hd'⟩), rfl, q _ (I.hok.fresh (Nat.le_refl _))⟩
/-- a tuple display, the tuple known to have no dict of its own -/
def tTupF (t : TA) : TE := fun σ H Q => t σ H fun xs H1 => xs.length ≤ sizeLine ∧ ∀ (p : Addr) (o : Obj), H1 p = none → o.dict = none → Q (.ref p) (upd H1 p (.frz o (.tup xs)))
theorem pe_tupF {es : List Expr} {t : TA} {k : Nat} {pos : Pos} (h : PA X es t) : PE X (.Tuple es k pos) (tTupF t) := by
  constructor
  intro pins s σ H Q I hq
  refine wpAny_Tuple_spliced (thn (h.run pos pins s σ H _ I hq) ?_)
  rintro us s1 ⟨xs, H1, I1, r, z, q⟩
  have fr := I1.hok.fresh (Nat.le_refl s1.heap.objs.size)
  refine ⟨r.length ▸ z, ?_⟩
  have ob : ObjOk X.prog X.w (upd H1 s1.heap.objs.size (.frz { cls := .type "tuple", data := .seq us.toArray } (.tup xs))) (s1.heap.push { cls := .type "tuple", data := .seq us.toArray }) s1.heap.objs.size (.frz { cls := .type "tuple", data := .seq us.toArray } (.tup xs)) :=
    ⟨Heap.get?_push_size _ rfl, z, us, r, _, Heap.get?_push_size _ rfl, rfl, _, rfl⟩
  exact ⟨.ref s1.heap.objs.size, _, I1.laid (t' := s1.toks) (fun b u e => Heap.get?_push_of_some _ e) (Nat.le_refl _) ob, rfl, q _ { cls := .type "tuple", data := .seq us.toArray } fr rfl⟩
/-- tuple(xs): of a list a new tuple that has no dict of its own, of a tuple itself -/
def rTupleF (K : PySem.W.Frag) : List V → Hp → VK → Prop := fun xs H Q => ∃ p ys, xs = [.ref p] ∧ ((SqL K H p ys ∧ ∀ (l : Addr) (o : Obj), H l = none → o.dict = none → Q (.ref l) (upd H l (.frz o (.tup ys)))) ∨ (SqT K H p ys ∧ Q (.ref p) H))
theorem cr_tupleF : CallR X (.type "tuple") (rTupleF X.K) := by
  intro pins s σ H xs us Q I r h
  obtain ⟨p, ys, rfl, h⟩ := h
  rw [Vals.ref1 r]
  rcases h with ⟨hl, q⟩ | ⟨ht, q⟩
  · obtain ⟨its, rv, pl, hz⟩ := I.list hl
    have hlen := rv.length
    refine call_tuple_list pl.isList (fun h' kp => ?_) (by rw [List.size_toArray]; omega)
    have I1 : Inv X pins σ H { s with heap := h' } := I.kept (t' := s.toks) kp
    have fr := I1.hok.fresh (Nat.le_refl h'.objs.size)
    have ob : ObjOk X.prog X.w (upd H h'.objs.size (.frz { cls := .type "tuple", data := .seq its.toArray } (.tup ys))) (h'.push { cls := .type "tuple", data := .seq its.toArray }) h'.objs.size (.frz { cls := .type "tuple", data := .seq its.toArray } (.tup ys)) :=
      ⟨Heap.get?_push_size _ rfl, hz, its, rv, IsTup.new _ _⟩
    exact ⟨.ref h'.objs.size, _, I1.laid (t' := s.toks) (fun b o e => Heap.get?_push_of_some _ e) (Nat.le_refl _) ob, rfl, q _ { cls := .type "tuple", data := .seq its.toArray } fr rfl⟩
  · obtain ⟨its, rv, pl, _⟩ := I.tuple ht
    exact call_tuple_same pl ⟨.ref p, H, I, rfl, q⟩
end
end Kx

set_option maxHeartbeats 8000000
namespace Kx
open PySem PySem.Spec PyProof.Rows L2
abbrev s_law_job : Stmt := topS 33
def stepNms : List Str := ["a", "b", "s0", "s1", "s2", "s3", "s4", "s5", "s6", "s7"]
theorem s_name {i : Nat} (h : i < 8) : stepNms.take (i + 2) ++ [("s" : Str) ++ Str.ofString (toString ((0 : Int) + (i : Nat)))] = stepNms.take (i + 3) ∧ ("s" : Str) ++ Str.ofString (toString ((0 : Int) + (i : Nat))) ∉ stepNms.take (i + 2) ∧
    ("s" : Str).length + (Str.ofString (toString ((0 : Int) + (i : Nat)))).length ≤ sizeLine ∧ PyData.canLay0 (.str (("s" : Str) ++ Str.ofString (toString ((0 : Int) + (i : Nat))))) = true := by
  match i, h with
  | 0, _ => decide +kernel
  | 1, _ => decide +kernel
  | 2, _ => decide +kernel
  | 3, _ => decide +kernel
  | 4, _ => decide +kernel
  | 5, _ => decide +kernel
  | 6, _ => decide +kernel
  | 7, _ => decide +kernel
theorem log_num8 {i : Nat} (h : i < 8) : ((0 : Int) + (i : Nat)).natAbs.log2 < 1920 := by
  match i, h with
  | 0, _ => decide +kernel
  | 1, _ => decide +kernel
  | 2, _ => decide +kernel
  | 3, _ => decide +kernel
  | 4, _ => decide +kernel
  | 5, _ => decide +kernel
  | 6, _ => decide +kernel
  | 7, _ => decide +kernel
def colsA : List NC := [("k", true), ("t", false), ("n", true)]
def colsB : List NC := [("k", true), ("m", true)]
/-- a drawn job: its steps, and the columns of each -/
inductive JobOk : List Stp → List (Str × List NC) → Prop where
  | base : JobOk [⟨"a", [], .read colsA⟩, ⟨"b", [], .read colsB⟩] [("a", colsA), ("b", colsB)]
  | step {ss : List Stp} {kn : List (Str × List NC)} {nm : Str} {ins : List Str} {det : Det} {cs : List NC} (h : JobOk ss kn) (n : nm ∉ kn.map (·.1)) (k : StepOk kn ins det cs) (nd : (cs.map (·.1)).Nodup) (inn : ∀ c ∈ cs, c.1 ∈ allNames) (ne : cs ≠ []) : JobOk (ss ++ [⟨nm, ins, det⟩]) (kn ++ [(nm, cs)])
theorem StepOk.len {kn : List (Str × List NC)} {ins : List Str} {det : Det} {cs : List NC} (O : StepOk kn ins det cs) : ins.length ≤ 2 := by
  cases O <;> first | exact Nat.le_refl 2 | exact (by decide : 1 ≤ 2)
theorem StepOk.sort_pos {kn : List (Str × List NC)} {ins : List Str} {ws : List (Str × Str)} {m : Int} {cs : List NC} (O : StepOk kn ins (.sort ws m) cs) : 1 ≤ m := by
  cases O
  assumption
theorem val_none {kn : Knw} {x : Str} (h : x ∉ kn.map (·.1)) : valV (kn.map fun e => ((.inr e.1 : L2.Key), V.ref e.2.1)) (.inr x) = none := by
  unfold valV
  rw [List.find?_eq_none.mpr]
  · rfl
  · intro p hp
    obtain ⟨e, he, rfl⟩ := List.mem_map.mp hp
    intro z
    have z' := of_decide_eq_true z
    exact h (List.mem_map.mpr ⟨e, he, Sum.inr.inj z'⟩)
theorem none_same {H H' : Hp} {a : Addr} (h : Same H H') (e : H' a = none) : H a = none := by
  cases q : H a with
  | none => rfl
  | some o =>
    rw [h _ _ q] at e
    cases e
structure JobSt (H0 H : Hp) (d s kd g sl : Addr) (ns : List Int) (as : List (Addr × Stp)) (kn : Knw) (last : Str) (i : Nat) : Prop where
  dr : ∃ n, DrawAt H d s ns [.ref g] n
  b : But d H0 H
  fs' : ∃ o, H0 s = some o
  f1 : H0 kd = none
  f2 : H0 g = none
  f3 : H0 sl = none
  k : KnowsAt H kd g kn
  kg : kd ≠ g
  n3 : sl ≠ d
  e3 : H sl = some (.lst (as.map fun p => .ref p.1))
  off : ∀ e ∈ kn, e.2.1 ≠ sl
  stp : ∀ p ∈ as, StpAt H p.1 p.2
  len : as.length = i + 2
  ok : JobOk (as.map (·.2)) (abs kn)
  nms : kn.map (·.1) = stepNms.take (i + 2)
  lst : last ∈ kn.map (·.1)
  szl : ∀ kvs, H g = some (.dK kvs) → kvs.length ≤ i + 2
theorem JobSt.step {H0 H H' : Hp} {d s kd g sl : Addr} {ns : List Int} {as : List (Addr × Stp)} {kn : Knw} {last : Str} {i : Nat} {n : Int} (S : JobSt H0 H d s kd g sl ns as kn last i) (b : But d H H') (D : DrawAt H' d s ns [.ref g] n) : JobSt H0 H' d s kd g sl ns as kn last i := by
  obtain ⟨n0, D0⟩ := S.dr
  exact ⟨⟨n, D⟩, S.b.trans b, S.fs', S.f1, S.f2, S.f3, S.k.but D0 b, S.kg, S.n3, b _ _ S.n3 S.e3, S.off, fun p hp => (S.stp p hp).keep (b.tup D0.at_d) (b.tupF D0.at_d), S.len, S.ok, S.nms, S.lst, fun kvs e => by
    obtain ⟨kv, h1, _⟩ := S.k.sizes
    have h2 := b _ _ (fun z => by rw [z, D0.at_d] at h1; cases h1) h1
    rw [h2] at e
    cases e
    exact S.szl _ h1⟩
theorem JobSt.new {H0 H : Hp} {d s kd g sl p : Addr} {ns : List Int} {as : List (Addr × Stp)} {kn : Knw} {last : Str} {i : Nat} {o : HO} (S : JobSt H0 H d s kd g sl ns as kn last i) (h : H p = none) : JobSt H0 (upd H p o) d s kd g sl ns as kn last i := by
  obtain ⟨n0, D0⟩ := S.dr
  exact S.step (same_but (same_upd h)) (D0.keep (same_upd h))
theorem JobSt.kn_len {H0 H : Hp} {d s kd g sl : Addr} {ns : List Int} {as : List (Addr × Stp)} {kn : Knw} {last : Str} {i : Nat} (S : JobSt H0 H d s kd g sl ns as kn last i) : kn.length ≤ 10 := by
  have h := congrArg List.length S.nms
  rw [List.length_map, List.length_take] at h
  have : stepNms.length = 10 := rfl
  omega
theorem JobSt.add {H0 H H' : Hp} {d s kd g sl st f : Addr} {ns : List Int} {as : List (Addr × Stp)} {kn : Knw} {last nm : Str} {ins : List Str} {det : Det} {cl : List Col} {i : Nat} {j : Int} {kvs : List (L2.Key × V)} (S : JobSt H0 H d s kd g sl ns as kn last i)
    (X : StpAt H st ⟨nm, ins, det⟩) (T : Tab H f cl) (O : StepOk (abs kn) ins det (cl.map (·.2))) (hn : nm ∉ kn.map (·.1)) (hn2 : stepNms.take (i + 2) ++ [nm] = stepNms.take (i + 3)) (okn : PyData.canLay0 (.str nm) = true) (j0 : 0 ≤ j) (j1 : j ≤ 400) (fs : f ≠ sl)
    (eg : H g = some (.dK kvs)) (lkv : kvs.length + 1 ≤ 40) (hsz : ∀ e ∈ kn, ∃ j : Int, valV kvs (.inr e.1) = some (.int j) ∧ 0 ≤ j ∧ j ≤ 400)
    (off : ∀ b o, b ≠ sl → b ≠ kd → b ≠ g → H b = some o → H' b = some o) (e1 : H' sl = some (.lst ((as.map fun p => .ref p.1) ++ [.ref st]))) (e2 : H' kd = some (.dK (putK (kn.map fun e => ((.inr e.1 : L2.Key), V.ref e.2.1)) (.inr nm) (.ref f)))) (e3 : H' g = some (.dK (putK kvs (.inr nm) (.int j)))) :
    JobSt H0 H' d s kd g sl ns (as ++ [(st, ⟨nm, ins, det⟩)]) (kn ++ [(nm, f, cl)]) nm (i + 1) := by
  obtain ⟨n0, D0⟩ := S.dr
  have ek := S.k.at_k
  have kt : KeepT H H' := fun a xs e => off a _ (fun z => by rw [z, S.e3] at e; cases e) (fun z => by rw [z, ek] at e; cases e) (fun z => by rw [z, eg] at e; cases e) e
  have kf : KeepF H H' := fun a xs ⟨o, dn, e⟩ => ⟨o, dn, off a _ (fun z => by rw [z, S.e3] at e; cases e) (fun z => by rw [z, ek] at e; cases e) (fun z => by rw [z, eg] at e; cases e) e⟩
  have kl : ∀ (a : Addr) (xs : List V), a ≠ sl → H a = some (.lst xs) → H' a = some (.lst xs) := fun a xs h e => off a _ h (fun z => by rw [z, ek] at e; cases e) (fun z => by rw [z, eg] at e; cases e) e
  have ktab : ∀ {a : Addr} {c : List Col}, a ≠ sl → Tab H a c → Tab H' a c := fun h t => ⟨⟨kl _ _ h t.cols.all, fun c hc => kt _ _ (t.cols.each c hc), t.cols.few, t.cols.ok⟩, t.nod, t.inn, t.ne⟩
  obtain ⟨os, es⟩ := S.fs'
  refine ⟨⟨n0, kl _ _ S.n3.symm D0.at_d, kl _ _ (ne_of_none es S.f3) D0.at_s, D0.n0⟩, fun b o hb e => off b o (ne_of_none e S.f3) (ne_of_none e S.f1) (ne_of_none e S.f2) (S.b b o hb e), S.fs', S.f1, S.f2, S.f3, ⟨?_, fun e he => ?_, ?_, ?_, ⟨_, e3, ?_, fun e he => ?_⟩, fun e he => ?_⟩, S.kg, S.n3, ?_, fun e he => ?_, fun p hp => ?_, ?_, ?_, ?_, ?_, fun kv e => ?_⟩
  · rw [e2, putK_new _ (val_none hn), List.map_append]
    rfl
  · rcases List.mem_append.mp he with he | he
    · exact ktab (S.off e he) (S.k.tabs e he)
    · rw [List.mem_singleton.mp he]
      exact ktab fs T
  · rw [List.map_append]
    exact List.nodup_append.mpr ⟨S.k.nod, by simp, fun a ha b hb e => hn (by
      have : b = nm := List.mem_singleton.mp hb
      rw [← this, ← e]
      exact ha)⟩
  · rw [List.length_append]
    have := S.kn_len
    show kn.length + 1 ≤ 40
    omega
  · have := length_putK kvs (.inr nm) (.int j)
    omega
  · rw [valV_put]
    rcases List.mem_append.mp he with he | he
    · obtain ⟨j', h1, h2, h3⟩ := hsz e he
      refine ⟨j', ?_, h2, h3⟩
      rw [if_neg (fun z => hn (by rw [← Sum.inr.inj z]; exact List.mem_map.mpr ⟨e, he, rfl⟩))]
      exact h1
    · rw [List.mem_singleton.mp he, if_pos rfl]
      exact ⟨j, rfl, j0, j1⟩
  · rcases List.mem_append.mp he with he | he
    · exact S.k.nms e he
    · rw [List.mem_singleton.mp he]
      exact okn
  · rw [e1, List.map_append]
    rfl
  · rcases List.mem_append.mp he with he | he
    · exact S.off e he
    · rw [List.mem_singleton.mp he]
      exact fs
  · rcases List.mem_append.mp hp with hp | hp
    · exact (S.stp p hp).keep kt kf
    · rw [List.mem_singleton.mp hp]
      exact X.keep kt kf
  · rw [List.length_append, S.len]
    rfl
  · rw [List.map_append]
    unfold abs
    rw [List.map_append]
    refine .step S.ok (by rw [List.map_map]; exact hn) O ?_ (fun c hc => ?_) (fun z => T.ne (List.map_eq_nil_iff.mp z))
    · rw [List.map_map]
      exact T.nod
    · obtain ⟨c', hc', rfl⟩ := List.mem_map.mp hc
      exact T.inn c' hc'
  · rw [List.map_append, S.nms]
    exact hn2
  · rw [List.map_append]
    exact List.mem_append_right _ List.mem_cons_self
  · rw [e3] at e
    cases e
    have h1 := length_putK kvs (.inr nm) (.int j)
    have h2 := S.szl _ eg
    omega
section
variable {P : Program} {w : World} {K : PySem.W.Frag} {mg : Str → Option Value} {base : Heap}
/-! ### _law_job -/
abbrev N_law_job : List Str := ["draw", "many", "known", "steps", "last", "at", "name", "one", "step", "columns"]
def spJob : Sp := fun vs H Q _ => ∃ (d s : Addr) (ns : List Int) (tl : List V) (n many : Int), vs = [.ref d, .int many] ∧ DrawAt H d s ns tl n ∧ (tl = [] ∨ ∃ x, tl = [x]) ∧ 1 ≤ many ∧ many ≤ 8 ∧
  ∀ (r st g : Addr) (as : List (Addr × Stp)) (kn : List (Str × List NC)) (last : Str) (n' : Int) (H' : Hp), H' r = some (.tup [.ref st, .str last]) → H' st = some (.tup (as.map fun p => .ref p.1)) → (∀ p ∈ as, StpAt H' p.1 p.2) → JobOk (as.map (·.2)) kn → last ∈ kn.map (·.1) → kn.length ≤ 10 → (∀ e ∈ kn, e.1 ∈ stepNms) → But d H H' → DrawAt H' d s ns [.ref g] n' → Q (.ref r) H'
theorem sc_job : FnScope N_law_job ["draw", "many"] (defScope s_law_job) := ⟨rfl, rfl, rfl, by decide +kernel, rfl, by decide +kernel, by decide +kernel⟩
theorem ok_job {f : Addr} {fd : FuncData} (F : Fun K "_law_job" "_law_job" s_law_job f fd) (m_tuple : mg "tuple" = none) (m_sorted : mg "sorted" = none) (m_len : mg "len" = none) (m_str : mg "str" = none) (m_range : mg "range" = none) (G_law_next : Ready P w K mg base 3 "_law_next" ["draw", "bound"] spNext) (G_law_pick : Ready P w K mg base 4 "_law_pick" ["draw", "things"] (spPick K))
    (G_law_step : Ready P w K mg base 9 "_law_step" ["draw", "known", "name", "one"] spStep) (G_law_most : Ready P w K mg base 1 "_law_most" ["draw", "step"] spMost) :
    FnOk P w K mg base CX0 10 f fd ["draw", "many"] spJob := by
  refine F.ok sc_job (fun vs H Q E h => ?_) (fun cdv A outer s0 H vs Q E hr h => ?_)
  · obtain ⟨d, s, ns, tl, n, many, rfl, _⟩ := h
    rfl
  obtain ⟨d, s, ns, tl, n, many, rfl, D, htl, hm1, hm8, q⟩ := h
  have nd := sc_job.nd
  have hr9 : Room 9 _ := hr
  have hr4 : Room 4 _ := hr.mono (by omega)
  have hr3 : Room 3 _ := hr.mono (by omega)
  have hr1 : Room 1 _ := hr.mono (by omega)
  have hu64 : _ + 64 < cLine := hr.units
  have hu1 : _ + 1 < cLine := Nat.lt_of_le_of_lt (Nat.add_le_add_left (by decide : 1 ≤ 64) _) hu64
  refine ⟨_, pss_cons (ps_set (i := 2) nd rfl (.inl rfl) (pe_disp (pps_cons pe_str (pe_lst (pa_cons (pe_tup (pa_cons pe_str (pa_cons pe_str pa_nil))) (pa_cons (pe_tup (pa_cons pe_str (pa_cons pe_str pa_nil))) (pa_cons (pe_tup (pa_cons pe_str (pa_cons pe_str pa_nil))) pa_nil)))) (pps_cons pe_str (pe_lst (pa_cons (pe_tup (pa_cons pe_str (pa_cons pe_str pa_nil))) (pa_cons (pe_tup (pa_cons pe_str (pa_cons pe_str pa_nil))) pa_nil))) pps_nil)) rfl rfl (by intro z; cases z) (by decide)))
      (pss_cons (ps_set (i := 3) nd rfl (.inl rfl) (pe_lst (pa_cons (pe_tup (pa_cons pe_str (pa_cons pe_str (pa_cons (pe_tup pa_nil) (pa_cons (pe_callTy cr_tupleF (by rfl) m_tuple PyProof.Rows.boot_tuple (pa_cons (pe_dget hu1 (pv 2) pe_str (fun _ _ => rfl)) pa_nil)) pa_nil))))) (pa_cons (pe_tup (pa_cons pe_str (pa_cons pe_str (pa_cons (pe_tup pa_nil) (pa_cons (pe_callTy cr_tupleF (by rfl) m_tuple PyProof.Rows.boot_tuple (pa_cons (pe_dget hu1 (pv 2) pe_str (fun _ _ => rfl)) pa_nil)) pa_nil))))) pa_nil))))
      (pss_cons (ps_set (i := 4) nd rfl (.inl rfl) pe_str)
      (C8.pss_cut (ps_if (pt_cmpR op_lt (pe_callB call_len_seq (by rfl) m_len PySem.boot_len (pa_cons (pv 0) pa_nil)) pe_int (nomark _)) (pss_one (ps_expr (pe_bm PySem.F.plainAttrs_list PySem.F.slot_list_append PySem.F.type_list_append mt_append (pv 0) (pa_cons pe_dnewK pa_nil)))) (pss_nil))
      (pss_cons (ps_asg (pe_disp (pps_cons pe_str pe_int (pps_cons pe_str pe_int pps_nil)) rfl rfl (by intro z; cases z) (by decide)) (pg_sub (pv 0) pe_int set_list))
      (pss_cons (ps_for PassesOwn.never rfl (pi_range1 rfl m_range (pa_cons (pe_op op_add pe_int (pe_fn (G_law_next) hr3 (pa_cons (pv 0) (pa_cons (pv 1) pa_nil)))) pa_nil)) (pg_name (i := 5) nd rfl (.inl rfl)) (pss_cons (ps_set (i := 6) nd rfl (.inl rfl) (pe_op op_add_str pe_str (pe_callTy call_str_int (by rfl) m_str PyProof.Rows.boot_str (pa_cons (pv 5) pa_nil))))
      (C8.pss_cut (ps_set (i := 7) nd rfl (.inl rfl) (pe_ifExp (pt_cmpR op_gt (pe_fn (G_law_next) hr3 (pa_cons (pv 0) (pa_cons pe_int pa_nil))) pe_int (nomark _)) (pv 4) (pe_fn (G_law_pick) hr4 (pa_cons (pv 0) (pa_cons (pe_callB (call_sortedD rfl) (by rfl) m_sorted (by decide +kernel) (pa_cons (pv 2) pa_nil)) pa_nil)))))
      (pss_cons (ps_asg (pe_fn (G_law_step) hr9 (pa_cons (pv 0) (pa_cons (pv 2) (pa_cons (pv 6) (pa_cons (pv 7) pa_nil))))) (pg_tup rfl (pgs_cons (pg_name (i := 8) nd rfl (.inl rfl)) (pgs_cons (pg_name (i := 9) nd rfl (.inl rfl)) pgs_nil))))
      (pss_cons (ps_expr (pe_bm PySem.F.plainAttrs_list PySem.F.slot_list_append PySem.F.type_list_append mt_append (pv 3) (pa_cons (pv 8) pa_nil)))
      (pss_cons (ps_asg (pe_tup (pa_cons (pv 9) (pa_cons (pv 6) pa_nil))) (pg_tup rfl (pgs_cons (pg_sub (pv 2) (pv 6) (set_dict hu1)) (pgs_cons (pg_name (i := 4) nd rfl (.inl rfl)) pgs_nil))))
      (pss_one (ps_dput hu1 (pe_ix (show IxR _ (rIxL K) from ix_list) (pv 0) pe_int (fun _ _ => rfl)) (pv 6) (pe_fn (G_law_most) hr1 (pa_cons (pv 0) (pa_cons (pv 8) pa_nil))) rfl))))))))
      (pss_one (ps_ret (pe_tup (pa_cons (pe_callTy call_tuple_of (by rfl) m_tuple PyProof.Rows.boot_tuple (pa_cons (pv 3) pa_nil)) (pa_cons (pv 4) pa_nil)))))))))), ?_⟩
  have z2 : 2 ≤ sizeLine := by decide
  have z3 : 3 ≤ sizeLine := by decide
  have z4 : 4 ≤ sizeLine := by decide
  -- known
  refine fun kd h_kd => ?_
  have tq := same_upd (o := .dK []) h_kd
  have sH := tq
  have e_kd : upd H kd (.dK []) kd = some (.dK []) := upd_same
  generalize upd H kd (.dK []) = Hq1 at e_kd sH ⊢
  clear tq
  refine ⟨z2, fun p1 h_p1 => ?_⟩
  have tq := same_upd (o := .tup [.str "k", .str "int"]) h_p1
  replace e_kd := tq _ _ e_kd
  replace sH := sH.trans tq
  have e_p1 : upd Hq1 p1 (.tup [.str "k", .str "int"]) p1 = some (.tup [.str "k", .str "int"]) := upd_same
  generalize upd Hq1 p1 (.tup [.str "k", .str "int"]) = Hq2 at e_kd e_p1 sH ⊢
  clear tq
  refine ⟨z2, fun p2 h_p2 => ?_⟩
  have tq := same_upd (o := .tup [.str "t", .str "text"]) h_p2
  replace e_kd := tq _ _ e_kd
  replace e_p1 := tq _ _ e_p1
  replace sH := sH.trans tq
  have e_p2 : upd Hq2 p2 (.tup [.str "t", .str "text"]) p2 = some (.tup [.str "t", .str "text"]) := upd_same
  generalize upd Hq2 p2 (.tup [.str "t", .str "text"]) = Hq3 at e_kd e_p1 e_p2 sH ⊢
  clear tq
  refine ⟨z2, fun p3 h_p3 => ?_⟩
  have tq := same_upd (o := .tup [.str "n", .str "int"]) h_p3
  replace e_kd := tq _ _ e_kd
  replace e_p1 := tq _ _ e_p1
  replace e_p2 := tq _ _ e_p2
  replace sH := sH.trans tq
  have e_p3 : upd Hq3 p3 (.tup [.str "n", .str "int"]) p3 = some (.tup [.str "n", .str "int"]) := upd_same
  generalize upd Hq3 p3 (.tup [.str "n", .str "int"]) = Hq4 at e_kd e_p1 e_p2 e_p3 sH ⊢
  clear tq
  refine ⟨z3, fun la h_la => ?_⟩
  have f_la : H la = none := none_same sH h_la
  have tq := same_upd (o := .lst [.ref p1, .ref p2, .ref p3]) h_la
  replace e_kd := tq _ _ e_kd
  replace e_p1 := tq _ _ e_p1
  replace e_p2 := tq _ _ e_p2
  replace e_p3 := tq _ _ e_p3
  replace sH := sH.trans tq
  have e_la : upd Hq4 la (.lst [.ref p1, .ref p2, .ref p3]) la = some (.lst [.ref p1, .ref p2, .ref p3]) := upd_same
  generalize upd Hq4 la (.lst [.ref p1, .ref p2, .ref p3]) = Hq5 at e_kd e_p1 e_p2 e_p3 e_la sH ⊢
  clear tq
  refine ⟨z2, fun p4 h_p4 => ?_⟩
  have tq := same_upd (o := .tup [.str "k", .str "int"]) h_p4
  replace e_kd := tq _ _ e_kd
  replace e_p1 := tq _ _ e_p1
  replace e_p2 := tq _ _ e_p2
  replace e_p3 := tq _ _ e_p3
  replace e_la := tq _ _ e_la
  replace sH := sH.trans tq
  have e_p4 : upd Hq5 p4 (.tup [.str "k", .str "int"]) p4 = some (.tup [.str "k", .str "int"]) := upd_same
  generalize upd Hq5 p4 (.tup [.str "k", .str "int"]) = Hq6 at e_kd e_p1 e_p2 e_p3 e_la e_p4 sH ⊢
  clear tq
  refine ⟨z2, fun p5 h_p5 => ?_⟩
  have tq := same_upd (o := .tup [.str "m", .str "int"]) h_p5
  replace e_kd := tq _ _ e_kd
  replace e_p1 := tq _ _ e_p1
  replace e_p2 := tq _ _ e_p2
  replace e_p3 := tq _ _ e_p3
  replace e_la := tq _ _ e_la
  replace e_p4 := tq _ _ e_p4
  replace sH := sH.trans tq
  have e_p5 : upd Hq6 p5 (.tup [.str "m", .str "int"]) p5 = some (.tup [.str "m", .str "int"]) := upd_same
  generalize upd Hq6 p5 (.tup [.str "m", .str "int"]) = Hq7 at e_kd e_p1 e_p2 e_p3 e_la e_p4 e_p5 sH ⊢
  clear tq
  refine ⟨z2, fun lb h_lb => ?_⟩
  have f_lb : H lb = none := none_same sH h_lb
  have tq := same_upd (o := .lst [.ref p4, .ref p5]) h_lb
  replace e_kd := tq _ _ e_kd
  replace e_p1 := tq _ _ e_p1
  replace e_p2 := tq _ _ e_p2
  replace e_p3 := tq _ _ e_p3
  replace e_la := tq _ _ e_la
  replace e_p4 := tq _ _ e_p4
  replace e_p5 := tq _ _ e_p5
  replace sH := sH.trans tq
  have e_lb : upd Hq7 lb (.lst [.ref p4, .ref p5]) lb = some (.lst [.ref p4, .ref p5]) := upd_same
  generalize upd Hq7 lb (.lst [.ref p4, .ref p5]) = Hq8 at e_kd e_p1 e_p2 e_p3 e_la e_p4 e_p5 e_lb sH ⊢
  clear tq
  refine ⟨e_kd, [(.inr "a", .ref la), (.inr "b", .ref lb)], rfl, (show 2 ≤ 15 by decide), ?_⟩
  have emk : mergeK [] [((.inr "a" : L2.Key), V.ref la), (.inr "b", .ref lb)] = [(.inr "a", .ref la), (.inr "b", .ref lb)] := rfl
  rw [emk]
  -- the dict is filled: all but it is kept
  have offk : ∀ b o, b ≠ kd → Hq8 b = some o → upd Hq8 kd (.dK [(.inr "a", .ref la), (.inr "b", .ref lb)]) b = some o := fun b o h e => by
    rw [upd_ne h]
    exact e
  have ne_kd : ∀ {a : Addr} {o : HO}, Hq8 a = some o → o ≠ .dK [] → a ≠ kd := fun e h z => by
    rw [z, e_kd] at e
    exact h (Option.some.inj e).symm
  replace e_p1 := offk _ _ (ne_kd e_p1 (by intro z; cases z)) e_p1
  replace e_p2 := offk _ _ (ne_kd e_p2 (by intro z; cases z)) e_p2
  replace e_p3 := offk _ _ (ne_kd e_p3 (by intro z; cases z)) e_p3
  replace e_la := offk _ _ (ne_kd e_la (by intro z; cases z)) e_la
  replace e_p4 := offk _ _ (ne_kd e_p4 (by intro z; cases z)) e_p4
  replace e_p5 := offk _ _ (ne_kd e_p5 (by intro z; cases z)) e_p5
  replace e_lb := offk _ _ (ne_kd e_lb (by intro z; cases z)) e_lb
  have s9 : Same H (upd Hq8 kd (.dK [(.inr "a", .ref la), (.inr "b", .ref lb)])) := fun b o e => offk b o (ne_of_none e h_kd) (sH _ _ e)
  replace e_kd : upd Hq8 kd (.dK [(.inr "a", .ref la), (.inr "b", .ref lb)]) kd = some (.dK [(.inr "a", .ref la), (.inr "b", .ref lb)]) := upd_same
  clear offk ne_kd sH
  replace sH := s9
  clear s9
  generalize upd Hq8 kd (.dK [(.inr "a", .ref la), (.inr "b", .ref lb)]) = Hq9 at e_kd e_p1 e_p2 e_p3 e_la e_p4 e_p5 e_lb sH ⊢
  -- steps
  refine ⟨Nat.zero_le _, fun ta0 h_ta0 => ?_⟩
  have tq := same_upd (o := .tup []) h_ta0
  replace e_kd := tq _ _ e_kd
  replace e_p1 := tq _ _ e_p1
  replace e_p2 := tq _ _ e_p2
  replace e_p3 := tq _ _ e_p3
  replace e_la := tq _ _ e_la
  replace e_p4 := tq _ _ e_p4
  replace e_p5 := tq _ _ e_p5
  replace e_lb := tq _ _ e_lb
  replace sH := sH.trans tq
  have e_ta0 : upd Hq9 ta0 (.tup []) ta0 = some (.tup []) := upd_same
  generalize upd Hq9 ta0 (.tup []) = Hq10 at e_kd e_p1 e_p2 e_p3 e_la e_p4 e_p5 e_lb e_ta0 sH ⊢
  clear tq
  refine ⟨_, rfl, kd, _, rfl, DGet.k (k := .inr "a") e_kd, la, _, rfl, .inl ⟨SqL.of e_la, fun ta o_ta h_ta d_ta => ?_⟩⟩
  have tq := same_upd (o := .frz o_ta (.tup [.ref p1, .ref p2, .ref p3])) h_ta
  replace e_kd := tq _ _ e_kd
  replace e_p1 := tq _ _ e_p1
  replace e_p2 := tq _ _ e_p2
  replace e_p3 := tq _ _ e_p3
  replace e_la := tq _ _ e_la
  replace e_p4 := tq _ _ e_p4
  replace e_p5 := tq _ _ e_p5
  replace e_lb := tq _ _ e_lb
  replace e_ta0 := tq _ _ e_ta0
  replace sH := sH.trans tq
  have e_ta : upd Hq10 ta (.frz o_ta (.tup [.ref p1, .ref p2, .ref p3])) ta = some (.frz o_ta (.tup [.ref p1, .ref p2, .ref p3])) := upd_same
  generalize upd Hq10 ta (.frz o_ta (.tup [.ref p1, .ref p2, .ref p3])) = Hq11 at e_kd e_p1 e_p2 e_p3 e_la e_p4 e_p5 e_lb e_ta0 e_ta sH ⊢
  clear tq
  refine ⟨z4, fun sa h_sa => ?_⟩
  have tq := same_upd (o := .tup [.str "a", .str "read", .ref ta0, .ref ta]) h_sa
  replace e_kd := tq _ _ e_kd
  replace e_p1 := tq _ _ e_p1
  replace e_p2 := tq _ _ e_p2
  replace e_p3 := tq _ _ e_p3
  replace e_la := tq _ _ e_la
  replace e_p4 := tq _ _ e_p4
  replace e_p5 := tq _ _ e_p5
  replace e_lb := tq _ _ e_lb
  replace e_ta0 := tq _ _ e_ta0
  replace e_ta := tq _ _ e_ta
  replace sH := sH.trans tq
  have e_sa : upd Hq11 sa (.tup [.str "a", .str "read", .ref ta0, .ref ta]) sa = some (.tup [.str "a", .str "read", .ref ta0, .ref ta]) := upd_same
  generalize upd Hq11 sa (.tup [.str "a", .str "read", .ref ta0, .ref ta]) = Hq12 at e_kd e_p1 e_p2 e_p3 e_la e_p4 e_p5 e_lb e_ta0 e_ta e_sa sH ⊢
  clear tq
  refine ⟨Nat.zero_le _, fun tb0 h_tb0 => ?_⟩
  have tq := same_upd (o := .tup []) h_tb0
  replace e_kd := tq _ _ e_kd
  replace e_p1 := tq _ _ e_p1
  replace e_p2 := tq _ _ e_p2
  replace e_p3 := tq _ _ e_p3
  replace e_la := tq _ _ e_la
  replace e_p4 := tq _ _ e_p4
  replace e_p5 := tq _ _ e_p5
  replace e_lb := tq _ _ e_lb
  replace e_ta0 := tq _ _ e_ta0
  replace e_ta := tq _ _ e_ta
  replace e_sa := tq _ _ e_sa
  replace sH := sH.trans tq
  have e_tb0 : upd Hq12 tb0 (.tup []) tb0 = some (.tup []) := upd_same
  generalize upd Hq12 tb0 (.tup []) = Hq13 at e_kd e_p1 e_p2 e_p3 e_la e_p4 e_p5 e_lb e_ta0 e_ta e_sa e_tb0 sH ⊢
  clear tq
  refine ⟨_, rfl, kd, _, rfl, DGet.k (k := .inr "b") e_kd, lb, _, rfl, .inl ⟨SqL.of e_lb, fun tb o_tb h_tb d_tb => ?_⟩⟩
  have tq := same_upd (o := .frz o_tb (.tup [.ref p4, .ref p5])) h_tb
  replace e_kd := tq _ _ e_kd
  replace e_p1 := tq _ _ e_p1
  replace e_p2 := tq _ _ e_p2
  replace e_p3 := tq _ _ e_p3
  replace e_la := tq _ _ e_la
  replace e_p4 := tq _ _ e_p4
  replace e_p5 := tq _ _ e_p5
  replace e_lb := tq _ _ e_lb
  replace e_ta0 := tq _ _ e_ta0
  replace e_ta := tq _ _ e_ta
  replace e_sa := tq _ _ e_sa
  replace e_tb0 := tq _ _ e_tb0
  replace sH := sH.trans tq
  have e_tb : upd Hq13 tb (.frz o_tb (.tup [.ref p4, .ref p5])) tb = some (.frz o_tb (.tup [.ref p4, .ref p5])) := upd_same
  generalize upd Hq13 tb (.frz o_tb (.tup [.ref p4, .ref p5])) = Hq14 at e_kd e_p1 e_p2 e_p3 e_la e_p4 e_p5 e_lb e_ta0 e_ta e_sa e_tb0 e_tb sH ⊢
  clear tq
  refine ⟨z4, fun sb h_sb => ?_⟩
  have tq := same_upd (o := .tup [.str "b", .str "read", .ref tb0, .ref tb]) h_sb
  replace e_kd := tq _ _ e_kd
  replace e_p1 := tq _ _ e_p1
  replace e_p2 := tq _ _ e_p2
  replace e_p3 := tq _ _ e_p3
  replace e_la := tq _ _ e_la
  replace e_p4 := tq _ _ e_p4
  replace e_p5 := tq _ _ e_p5
  replace e_lb := tq _ _ e_lb
  replace e_ta0 := tq _ _ e_ta0
  replace e_ta := tq _ _ e_ta
  replace e_sa := tq _ _ e_sa
  replace e_tb0 := tq _ _ e_tb0
  replace e_tb := tq _ _ e_tb
  replace sH := sH.trans tq
  have e_sb : upd Hq14 sb (.tup [.str "b", .str "read", .ref tb0, .ref tb]) sb = some (.tup [.str "b", .str "read", .ref tb0, .ref tb]) := upd_same
  generalize upd Hq14 sb (.tup [.str "b", .str "read", .ref tb0, .ref tb]) = Hq15 at e_kd e_p1 e_p2 e_p3 e_la e_p4 e_p5 e_lb e_ta0 e_ta e_sa e_tb0 e_tb e_sb sH ⊢
  clear tq
  refine ⟨z2, fun sl h_sl => ?_⟩
  have f_sl : H sl = none := none_same sH h_sl
  have tq := same_upd (o := .lst [.ref sa, .ref sb]) h_sl
  replace e_kd := tq _ _ e_kd
  replace e_p1 := tq _ _ e_p1
  replace e_p2 := tq _ _ e_p2
  replace e_p3 := tq _ _ e_p3
  replace e_la := tq _ _ e_la
  replace e_p4 := tq _ _ e_p4
  replace e_p5 := tq _ _ e_p5
  replace e_lb := tq _ _ e_lb
  replace e_ta0 := tq _ _ e_ta0
  replace e_ta := tq _ _ e_ta
  replace e_sa := tq _ _ e_sa
  replace e_tb0 := tq _ _ e_tb0
  replace e_tb := tq _ _ e_tb
  replace e_sb := tq _ _ e_sb
  replace sH := sH.trans tq
  have e_sl : upd Hq15 sl (.lst [.ref sa, .ref sb]) sl = some (.lst [.ref sa, .ref sb]) := upd_same
  generalize upd Hq15 sl (.lst [.ref sa, .ref sb]) = Hq16 at e_kd e_p1 e_p2 e_p3 e_la e_p4 e_p5 e_lb e_ta0 e_ta e_sa e_tb0 e_tb e_sb e_sl sH ⊢
  clear tq
  have D1 := D.keep sH
  have nkd : ∀ {a : Addr} {o : HO}, Hq16 a = some o → (∀ xs, o ≠ .lst xs) → a ≠ d := fun e h z => by
    rw [z, D1.at_d] at e
    exact h _ (Option.some.inj e).symm
  have nsl : sl ≠ d := (ne_of_none D.at_d f_sl).symm
  -- a fourth thing
  refine ⟨fun σ H' => σ = [some (.ref d), some (.int many), some (.ref kd), some (.ref sl), some (.str "a"), none, none, none, none, none] ∧ ∃ x, DrawAt H' d s ns [x] n ∧ But d Hq16 H', ?_, ?_⟩
  · rcases htl with rfl | ⟨x, rfl⟩
    · refine ⟨_, rfl, d, _, rfl, .inl (SqL.of D1.at_d), _, _, rfl, rfl, _, rfl, iteT ?_⟩
      refine ⟨_, rfl, .inl ⟨rfl, _, SqL.of D1.at_d⟩, fun p hp => ⟨d, _, _, rfl, rfl, same_upd hp _ _ D1.at_d, (show 3 < sizeLine by decide), rfl, .ref p, ⟨upd_same, ?_, D1.n0⟩, fun b o hb e => ?_⟩⟩
      · rw [upd_ne D1.ne]
        exact same_upd hp _ _ D1.at_s
      · rw [upd_ne hb]
        exact same_upd hp _ _ e
    · refine ⟨_, rfl, d, _, rfl, .inl (SqL.of D1.at_d), _, _, rfl, rfl, _, rfl, iteF ?_⟩
      exact ⟨rfl, x, D1, But.refl _ _⟩
  rintro σ H1 ⟨rfl, x, D2, b2⟩
  have bla : la ≠ d := (ne_of_none D.at_d f_la).symm
  have blb : lb ≠ d := (ne_of_none D.at_d f_lb).symm
  replace e_kd := b2 _ _ (nkd e_kd (by intro xs z; cases z)) e_kd
  replace e_p1 := b2 _ _ (nkd e_p1 (by intro xs z; cases z)) e_p1
  replace e_p2 := b2 _ _ (nkd e_p2 (by intro xs z; cases z)) e_p2
  replace e_p3 := b2 _ _ (nkd e_p3 (by intro xs z; cases z)) e_p3
  replace e_la := b2 _ _ bla e_la
  replace e_p4 := b2 _ _ (nkd e_p4 (by intro xs z; cases z)) e_p4
  replace e_p5 := b2 _ _ (nkd e_p5 (by intro xs z; cases z)) e_p5
  replace e_lb := b2 _ _ blb e_lb
  replace e_ta0 := b2 _ _ (nkd e_ta0 (by intro xs z; cases z)) e_ta0
  replace e_ta := b2 _ _ (nkd e_ta (by intro xs z; cases z)) e_ta
  replace e_sa := b2 _ _ (nkd e_sa (by intro xs z; cases z)) e_sa
  replace e_tb0 := b2 _ _ (nkd e_tb0 (by intro xs z; cases z)) e_tb0
  replace e_tb := b2 _ _ (nkd e_tb (by intro xs z; cases z)) e_tb
  replace e_sb := b2 _ _ (nkd e_sb (by intro xs z; cases z)) e_sb
  replace e_sl := b2 _ _ nsl e_sl
  have b02 : But d H H1 := (same_but sH).trans b2
  clear nkd D1 sH b2 htl
  -- the sizes
  have nkd : ∀ {a : Addr} {o : HO}, H1 a = some o → (∀ xs, o ≠ .lst xs) → a ≠ d := fun e h z => by
    rw [z, D2.at_d] at e
    exact h _ (Option.some.inj e).symm
  refine fun g hg => ⟨upd_same, [(.inr "a", .int 20), (.inr "b", .int 20)], rfl, (show 2 ≤ 15 by decide), _, rfl, d, [.ref s, .int 0, .int n, x], 3, 3, rfl, rfl, ?_, rfl, ?_⟩
  · rw [upd_upd]
    exact same_upd hg _ _ D2.at_d
  rw [upd_upd]
  have emg : mergeK [] [((.inr "a" : L2.Key), V.int 20), (.inr "b", .int 20)] = [(.inr "a", .int 20), (.inr "b", .int 20)] := rfl
  rw [emg]
  have fg : H g = none := by
    cases z : H g with
    | none => rfl
    | some o =>
      by_cases e : g = d
      · rw [e, D2.at_d] at hg
        cases hg
      · rw [b02 _ _ e z] at hg
        cases hg
  have sg := same_upd (o := .dK [(.inr "a", .int 20), (.inr "b", .int 20)]) hg
  have gd : g ≠ d := fun e => by
    rw [e, D2.at_d] at hg
    cases hg
  have kg : kd ≠ g := fun e => by
    rw [← e, e_kd] at hg
    cases hg
  have keep : ∀ b o, b ≠ d → H1 b = some o → upd (upd H1 g (.dK [(.inr "a", .int 20), (.inr "b", .int 20)])) d (.lst ([V.ref s, .int 0, .int n, x].set 3 (.ref g))) b = some o := fun b o h e => by
    rw [upd_ne h]
    exact sg _ _ e
  replace e_kd := keep _ _ (nkd e_kd (by intro xs z; cases z)) e_kd
  replace e_p1 := keep _ _ (nkd e_p1 (by intro xs z; cases z)) e_p1
  replace e_p2 := keep _ _ (nkd e_p2 (by intro xs z; cases z)) e_p2
  replace e_p3 := keep _ _ (nkd e_p3 (by intro xs z; cases z)) e_p3
  replace e_la := keep _ _ bla e_la
  replace e_p4 := keep _ _ (nkd e_p4 (by intro xs z; cases z)) e_p4
  replace e_p5 := keep _ _ (nkd e_p5 (by intro xs z; cases z)) e_p5
  replace e_lb := keep _ _ blb e_lb
  replace e_ta0 := keep _ _ (nkd e_ta0 (by intro xs z; cases z)) e_ta0
  replace e_ta := keep _ _ (nkd e_ta (by intro xs z; cases z)) e_ta
  replace e_sa := keep _ _ (nkd e_sa (by intro xs z; cases z)) e_sa
  replace e_tb0 := keep _ _ (nkd e_tb0 (by intro xs z; cases z)) e_tb0
  replace e_tb := keep _ _ (nkd e_tb (by intro xs z; cases z)) e_tb
  replace e_sb := keep _ _ (nkd e_sb (by intro xs z; cases z)) e_sb
  replace e_sl := keep _ _ nsl e_sl
  have D3 : DrawAt (upd (upd H1 g (.dK [(.inr "a", .int 20), (.inr "b", .int 20)])) d (.lst ([V.ref s, .int 0, .int n, x].set 3 (.ref g)))) d s ns [.ref g] n := ⟨upd_same, keep _ _ D2.ne D2.at_s, D2.n0⟩
  have e_g : upd (upd H1 g (.dK [(.inr "a", .int 20), (.inr "b", .int 20)])) d (.lst ([V.ref s, .int 0, .int n, x].set 3 (.ref g))) g = some (.dK [(.inr "a", .int 20), (.inr "b", .int 20)]) := by
    rw [upd_ne gd]
    exact upd_same
  have b3 : But d H (upd (upd H1 g (.dK [(.inr "a", .int 20), (.inr "b", .int 20)])) d (.lst ([V.ref s, .int 0, .int n, x].set 3 (.ref g)))) := fun b o h e => keep b o h (b02 _ _ h e)
  generalize upd (upd H1 g (.dK [(.inr "a", .int 20), (.inr "b", .int 20)])) d (.lst ([V.ref s, .int 0, .int n, x].set 3 (.ref g))) = H3 at D3 e_g b3 e_kd e_p1 e_p2 e_p3 e_la e_p4 e_p5 e_lb e_ta0 e_ta e_sa e_tb0 e_tb e_sb e_sl ⊢
  clear nkd keep sg hg b02 D2
  have S0 : JobSt H H3 d s kd g sl ns [(sa, ⟨"a", [], .read colsA⟩), (sb, ⟨"b", [], .read colsB⟩)] [("a", la, [(p1, "k", true), (p2, "t", false), (p3, "n", true)]), ("b", lb, [(p4, "k", true), (p5, "m", true)])] "a" 0 := by
    refine ⟨⟨n, D3⟩, b3, ⟨_, D.at_s⟩, h_kd, fg, f_sl, ⟨e_kd, ?_, by show (["a", "b"] : List Str).Nodup; decide +kernel, (show 2 ≤ 40 by decide), ⟨_, e_g, (show 2 ≤ 40 by decide), ?_⟩, ?_⟩, kg, nsl, e_sl, ?_, ?_, rfl, .base, rfl, List.mem_cons_self, fun kvs e => by
      rw [e_g] at e
      cases e
      exact Nat.le_refl 2⟩
    · intro e he
      rcases List.mem_cons.mp he with rfl | he
      · refine ⟨⟨e_la, fun c hc => ?_, (show 3 ≤ 1000 by decide), fun c hc => ?_⟩, by show (["k", "t", "n"] : List Str).Nodup; decide +kernel, fun c hc => ?_, by intro z; cases z⟩
        · rcases List.mem_cons.mp hc with rfl | hc
          · exact e_p1
          rcases List.mem_cons.mp hc with rfl | hc
          · exact e_p2
          · rw [List.mem_singleton.mp hc]
            exact e_p3
        · rcases List.mem_cons.mp hc with rfl | hc
          · exact (by decide +kernel : PyData.canLay0 (.str "k") = true)
          rcases List.mem_cons.mp hc with rfl | hc
          · exact (by decide +kernel : PyData.canLay0 (.str "t") = true)
          · rw [List.mem_singleton.mp hc]
            exact (by decide +kernel : PyData.canLay0 (.str "n") = true)
        · rcases List.mem_cons.mp hc with rfl | hc
          · exact (by decide +kernel : ("k" : Str) ∈ allNames)
          rcases List.mem_cons.mp hc with rfl | hc
          · exact (by decide +kernel : ("t" : Str) ∈ allNames)
          · rw [List.mem_singleton.mp hc]
            exact (by decide +kernel : ("n" : Str) ∈ allNames)
      · rw [List.mem_singleton.mp he]
        refine ⟨⟨e_lb, fun c hc => ?_, (show 2 ≤ 1000 by decide), fun c hc => ?_⟩, by show (["k", "m"] : List Str).Nodup; decide +kernel, fun c hc => ?_, by intro z; cases z⟩
        · rcases List.mem_cons.mp hc with rfl | hc
          · exact e_p4
          · rw [List.mem_singleton.mp hc]
            exact e_p5
        · rcases List.mem_cons.mp hc with rfl | hc
          · exact (by decide +kernel : PyData.canLay0 (.str "k") = true)
          · rw [List.mem_singleton.mp hc]
            exact (by decide +kernel : PyData.canLay0 (.str "m") = true)
        · rcases List.mem_cons.mp hc with rfl | hc
          · exact (by decide +kernel : ("k" : Str) ∈ allNames)
          · rw [List.mem_singleton.mp hc]
            exact (by decide +kernel : ("m" : Str) ∈ allNames)
    · intro e he
      rcases List.mem_cons.mp he with rfl | he
      · exact ⟨20, rfl, by decide, by decide⟩
      · rw [List.mem_singleton.mp he]
        exact ⟨20, rfl, by decide, by decide⟩
    · intro e he
      rcases List.mem_cons.mp he with rfl | he
      · exact (by decide +kernel : PyData.canLay0 (.str "a") = true)
      · rw [List.mem_singleton.mp he]
        exact (by decide +kernel : PyData.canLay0 (.str "b") = true)
    · intro e he
      rcases List.mem_cons.mp he with rfl | he
      · intro z
        have z' : la = sl := z
        rw [z', e_sl] at e_la
        cases e_la
      · rw [List.mem_singleton.mp he]
        intro z
        have z' : lb = sl := z
        rw [z', e_sl] at e_lb
        have z2 : sa = p4 := by
          have := Option.some.inj e_lb
          injection this with this
          injection this with this _
          injection this
        rw [← z2, e_sa] at e_p4
        cases e_p4
    · intro p hp
      rcases List.mem_cons.mp hp with rfl | hp
      · refine ⟨ta0, .ref ta, e_sa, e_ta0, ta, [(p1, "k", true), (p2, "t", false), (p3, "n", true)], rfl, ⟨o_ta, d_ta, e_ta⟩, fun c hc => ?_, rfl⟩
        rcases List.mem_cons.mp hc with rfl | hc
        · exact e_p1
        rcases List.mem_cons.mp hc with rfl | hc
        · exact e_p2
        · rw [List.mem_singleton.mp hc]
          exact e_p3
      · rw [List.mem_singleton.mp hp]
        refine ⟨tb0, .ref tb, e_sb, e_tb0, tb, [(p4, "k", true), (p5, "m", true)], rfl, ⟨o_tb, d_tb, e_tb⟩, fun c hc => ?_, rfl⟩
        rcases List.mem_cons.mp hc with rfl | hc
        · exact e_p4
        · rw [List.mem_singleton.mp hc]
          exact e_p5
  clear e_p1 e_p2 e_p3 e_p4 e_p5 e_ta0 e_tb0 e_ta e_tb e_sa e_sb e_la e_lb e_sl e_kd e_g D3 b3 h_kd fg f_sl kg nsl
  -- the steps
  obtain ⟨n0, D0⟩ := S0.dr
  refine ⟨_, rfl, _, rfl, d, s, ns, [.ref g], _, many, rfl, D0, by omega, fun r H4 r0 r1 b4 D4 => ⟨_, _, rfl, rfl, _, rfl, by omega, by omega, ?_⟩⟩
  have S1 := S0.step b4 D4
  clear S0 D0 b4 D4
  refine for_range (fun i σ H' => ∃ y5 y6 y7 y8 y9 as kn last, σ = [some (.ref d), some (.int many), some (.ref kd), some (.ref sl), some (.str last), y5, y6, y7, y8, y9] ∧ JobSt H H' d s kd g sl ns as kn last i) ⟨none, none, none, none, none, _, _, "a", rfl, S1⟩ ?_ ?_
  · rintro i σ H5 hi ⟨y5, y6, y7, y8, y9, as, kn, last, rfl, S5⟩
    have hi8 : i < 8 := by omega
    obtain ⟨sn1, sn2, sn3, sn4⟩ := s_name hi8
    refine ⟨_, rfl, _, rfl, log_num8 hi8, "s", _, rfl, rfl, sn3, ?_⟩
    generalize ("s" : Str) ++ Str.ofString (toString ((0 : Int) + (i : Nat))) = nm at sn1 sn2 sn4 ⊢
    obtain ⟨n5, D5⟩ := S5.dr
    refine ⟨fun σ H' => ∃ e, σ = [some (.ref d), some (.int many), some (.ref kd), some (.ref sl), some (.str last), some (.int ((0 : Int) + (i : Nat))), some (.str nm), some (.str e.1), y8, y9] ∧ e ∈ kn ∧ JobSt H H' d s kd g sl ns as kn last i, ?_, ?_⟩
    · refine ⟨_, rfl, d, s, ns, [.ref g], _, 3, rfl, D5, by decide, fun r3 H6 _ _ b6 D6 => ⟨_, _, rfl, rfl, _, rfl, ?_⟩⟩
      have S6 := S5.step b6 D6
      refine ite2 (fun c => ⟨_, rfl, ?_⟩) (fun c => ?_)
      · obtain ⟨e, he, el⟩ := List.mem_map.mp S6.lst
        exact ⟨e, by rw [el]; rfl, he, S6⟩
      · refine ⟨_, rfl, _, rfl, kd, _, kn.map (·.1), rfl, .inl S6.k.at_k, (by rw [List.map_map, List.map_map]; rfl), (by rw [List.length_map]; have := S6.kn_len; omega), fun ys p pm _ hp => ?_⟩
        have sp := same_upd (o := .lst (ys.map V.str)) hp
        refine ⟨d, s, p, ns, [.ref g], _, ys.map V.str, rfl, D6.keep sp, (ne_of_none D6.at_d hp).symm, .inl (SqL.of upd_same), ?_, fun v H7 hv b7 D7 => ?_⟩
        · intro z
          rw [List.map_eq_nil_iff.mp z] at pm
          have h2 := pm.nil_eq
          have h3 := S6.lst
          rw [← h2] at h3
          exact absurd h3 List.not_mem_nil
        obtain ⟨o, ho, rfl⟩ := mem_strs hv
        obtain ⟨e, he, rfl⟩ := List.mem_map.mp (pm.mem_iff.mp ho)
        exact ⟨e, rfl, he, (S6.new hp).step b7 D7⟩
    clear S5 D5 n5
    rintro σ H6 ⟨e1, rfl, he1, S6⟩
    obtain ⟨n6, D6⟩ := S6.dr
    refine ⟨_, rfl, _, rfl, _, rfl, _, rfl, d, s, kd, g, kn, nm, e1.1, e1.2.1, e1.2.2, ns, _, rfl, D6, S6.k, he1, fun r2 st f0 ins det cl n7 H7 er X T O Z b7 D7 => ?_⟩
    refine ⟨r2, _, rfl, SqT.of er, rfl, _, _, rfl, _, _, rfl, rfl, ?_⟩
    have S7 := S6.step b7 D7
    have nmk : nm ∉ kn.map (·.1) := by
      rw [S7.nms]
      exact sn2
    have gnd : g ≠ d := fun z => by
      obtain ⟨kv, h1, _⟩ := S6.k.sizes
      rw [z, D6.at_d] at h1
      cases h1
    obtain ⟨kvs, eg6, _, _⟩ := S6.k.sizes
    have eg7 := b7 _ _ gnd eg6
    obtain ⟨kvs', eg7', lkv, hsz⟩ := S7.k.sizes
    have : kvs' = kvs := by
      rw [eg7] at eg7'
      cases eg7'
      rfl
    subst this
    have fsl : f0 ≠ sl := fun z => by
      have h1 := T.cols.all
      rw [z, S7.e3] at h1
      have h2 : (as.map fun p => V.ref p.1) = cl.map fun c => V.ref c.1 := by
        injection h1 with h1
        injection h1
      cases hcl : cl with
      | nil => exact T.ne hcl
      | cons c cl' =>
        cases has : as with
        | nil =>
          rw [hcl, has] at h2
          cases h2
        | cons p as' =>
          rw [hcl, has] at h2
          have h3 : p.1 = c.1 := by
            injection h2 with h2 _
            injection h2
          have h4 := T.cols.each c (by rw [hcl]; exact List.mem_cons_self)
          obtain ⟨_, _, h5, _⟩ := S7.stp p (by rw [has]; exact List.mem_cons_self)
          rw [h3, h4] at h5
          have h6 := congrArg (fun o : Option HO => match o with | some (.tup xs) => xs.length | _ => 0) h5
          exact absurd h6 (by show ¬ 2 = 4; decide)
    -- steps.append(step)
    refine ⟨_, rfl, .inl ⟨rfl, _, SqL.of S7.e3⟩, _, rfl, sl, _, _, rfl, rfl, S7.e3, (by rw [List.length_map, S7.len]; exact Nat.lt_of_le_of_lt (show i + 2 ≤ 10 by omega) (by decide)), ?_⟩
    have off8 : ∀ b o, b ≠ sl → H7 b = some o → upd H7 sl (.lst ((as.map fun p => .ref p.1) ++ [.ref st])) b = some o := fun b o h e => by
      rw [upd_ne h]
      exact e
    have e8 : upd H7 sl (.lst ((as.map fun p => .ref p.1) ++ [.ref st])) sl = some (.lst ((as.map fun p => .ref p.1) ++ [.ref st])) := upd_same
    generalize upd H7 sl (.lst ((as.map fun p => .ref p.1) ++ [.ref st])) = H8 at off8 e8 ⊢
    have nlst : ∀ {a : Addr} {o : HO}, H7 a = some o → (∀ xs, o ≠ .lst xs) → a ≠ sl := fun e h z => by
      rw [z, S7.e3] at e
      exact h _ (Option.some.inj e).symm
    -- known[name], last = columns, name
    refine ⟨_, rfl, _, rfl, z2, fun t ht => ?_⟩
    have s9 := same_upd (o := .tup [.ref f0, .str nm]) ht
    have et : upd H8 t (.tup [.ref f0, .str nm]) t = some (.tup [.ref f0, .str nm]) := upd_same
    have off9 : ∀ b o, b ≠ sl → H7 b = some o → upd H8 t (.tup [.ref f0, .str nm]) b = some o := fun b o h e => s9 _ _ (off8 b o h e)
    have e9 := s9 _ _ e8
    generalize upd H8 t (.tup [.ref f0, .str nm]) = H9 at s9 et off9 e9 ⊢
    have ek9 := off9 _ _ (nlst S7.k.at_k (by intro xs z; cases z)) S7.k.at_k
    have eg9 := off9 _ _ (nlst eg7 (by intro xs z; cases z)) eg7
    refine ⟨t, _, rfl, SqT.of et, rfl, _, _, rfl, _, rfl, _, rfl, kd, _, rfl, DPut.k (k := .inr nm) ek9 (by rw [List.length_map]; exact Nat.lt_of_le_of_lt S7.kn_len (by decide)), _, _, rfl, rfl, ?_⟩
    have off10 : ∀ b o, b ≠ sl → b ≠ kd → H7 b = some o → upd H9 kd (.dK (putK (kn.map fun e => ((.inr e.1 : L2.Key), V.ref e.2.1)) (.inr nm) (.ref f0))) b = some o := fun b o h1 h2 e => by
      rw [upd_ne h2]
      exact off9 b o h1 e
    have ek10 : upd H9 kd (.dK (putK (kn.map fun e => ((.inr e.1 : L2.Key), V.ref e.2.1)) (.inr nm) (.ref f0))) kd = some (.dK (putK (kn.map fun e => ((.inr e.1 : L2.Key), V.ref e.2.1)) (.inr nm) (.ref f0))) := upd_same
    have e10 : upd H9 kd (.dK (putK (kn.map fun e => ((.inr e.1 : L2.Key), V.ref e.2.1)) (.inr nm) (.ref f0))) sl = some (.lst ((as.map fun p => .ref p.1) ++ [.ref st])) := by
      rw [upd_ne (nlst S7.k.at_k (by intro xs z; cases z)).symm]
      exact e9
    have eg10 : upd H9 kd (.dK (putK (kn.map fun e => ((.inr e.1 : L2.Key), V.ref e.2.1)) (.inr nm) (.ref f0))) g = some (.dK kvs') := by
      rw [upd_ne S7.kg.symm]
      exact eg9
    generalize upd H9 kd (.dK (putK (kn.map fun e => ((.inr e.1 : L2.Key), V.ref e.2.1)) (.inr nm) (.ref f0))) = H10 at off10 ek10 e10 eg10 ⊢
    clear off8 e8 off9 e9 s9 et ek9 eg9
    -- draw[3][name] = the most
    have ndk : ∀ {a : Addr} {xs : List V}, H7 a = some (.lst xs) → a ≠ kd := fun e z => by
      rw [z, S7.k.at_k] at e
      cases e
    have ndt : ∀ {a : Addr} {xs : List V}, H7 a = some (.tup xs) → a ≠ kd := fun e z => by
      rw [z, S7.k.at_k] at e
      cases e
    have kt10 : KeepT H7 H10 := fun a xs e => off10 a _ (nlst e (by intro xs z; cases z)) (ndt e) e
    obtain ⟨os, es⟩ := S7.fs'
    have D10 : DrawAt H10 d s ns [.ref g] n7 := ⟨off10 _ _ S7.n3.symm (ndk D7.at_d) D7.at_d, off10 _ _ (ne_of_none es S7.f3) (ndk D7.at_s) D7.at_s, D7.n0⟩
    have kf10 : KeepF H7 H10 := fun a xs ⟨o, dn, e⟩ => ⟨o, dn, off10 a _ (nlst e (by intro xs z; cases z)) (fun z => by rw [z, S7.k.at_k] at e; cases e) e⟩
    obtain ⟨inp, dv, x1, x2, x3⟩ := X.keep kt10 kf10
    obtain ⟨js, l1, l2, l3, l4⟩ := Z kvs' eg6
    refine ⟨_, rfl, _, rfl, d, s, g, st, inp, ns, [], n7, .str nm, dv, det.what, ins, js, kvs', rfl, D10, eg10, x1, x2, l1, ?_, l2, l3, l4, ?_, fun j H11 j0 j1 s11 => ?_⟩
    · have := O.len
      omega
    · intro hw
      cases det with
      | sort ws m =>
        obtain ⟨t', wt, _, h1, h2, _⟩ := x3
        refine ⟨t', _, m, h1, h2, ?_⟩
        have := O.sort_pos
        omega
      | read cs => exact absurd hw (by show ("read" : Str) ≠ "sort"; decide +kernel)
      | filter e => exact absurd hw (by show ("filter" : Str) ≠ "sort"; decide +kernel)
      | map ms => exact absurd hw (by show ("map" : Str) ≠ "sort"; decide +kernel)
      | fold ks fs => exact absurd hw (by show ("fold" : Str) ≠ "sort"; decide +kernel)
      | join ks => exact absurd hw (by show ("join" : Str) ≠ "sort"; decide +kernel)
      | union => exact absurd hw (by show ("union" : Str) ≠ "sort"; decide +kernel)
      | unlike => exact absurd hw (by show ("unlike" : Str) ≠ "sort"; decide +kernel)
    refine ⟨_, rfl, d, _, 3, _, rfl, rfl, SqL.of (s11 _ _ D10.at_d), at3, _, rfl, g, _, rfl, DPut.k (k := .inr nm) (s11 _ _ eg10) (Nat.lt_of_le_of_lt lkv (by decide)), ?_⟩
    have gsl : sl ≠ g := (nlst eg7 (by intro xs z; cases z)).symm
    refine ⟨_, _, _, _, _, as ++ [(st, ⟨nm, ins, det⟩)], kn ++ [(nm, f0, cl)], nm, rfl, S7.add X T O nmk sn1 sn4 j0 j1 fsl eg7 ?_ hsz (fun b o h1 h2 h3 e => ?_) ?_ ?_ upd_same⟩
    · have := S7.szl _ eg7
      omega
    · rw [upd_ne h3]
      exact s11 _ _ (off10 b o h1 h2 e)
    · rw [upd_ne gsl]
      exact s11 _ _ e10
    · rw [upd_ne S7.kg]
      exact s11 _ _ ek10
  · rintro σ H5 ⟨y5, y6, y7, y8, y9, as, kn, last, rfl, S5⟩
    refine ⟨_, rfl, sl, _, rfl, .inl ⟨SqL.of S5.e3, fun st hst => ⟨_, rfl, z2, fun rr hrr => ?_⟩⟩⟩
    have S6 := (S5.new (o := .tup (as.map fun p => .ref p.1)) hst).new (o := .tup [.ref st, .str last]) hrr
    obtain ⟨n6, D6⟩ := S6.dr
    exact q rr st g as (abs kn) last n6 _ upd_same (same_upd hrr _ _ upd_same) S6.stp S6.ok (by unfold abs; rw [List.map_map]; exact S6.lst) (by unfold abs; rw [List.length_map]; exact S6.kn_len) (fun e he => by
      obtain ⟨x, hx, rfl⟩ := List.mem_map.mp he
      have h : x.1 ∈ kn.map (·.1) := List.mem_map.mpr ⟨x, hx, rfl⟩
      rw [S6.nms] at h
      exact List.mem_of_mem_take h) S6.b D6
end
end Kx

set_option maxHeartbeats 8000000
namespace Kx
open PySem PySem.Spec PyProof.Rows L2
abbrev s_two : Stmt := topS 6
abbrev s_kind : Stmt := topS 7
abbrev s_law_kind : Stmt := topS 35
/-! ### the kind of an expression, none if it has none -/
def ops2 : List Str := sums ++ (["and", "or"] : List Str)
def twoK (op : Str) : Option Bool → Option Bool → Option Bool
  | some a, some b => if a = b then (if a = true ∨ op ∈ cmps then some true else none) else none
  | _, _ => none
def oneK (want : Bool) (o : Option Bool) : Option Bool := if o = some want then some true else none
def kindE (kf : Str → Option Bool) : Ex → Option Bool
  | .num _ => some true
  | .quo _ => some false
  | .col x => kf x
  | .two op a b => twoK op (kindE kf a) (kindE kf b)
  | .nt a => oneK true (kindE kf a)
  | .mn a => oneK true (kindE kf a)
  | .ln a => oneK false (kindE kf a)
def OpsOk : Ex → Prop
  | .two op a b => (op ∈ cmps ∨ op ∈ ops2) ∧ OpsOk a ∧ OpsOk b
  | .nt a => OpsOk a
  | .mn a => OpsOk a
  | .ln a => OpsOk a
  | _ => True
def kV' (o : Option Bool) : V := match o with
  | none => .non
  | some b => .str (kW b)
theorem ops2_no : ∀ op ∈ ops2, op ∉ cmps := by decide +kernel
structure Lv (K : PySem.W.Frag) (w : World) (mg : Str → Option Value) : Prop where
  ex : ∃ d, mg "LEVELS" = some (.ref d) ∧ (∀ op ∈ cmps, KDct K w d op (.int 4)) ∧ ∀ op ∈ ops2, ∃ l : Int, l ≠ 4 ∧ KDct K w d op (.int l)
  four : ∃ t, mg "COMPARISON" = some (.int 4 t)
theorem in_yes {z : Str} {l : List Str} {A B : Prop} (h : z ∈ l) (q : A) : if (if false = true then !inV (.str z) (l.map V.str) else inV (.str z) (l.map V.str)) = true then A else B := in_strs (fun _ => q) fun n => absurd h n
theorem in_no {z : Str} {l : List Str} {A B : Prop} (h : z ∉ l) (q : B) : if (if false = true then !inV (.str z) (l.map V.str) else inV (.str z) (l.map V.str)) = true then A else B := in_strs (fun y => absurd y h) fun _ => q
def nqL : List Str := ["number", "quoted"]
def nmL : List Str := ["not", "minus"]
theorem nq1 : ("number" : Str) ∈ nqL := by decide +kernel
theorem nq2 : ("quoted" : Str) ∈ nqL := by decide +kernel
theorem nq3 : ("column" : Str) ∉ nqL := by decide +kernel
theorem nq4 : ("not" : Str) ∉ nqL := by decide +kernel
theorem nq5 : ("minus" : Str) ∉ nqL := by decide +kernel
theorem nq6 : ("length" : Str) ∉ nqL := by decide +kernel
theorem nq7 : ("two" : Str) ∉ nqL := by decide +kernel
theorem nm1 : ("not" : Str) ∈ nmL := by decide +kernel
theorem nm2 : ("minus" : Str) ∈ nmL := by decide +kernel
theorem nm3 : ("length" : Str) ∉ nmL := by decide +kernel
theorem nm4 : ("two" : Str) ∉ nmL := by decide +kernel
theorem kW_ne : ("int" : Str) ≠ "text" := by decide +kernel
section
variable {P : Program} {w : World} {K : PySem.W.Frag} {mg : Str → Option Value} {base : Heap}
def spTwoK : Sp := fun vs H Q _ => ∃ (op : Str) (a b : Option Bool), vs = [.str op, kV' a, kV' b] ∧ (op ∈ cmps ∨ op ∈ ops2) ∧ Q (kV' (twoK op a b)) H
theorem sc_twoK : FnScope ["op", "one", "other"] ["op", "one", "other"] (defScope s_two) := ⟨rfl, rfl, rfl, by decide +kernel, rfl, by decide +kernel, by decide +kernel⟩
theorem ok_twoK {f : Addr} {fd : FuncData} (F : Fun K "kind_of_two" "kind_of_two" s_two f fd) (L : Lv K w mg) : FnOk P w K mg base CX0 1 f fd ["op", "one", "other"] spTwoK := by
  refine F.ok sc_twoK (fun vs H Q E h => ?_) (fun cdv A outer s H vs Q E hr h => ?_)
  · obtain ⟨op, a, b, rfl, _⟩ := h
    rfl
  obtain ⟨op, a, b, rfl, ho, q⟩ := h
  obtain ⟨dl, m_LV, lc, ls⟩ := L.ex
  obtain ⟨t4, m_C⟩ := L.four
  refine ⟨_, pss_cons (ps_if (PW.pt (pw_or (pt_cmpR op_isN (pv 1) pe_non (nomark _)) (pw_or1 (pt_cmpR op_ne (pv 1) (pv 2) (nomark _))))) (pss_one (ps_ret pe_non)) (pss_nil))
      (pss_cons (ps_if (PW.pt (pw_and (pt_cmpR op_eq (pv 1) pe_str (nomark _)) (pw_and1 (pt_cmpR op_ne (pe_ix ix_kdict (pe_glob (v := .ref dl) rfl m_LV rfl) (pv 0) (fun _ _ => rfl)) (pe_glob (v := .int 4) rfl m_C ⟨_, rfl⟩) (nomark _))))) (pss_one (ps_ret pe_non)) (pss_nil))
      (pss_one (ps_ret pe_str))), ?_⟩
  cases a with
  | none =>
    exact ⟨_, rfl, rfl, _, rfl, iteT (by cases b <;> exact q)⟩
  | some a =>
    refine ⟨_, rfl, rfl, _, rfl, iteF ?_⟩
    cases b with
    | none => exact ⟨_, rfl, _, rfl, rfl, _, rfl, iteT q⟩
    | some b =>
      change Q (kV' (if a = b then (if a = true ∨ op ∈ cmps then some true else none) else none)) H at q
      refine ⟨_, rfl, _, rfl, rfl, _, rfl, ite2 (fun c => ?_) (fun c => ?_)⟩
      · have : ¬ a = b := fun z => by
          rw [z] at c
          simp at c
        rw [if_neg this] at q
        exact q
      have hab : a = b := by
        by_cases z : a = b
        · exact z
        · exfalso
          apply c
          cases a <;> cases b <;> first | exact absurd rfl z | decide +kernel
      rw [if_pos hab] at q
      cases a with
      | true =>
        rw [if_pos (.inl rfl)] at q
        exact ⟨_, rfl, rfl, _, rfl, iteF (iteF q)⟩
      | false =>
        refine ⟨_, rfl, rfl, _, rfl, iteT ?_⟩
        rcases ho with ho | ho
        · rw [if_pos (.inr ho)] at q
          exact ⟨_, rfl, dl, op, _, rfl, rfl, lc op ho, rfl, _, rfl, iteF q⟩
        · obtain ⟨l, l4, hl⟩ := ls op ho
          rw [if_neg (fun z => by
            rcases z with z | z
            · cases z
            · exact ops2_no op ho z)] at q
          refine ⟨_, rfl, dl, op, _, rfl, rfl, hl, rfl, _, rfl, ?_⟩
          rw [decide_eq_false (show ¬ V.int l = V.int 4 from fun z => l4 (by injection z))]
          exact iteT q
/-! ### kind_of -/
def KdAt (H : Hp) (kd : Addr) (kf : Str → Option Bool) : Prop := ∃ kvs : List (L2.Key × V), H kd = some (.dK kvs) ∧ ∀ x, valV kvs (.inr x) = (kf x).map fun b => V.str (kW b)
theorem KdAt.keep {H H' : Hp} {kd : Addr} {kf : Str → Option Bool} (k : KdAt H kd kf) (h : Same H H') : KdAt H' kd kf := let ⟨kvs, e, g⟩ := k; ⟨kvs, h _ _ e, g⟩
def spKind (m : Nat) : Sp := fun vs H Q _ => ∃ (v : V) (kd : Addr) (kf : Str → Option Bool) (e : Ex), vs = [v, .ref kd] ∧ ExAt H v e ∧ OpsOk e ∧ e.dep ≤ m ∧ KdAt H kd kf ∧ Q (kV' (kindE kf e)) H
abbrev N_kind : List Str := ["told", "kinds", "what", "wanted"]
theorem sc_kind : FnScope N_kind ["told", "kinds"] (defScope s_kind) := ⟨rfl, rfl, rfl, by decide +kernel, rfl, by decide +kernel, by decide +kernel⟩
theorem ok_kind {f : Addr} {fd : FuncData} {m : Nat} (F : Fun K "kind_of" "kind_of" s_kind f fd) (G_two : Ready P w K mg base 1 "kind_of_two" ["op", "one", "other"] spTwoK) (G_kind : Ready P w K mg base (m + 1) "kind_of" ["told", "kinds"] (spKind m)) : FnOk P w K mg base CX0 (m + 2) f fd ["told", "kinds"] (spKind (m + 1)) := by
  refine F.ok sc_kind (fun vs H Q E h => ?_) (fun cdv A outer s H vs Q E hr h => ?_)
  · obtain ⟨v, kd, kf, e, rfl, _⟩ := h
    rfl
  obtain ⟨v, kd, kf, e, rfl, hv, ho, hd, hk, q⟩ := h
  have nd := sc_kind.nd
  have hr1 : Room 1 _ := hr.mono (by omega)
  have hu64 : _ + 64 < cLine := hr.units
  have hu1 : _ + 1 < cLine := Nat.lt_of_le_of_lt (Nat.add_le_add_left (by decide : 1 ≤ 64) _) hu64
  refine ⟨_, pss_cons (ps_set (i := 2) nd rfl (.inl rfl) (pe_ix ix_tup (pv 0) pe_int (fun _ _ => rfl)))
      (pss_cons (ps_if (pt_cmpR op_eq (pv 2) pe_str (nomark _)) (pss_one (ps_ret pe_str)) (pss_nil))
      (pss_cons (ps_if (pt_cmpR op_eq (pv 2) pe_str (nomark _)) (pss_one (ps_ret pe_str)) (pss_nil))
      (pss_cons (ps_if (pt_cmpR op_eq (pv 2) pe_str (nomark _)) (pss_one (ps_ret (pe_dget1 hu1 (pv 1) (pe_ix ix_tup (pv 0) pe_int (fun _ _ => rfl)) ⟨rfl, rfl, rfl, rfl⟩))) (pss_nil))
      (pss_cons (ps_if (pt_cmpR op_eq (pv 2) pe_str (nomark _)) (pss_one (ps_ret (pe_fn (G_two) hr1 (pa_cons (pe_ix ix_tup (pv 0) pe_int (fun _ _ => rfl)) (pa_cons (pe_fn (G_kind) hr (pa_cons (pe_ix ix_tup (pv 0) pe_int (fun _ _ => rfl)) (pa_cons (pv 1) pa_nil))) (pa_cons (pe_fn (G_kind) hr (pa_cons (pe_ix ix_tup (pv 0) pe_int (fun _ _ => rfl)) (pa_cons (pv 1) pa_nil))) pa_nil)))))) (pss_nil))
      (pss_cons (ps_set (i := 3) nd rfl (.inl rfl) pe_str)
      (pss_cons (ps_if (pt_cmpR op_eq (pv 2) pe_str (nomark _)) (pss_one (ps_set (i := 3) nd rfl (.inl rfl) pe_str)) (pss_nil))
      (pss_cons (ps_if (pt_cmpR op_ne (pe_fn (G_kind) hr (pa_cons (pe_ix ix_tup (pv 0) pe_int (fun _ _ => rfl)) (pa_cons (pv 1) pa_nil))) (pv 3) (nomark _)) (pss_one (ps_ret pe_non)) (pss_nil))
      (pss_one (ps_ret pe_str))))))))), ?_⟩
  cases e with
  | num i =>
    obtain ⟨a, rfl, ha⟩ := hv
    exact ⟨_, rfl, a, _, 0, _, rfl, rfl, SqT.of ha, rfl, _, rfl, rfl, _, rfl, iteT q⟩
  | quo z =>
    obtain ⟨a, rfl, ha⟩ := hv
    exact ⟨_, rfl, a, _, 0, _, rfl, rfl, SqT.of ha, rfl, _, rfl, rfl, _, rfl, iteF ⟨_, rfl, rfl, _, rfl, iteT q⟩⟩
  | col x =>
    obtain ⟨a, rfl, ha⟩ := hv
    obtain ⟨kvs, ek, gk⟩ := hk
    refine ⟨_, rfl, a, _, 0, _, rfl, rfl, SqT.of ha, rfl, _, rfl, rfl, _, rfl, iteF ⟨_, rfl, rfl, _, rfl, iteF ⟨_, rfl, rfl, _, rfl, iteT ?_⟩⟩⟩
    refine ⟨_, rfl, kd, rfl, .inl ⟨_, .inl ek⟩, _, rfl, a, _, 1, _, rfl, rfl, SqT.of ha, rfl, _, DGet.k (k := .inr x) ek, ?_⟩
    rw [gk x]
    change Q (kV' (kf x)) H at q
    cases h : kf x with
    | none =>
      rw [h] at q
      exact q
    | some b =>
      rw [h] at q
      exact q
  | two op x y =>
    obtain ⟨a, vx, vy, rfl, ha, hx, hy⟩ := hv
    have dx : x.dep ≤ m := by
      have h1 : max x.dep y.dep + 1 ≤ m + 1 := hd
      omega
    have dy : y.dep ≤ m := by
      have h1 : max x.dep y.dep + 1 ≤ m + 1 := hd
      omega
    refine ⟨_, rfl, a, _, 0, _, rfl, rfl, SqT.of ha, rfl, _, rfl, rfl, _, rfl, iteF ⟨_, rfl, rfl, _, rfl, iteF ⟨_, rfl, rfl, _, rfl, iteF ⟨_, rfl, rfl, _, rfl, iteT ?_⟩⟩⟩⟩
    exact ⟨_, rfl, a, _, 1, _, rfl, rfl, SqT.of ha, rfl, _, rfl, a, _, 2, _, rfl, rfl, SqT.of ha, rfl, _, rfl, vx, kd, kf, x, rfl, hx, ho.2.1, dx, hk, _, rfl, a, _, 3, _, rfl, rfl, SqT.of ha, rfl, _, rfl, vy, kd, kf, y, rfl, hy, ho.2.2, dy, hk, op, _, _, rfl, ho.1, q⟩
  | nt x =>
    obtain ⟨a, vx, rfl, ha, hx⟩ := hv
    refine ⟨_, rfl, a, _, 0, _, rfl, rfl, SqT.of ha, rfl, _, rfl, rfl, _, rfl, iteF ⟨_, rfl, rfl, _, rfl, iteF ⟨_, rfl, rfl, _, rfl, iteF ⟨_, rfl, rfl, _, rfl, iteF ⟨_, rfl, rfl, _, rfl, iteF ?_⟩⟩⟩⟩⟩
    refine ⟨_, rfl, a, _, 1, _, rfl, rfl, SqT.of ha, rfl, _, rfl, vx, kd, kf, x, rfl, hx, ho, Nat.le_of_succ_le_succ hd, hk, _, rfl, ?_⟩
    change Q (kV' (oneK true (kindE kf x))) H at q
    generalize kindE kf x = o at q ⊢
    rcases o with _ | _ | _ <;> exact ⟨rfl, _, rfl, q⟩
  | mn x =>
    obtain ⟨a, vx, rfl, ha, hx⟩ := hv
    refine ⟨_, rfl, a, _, 0, _, rfl, rfl, SqT.of ha, rfl, _, rfl, rfl, _, rfl, iteF ⟨_, rfl, rfl, _, rfl, iteF ⟨_, rfl, rfl, _, rfl, iteF ⟨_, rfl, rfl, _, rfl, iteF ⟨_, rfl, rfl, _, rfl, iteF ?_⟩⟩⟩⟩⟩
    refine ⟨_, rfl, a, _, 1, _, rfl, rfl, SqT.of ha, rfl, _, rfl, vx, kd, kf, x, rfl, hx, ho, Nat.le_of_succ_le_succ hd, hk, _, rfl, ?_⟩
    change Q (kV' (oneK true (kindE kf x))) H at q
    generalize kindE kf x = o at q ⊢
    rcases o with _ | _ | _ <;> exact ⟨rfl, _, rfl, q⟩
  | ln x =>
    obtain ⟨a, vx, rfl, ha, hx⟩ := hv
    refine ⟨_, rfl, a, _, 0, _, rfl, rfl, SqT.of ha, rfl, _, rfl, rfl, _, rfl, iteF ⟨_, rfl, rfl, _, rfl, iteF ⟨_, rfl, rfl, _, rfl, iteF ⟨_, rfl, rfl, _, rfl, iteF ⟨_, rfl, rfl, _, rfl, iteT ?_⟩⟩⟩⟩⟩
    refine ⟨_, rfl, a, _, 1, _, rfl, rfl, SqT.of ha, rfl, _, rfl, vx, kd, kf, x, rfl, hx, ho, Nat.le_of_succ_le_succ hd, hk, _, rfl, ?_⟩
    change Q (kV' (oneK false (kindE kf x))) H at q
    generalize kindE kf x = o at q ⊢
    rcases o with _ | _ | _ <;> exact ⟨rfl, _, rfl, q⟩
/-! ### _law_kind -/
def spLKind (m : Nat) : Sp := fun vs H Q _ => ∃ (v : V) (kd : Addr) (kf : Str → Option Bool) (e : Ex), vs = [v, .ref kd] ∧ ExAt H v e ∧ OpsOk e ∧ e.dep ≤ m ∧ KdAt H kd kf ∧ ∀ H', Same H H' → Q (kV' (kindE kf e)) H'
abbrev N_law_kind : List Str := ["told", "columns", "word", "one", "other"]
theorem sc_lkind : FnScope N_law_kind ["told", "columns"] (defScope s_law_kind) := ⟨rfl, rfl, rfl, by decide +kernel, rfl, by decide +kernel, by decide +kernel⟩
theorem ok_lkind {f : Addr} {fd : FuncData} {m : Nat} (F : Fun K "_law_kind" "_law_kind" s_law_kind f fd) (G_kind : Ready P w K mg base (m + 1) "_law_kind" ["told", "columns"] (spLKind m)) : FnOk P w K mg base CX0 (m + 2) f fd ["told", "columns"] (spLKind (m + 1)) := by
  refine F.ok sc_lkind (fun vs H Q E h => ?_) (fun cdv A outer s H vs Q E hr h => ?_)
  · obtain ⟨v, kd, kf, e, rfl, _⟩ := h
    rfl
  obtain ⟨v, kd, kf, e, rfl, hv, ho, hd, hk, q⟩ := h
  have nd := sc_lkind.nd
  have hu64 : _ + 64 < cLine := hr.units
  have hu1 : _ + 1 < cLine := Nat.lt_of_le_of_lt (Nat.add_le_add_left (by decide : 1 ≤ 64) _) hu64
  refine ⟨_, pss_cons (ps_set (i := 2) nd rfl (.inl rfl) (pe_ix ix_tup (pv 0) pe_int (fun _ _ => rfl)))
      (pss_cons (ps_if (pt_cmpR op_in_seq (pv 2) (pe_tup (pa_cons pe_str (pa_cons pe_str pa_nil))) (by with_unfolding_all rfl)) (pss_one (ps_ret (pe_ifExp (pt_cmpR op_eq (pv 2) pe_str (nomark _)) pe_str pe_str))) (pss_nil))
      (pss_cons (ps_if (pt_cmpR op_eq (pv 2) pe_str (nomark _)) (pss_one (ps_ret (pe_dget1 hu1 (pv 1) (pe_ix ix_tup (pv 0) pe_int (fun _ _ => rfl)) ⟨rfl, rfl, rfl, rfl⟩))) (pss_nil))
      (pss_cons (ps_if (pt_cmpR op_in_seq (pv 2) (pe_tup (pa_cons pe_str (pa_cons pe_str pa_nil))) (by with_unfolding_all rfl)) (pss_one (ps_ret (pe_ifExp (pt_cmpR op_eq (pe_fn (G_kind) hr (pa_cons (pe_ix ix_tup (pv 0) pe_int (fun _ _ => rfl)) (pa_cons (pv 1) pa_nil))) pe_str (nomark _)) pe_str pe_non))) (pss_nil))
      (pss_cons (ps_if (pt_cmpR op_eq (pv 2) pe_str (nomark _)) (pss_one (ps_ret (pe_ifExp (pt_cmpR op_eq (pe_fn (G_kind) hr (pa_cons (pe_ix ix_tup (pv 0) pe_int (fun _ _ => rfl)) (pa_cons (pv 1) pa_nil))) pe_str (nomark _)) pe_str pe_non))) (pss_nil))
      (pss_cons (ps_par (i := 3) (j := 4) rfl nd rfl rfl (by decide) rfl rfl (pa_cons (pe_fn (G_kind) hr (pa_cons (pe_ix ix_tup (pv 0) pe_int (fun _ _ => rfl)) (pa_cons (pv 1) pa_nil))) (pa_cons (pe_fn (G_kind) hr (pa_cons (pe_ix ix_tup (pv 0) pe_int (fun _ _ => rfl)) (pa_cons (pv 1) pa_nil))) pa_nil)) rfl)
      (pss_cons (ps_if (PW.pt (pw_or (pt_cmpR op_isN (pv 3) pe_non (nomark _)) (pw_or1 (pt_cmpR op_ne (pv 3) (pv 4) (nomark _))))) (pss_one (ps_ret pe_non)) (pss_nil))
      (pss_one (ps_ret (pe_ifExp (PW.pt (pw_or (pt_cmpR op_eq (pv 3) pe_str (nomark _)) (pw_or1 (pt_cmpR op_in_seq (pe_ix ix_tup (pv 0) pe_int (fun _ _ => rfl)) (pe_tup (pa_cons pe_str (pa_cons pe_str (pa_cons pe_str (pa_cons pe_str (pa_cons pe_str (pa_cons pe_str pa_nil))))))) (by with_unfolding_all rfl))))) pe_str pe_non))))))))), ?_⟩
  have z2 : 2 ≤ sizeLine := by decide
  cases e with
  | num i =>
    obtain ⟨a, rfl, ha⟩ := hv
    refine ⟨_, rfl, a, _, 0, _, rfl, rfl, SqT.of ha, rfl, ?_⟩
    refine ⟨_, rfl, z2, fun t1 ht1 => ⟨t1, nqL.map V.str, rfl, .inr (SqT.of upd_same), rfl, flat_strs _, _, rfl, in_yes nq1 ?_⟩⟩
    have s1 := same_upd (o := .tup (nqL.map V.str)) ht1
    exact ⟨_, rfl, rfl, _, rfl, iteT (q _ s1)⟩
  | quo z =>
    obtain ⟨a, rfl, ha⟩ := hv
    refine ⟨_, rfl, a, _, 0, _, rfl, rfl, SqT.of ha, rfl, ?_⟩
    refine ⟨_, rfl, z2, fun t1 ht1 => ⟨t1, nqL.map V.str, rfl, .inr (SqT.of upd_same), rfl, flat_strs _, _, rfl, in_yes nq2 ?_⟩⟩
    have s1 := same_upd (o := .tup (nqL.map V.str)) ht1
    exact ⟨_, rfl, rfl, _, rfl, iteF (q _ s1)⟩
  | col x =>
    obtain ⟨a, rfl, ha⟩ := hv
    refine ⟨_, rfl, a, _, 0, _, rfl, rfl, SqT.of ha, rfl, ?_⟩
    refine ⟨_, rfl, z2, fun t1 ht1 => ⟨t1, nqL.map V.str, rfl, .inr (SqT.of upd_same), rfl, flat_strs _, _, rfl, in_no nq3 ?_⟩⟩
    have s1 := same_upd (o := .tup (nqL.map V.str)) ht1
    obtain ⟨kvs, ek, gk⟩ := hk.keep s1
    refine ⟨_, rfl, rfl, _, rfl, iteT ?_⟩
    refine ⟨_, rfl, kd, rfl, .inl ⟨_, .inl ek⟩, _, rfl, a, _, 1, _, rfl, rfl, SqT.of (s1 _ _ ha), rfl, _, DGet.k (k := .inr x) ek, ?_⟩
    rw [gk x]
    replace q := q _ s1
    change Q (kV' (kf x)) _ at q
    cases h : kf x with
    | none =>
      rw [h] at q
      exact q
    | some b =>
      rw [h] at q
      exact q
  | nt x =>
    obtain ⟨a, vx, rfl, ha, hx⟩ := hv
    refine ⟨_, rfl, a, _, 0, _, rfl, rfl, SqT.of ha, rfl, ?_⟩
    refine ⟨_, rfl, z2, fun t1 ht1 => ⟨t1, nqL.map V.str, rfl, .inr (SqT.of upd_same), rfl, flat_strs _, _, rfl, in_no nq4 ?_⟩⟩
    have s1 := same_upd (o := .tup (nqL.map V.str)) ht1
    refine ⟨_, rfl, rfl, _, rfl, iteF ?_⟩
    refine ⟨_, rfl, z2, fun t2 ht2 => ⟨t2, nmL.map V.str, rfl, .inr (SqT.of upd_same), rfl, flat_strs _, _, rfl, in_yes nm1 ?_⟩⟩
    have s2 := s1.trans (same_upd (o := .tup (nmL.map V.str)) ht2)
    refine ⟨_, rfl, a, _, 1, _, rfl, rfl, SqT.of (s2 _ _ ha), rfl, _, rfl, vx, kd, kf, x, rfl, hx.keep (same_t s2), ho, Nat.le_of_succ_le_succ hd, hk.keep s2, fun H' s3 => ?_⟩
    replace q := q H' (s2.trans s3)
    change Q (kV' (oneK true (kindE kf x))) H' at q
    generalize kindE kf x = o at q ⊢
    rcases o with _ | _ | _ <;> exact ⟨rfl, _, rfl, q⟩
  | mn x =>
    obtain ⟨a, vx, rfl, ha, hx⟩ := hv
    refine ⟨_, rfl, a, _, 0, _, rfl, rfl, SqT.of ha, rfl, ?_⟩
    refine ⟨_, rfl, z2, fun t1 ht1 => ⟨t1, nqL.map V.str, rfl, .inr (SqT.of upd_same), rfl, flat_strs _, _, rfl, in_no nq5 ?_⟩⟩
    have s1 := same_upd (o := .tup (nqL.map V.str)) ht1
    refine ⟨_, rfl, rfl, _, rfl, iteF ?_⟩
    refine ⟨_, rfl, z2, fun t2 ht2 => ⟨t2, nmL.map V.str, rfl, .inr (SqT.of upd_same), rfl, flat_strs _, _, rfl, in_yes nm2 ?_⟩⟩
    have s2 := s1.trans (same_upd (o := .tup (nmL.map V.str)) ht2)
    refine ⟨_, rfl, a, _, 1, _, rfl, rfl, SqT.of (s2 _ _ ha), rfl, _, rfl, vx, kd, kf, x, rfl, hx.keep (same_t s2), ho, Nat.le_of_succ_le_succ hd, hk.keep s2, fun H' s3 => ?_⟩
    replace q := q H' (s2.trans s3)
    change Q (kV' (oneK true (kindE kf x))) H' at q
    generalize kindE kf x = o at q ⊢
    rcases o with _ | _ | _ <;> exact ⟨rfl, _, rfl, q⟩
  | ln x =>
    obtain ⟨a, vx, rfl, ha, hx⟩ := hv
    refine ⟨_, rfl, a, _, 0, _, rfl, rfl, SqT.of ha, rfl, ?_⟩
    refine ⟨_, rfl, z2, fun t1 ht1 => ⟨t1, nqL.map V.str, rfl, .inr (SqT.of upd_same), rfl, flat_strs _, _, rfl, in_no nq6 ?_⟩⟩
    have s1 := same_upd (o := .tup (nqL.map V.str)) ht1
    refine ⟨_, rfl, rfl, _, rfl, iteF ?_⟩
    refine ⟨_, rfl, z2, fun t2 ht2 => ⟨t2, nmL.map V.str, rfl, .inr (SqT.of upd_same), rfl, flat_strs _, _, rfl, in_no nm3 ?_⟩⟩
    have s2 := s1.trans (same_upd (o := .tup (nmL.map V.str)) ht2)
    refine ⟨_, rfl, rfl, _, rfl, iteT ?_⟩
    refine ⟨_, rfl, a, _, 1, _, rfl, rfl, SqT.of (s2 _ _ ha), rfl, _, rfl, vx, kd, kf, x, rfl, hx.keep (same_t s2), ho, Nat.le_of_succ_le_succ hd, hk.keep s2, fun H' s3 => ?_⟩
    replace q := q H' (s2.trans s3)
    change Q (kV' (oneK false (kindE kf x))) H' at q
    generalize kindE kf x = o at q ⊢
    rcases o with _ | _ | _ <;> exact ⟨rfl, _, rfl, q⟩
  | two op x y =>
    obtain ⟨a, vx, vy, rfl, ha, hx, hy⟩ := hv
    have dx : x.dep ≤ m := by
      have h1 : max x.dep y.dep + 1 ≤ m + 1 := hd
      omega
    have dy : y.dep ≤ m := by
      have h1 : max x.dep y.dep + 1 ≤ m + 1 := hd
      omega
    refine ⟨_, rfl, a, _, 0, _, rfl, rfl, SqT.of ha, rfl, ?_⟩
    refine ⟨_, rfl, z2, fun t1 ht1 => ⟨t1, nqL.map V.str, rfl, .inr (SqT.of upd_same), rfl, flat_strs _, _, rfl, in_no nq7 ?_⟩⟩
    have s1 := same_upd (o := .tup (nqL.map V.str)) ht1
    refine ⟨_, rfl, rfl, _, rfl, iteF ?_⟩
    refine ⟨_, rfl, z2, fun t2 ht2 => ⟨t2, nmL.map V.str, rfl, .inr (SqT.of upd_same), rfl, flat_strs _, _, rfl, in_no nm4 ?_⟩⟩
    have s2 := s1.trans (same_upd (o := .tup (nmL.map V.str)) ht2)
    refine ⟨_, rfl, rfl, _, rfl, iteF ?_⟩
    refine ⟨_, rfl, a, _, 2, _, rfl, rfl, SqT.of (s2 _ _ ha), rfl, _, rfl, vx, kd, kf, x, rfl, hx.keep (same_t s2), ho.2.1, dx, hk.keep s2, fun H3 s3 => ?_⟩
    replace s3 := s2.trans s3
    refine ⟨_, rfl, a, _, 3, _, rfl, rfl, SqT.of (s3 _ _ ha), rfl, _, rfl, vy, kd, kf, y, rfl, hy.keep (same_t s3), ho.2.2, dy, hk.keep s3, fun H4 s4 => ⟨_, _, rfl, ?_⟩⟩
    replace s4 := s3.trans s4
    have oo := ho.1
    replace q : ∀ H', Same H H' → Q (kV' (twoK op (kindE kf x) (kindE kf y))) H' := q
    generalize kindE kf x = o1 at q ⊢
    generalize kindE kf y = o2 at q ⊢
    cases o1 with
    | none => exact ⟨_, rfl, rfl, _, rfl, iteT (by cases o2 <;> exact q _ s4)⟩
    | some b1 =>
      refine ⟨_, rfl, rfl, _, rfl, iteF ?_⟩
      cases o2 with
      | none => exact ⟨_, rfl, _, rfl, rfl, _, rfl, iteT (q _ s4)⟩
      | some b2 =>
        replace q : ∀ H', Same H H' → Q (kV' (if b1 = b2 then (if b1 = true ∨ op ∈ cmps then some true else none) else none)) H' := q
        refine ⟨_, rfl, _, rfl, rfl, _, rfl, ite2 (fun c => ?_) (fun c => ?_)⟩
        · have : ¬ b1 = b2 := fun z => by
            rw [z] at c
            simp at c
          rw [if_neg this] at q
          exact q _ s4
        have hab : b1 = b2 := by
          by_cases z : b1 = b2
          · exact z
          · exfalso
            apply c
            cases b1 <;> cases b2 <;> first | exact absurd rfl z | decide +kernel
        rw [if_pos hab] at q
        cases b1 with
        | true =>
          rw [if_pos (.inl rfl)] at q
          exact ⟨_, rfl, rfl, _, rfl, iteT (iteT (q _ s4))⟩
        | false =>
          refine ⟨_, rfl, rfl, _, rfl, iteF ?_⟩
          refine ⟨_, rfl, a, _, 1, _, rfl, rfl, SqT.of (s4 _ _ ha), rfl, (by show 6 ≤ sizeLine; decide), fun t5 ht5 => ⟨t5, cmps.map V.str, rfl, .inr (SqT.of upd_same), rfl, flat_strs _, _, rfl, ?_⟩⟩
          have s5 := s4.trans (same_upd (o := .tup (cmps.map V.str)) ht5)
          refine in_strs (fun hin => ?_) (fun hin => ?_)
          · rw [if_pos (.inr hin)] at q
            exact q _ s5
          · rw [if_neg (fun z => by
              rcases z with z | z
              · cases z
              · exact hin z)] at q
            exact q _ s5
end
end Kx

namespace PySem
namespace BadY
open PySem.W PySem.Calls PyProof.Rows PySem.HandSPX
/-! ### self.thing = v on an exception that has no dict yet -/
abbrev exT : List Value := [.type "Exception", .type "BaseException", .type "object"]
section
open Builtin Builtin.ObjectAttr
variable {prog : Program} {w : World} {A : Around} {R : Result → Shared → Prop} {hp : Heap} {g : Array GenState} {d : Drawn} {t : Nat} {os : OsState}
theorem osa_first {K : Frag} {name : Str} {tk : Tok} {v : Value} {x C : Addr} {fv : Array Value} {cd : ClassData} {bm : List Value}
    (X : K.In hp) (ho : hp.get? x = some { cls := .ref C, data := .fields fv }) (hc : clsIn K C = some cd) (ht : excTail exT bm = true) (hm : cd.mro = .ref C :: bm) (hh : cd.hasDict = true) (hn : findIn K (.ref C) name = some none)
    (q : ∀ h' tk' dx, (∀ b o, b ≠ x → hp.get? b = some o → h'.get? b = some o) → hp.objs.size ≤ dx → dx ≠ x → h'.get? x = some { cls := .ref C, dict := some dx, data := .fields fv } → h'.Ns1 dx (fun y => if y = name then some v else none) → R (.ok (.ret .none)) ⟨h', g, d, tk', os⟩) :
    codeAny (model prog w) A (.call (.builtin "object.__setattr__") ⟨[.ref x, .str name tk, v], []⟩) R ⟨hp, g, d, t, os⟩ := by
  have over : excOver K C exT = true := by
    unfold excOver
    rw [hc]
    show (match cd.mro with | .ref C' :: bm => C' == C && excTail exT bm | _ => false) = true
    rw [hm]
    show (C == C && excTail exT bm) = true
    rw [ht, beq_self_eq_true] <;> rfl
  have free : takerIn K C name = some none := by
    unfold takerIn
    rw [hn] <;> rfl
  have apart : hp.objs.size ≠ x := fun z => absurd (Heap.lt_size ho) (by rw [z]; exact Nat.lt_irrefl _)
  refine osa_openX (s := ⟨hp, g, d, t, os⟩) F.store_Exception X (ox := { cls := .ref C, data := .fields fv }) (od := none) ⟨ho, rfl, rfl, trivial⟩ over free fun b => ?_
  have look : Looks (model prog w) hp (classData C) cd := looks_clsIn X hc
  obtain ⟨c1, c2, c3, c4, c5, c6, c7, c8, c9, c10, c11⟩ := cd
  dsimp only at hh
  subst hh
  show wpAny _ _ (storeInOwnDict (.ref x) (.ref C) (.str name tk) name v b) _ _ _
  unfold storeInOwnDict ownDictForStores
  repeat (first | with_reducible refine look.at ?_ | with_reducible refine wpAny_loadPart_at ho ?_ | with_reducible refine store_in_new ?_ ?_ | wp_step)
  · exact ⟨_, #[], _, (Heap.get?_update_ne _ _ _ _ apart).trans (Heap.get?_push_at rfl rfl), rfl, (by intro e he; simp at he), (fun _ => rfl)⟩
  intro h2 tk2 n2 sb
  have mid : (hp.push { cls := .type "dict", data := .dict #[] }).get? x = some { cls := .ref C, data := .fields fv } := Heap.get?_push_of_some _ ho
  refine q h2 tk2 _ (fun c o hc e => ?_) (Nat.le_refl _) apart ((sb.2 x apart.symm).trans (Heap.get?_update_self _ mid rfl)) n2
  have far : c ≠ hp.objs.size := fun z => absurd (Heap.lt_size e) (by rw [z]; exact Nat.lt_irrefl _)
  rw [sb.2 c far, Heap.get?_update_ne _ _ _ _ hc]
  exact Heap.get?_push_of_some _ e
theorem osa_second {K : Frag} {name : Str} {tk : Tok} {v : Value} {x C dx : Addr} {fv : Array Value} {cd : ClassData} {bm : List Value} {m0 : Str → Option Value} {nl : List Str}
    (X : K.In hp) (ho : hp.get? x = some { cls := .ref C, dict := some dx, data := .fields fv }) (hns : hp.Ns1 dx m0) (hw : Within m0 nl) (hz : nl.length ≤ 1000) (hc : clsIn K C = some cd) (ht : excTail exT bm = true) (hm : cd.mro = .ref C :: bm) (hh : cd.hasDict = true) (hn : findIn K (.ref C) name = some none)
    (q : ∀ h' tk', (∀ b o, b ≠ dx → hp.get? b = some o → h'.get? b = some o) → h'.Ns1 dx (fun y => if y = name then some v else m0 y) → R (.ok (.ret .none)) ⟨h', g, d, tk', os⟩) :
    codeAny (model prog w) A (.call (.builtin "object.__setattr__") ⟨[.ref x, .str name tk, v], []⟩) R ⟨hp, g, d, t, os⟩ := by
  have over : excOver K C exT = true := by
    unfold excOver
    rw [hc]
    show (match cd.mro with | .ref C' :: bm => C' == C && excTail exT bm | _ => false) = true
    rw [hm]
    show (C == C && excTail exT bm) = true
    rw [ht, beq_self_eq_true] <;> rfl
  have free : takerIn K C name = some none := by
    unfold takerIn
    rw [hn] <;> rfl
  obtain ⟨oD, esD, epD, hoD, hdD, _⟩ := hns.count hw
  refine osa_openX (s := ⟨hp, g, d, t, os⟩) F.store_Exception X (ox := { cls := .ref C, dict := some dx, data := .fields fv }) (od := some oD) ⟨ho, rfl, rfl, hoD⟩ over free fun b => ?_
  have look : Looks (model prog w) hp (classData C) cd := looks_clsIn X hc
  obtain ⟨c1, c2, c3, c4, c5, c6, c7, c8, c9, c10, c11⟩ := cd
  dsimp only at hh
  subst hh
  show wpAny _ _ (storeInOwnDict (.ref x) (.ref C) (.str name tk) name v b) _ _ _
  unfold storeInOwnDict ownDictForStores
  repeat (first | with_reducible refine OEX.store_in_old hns hw hz ?_ | with_reducible refine wpAny_loadPart_at ho ?_ | with_reducible refine look.at ?_ | wp_step)
  intro h2 tk2 n2 sb
  exact q h2 tk2 (fun b o hb e => (sb.2 b hb).trans e) n2
end
/-! ### the text of __init__ -/
def iA (p1 p2 p3 : Pos) : Arguments := { posonlyargs := [], args := [{ arg := "self", annotation := none, pos := p1 }, { arg := "name", annotation := none, pos := p2 }, { arg := "why", annotation := none, pos := p3 }], vararg := none, kwonlyargs := [], kw_defaults := [], kwarg := none, defaults := [] }
def iB (q1 q2 q3 q4 q5 q6 q7 q8 : Pos) : List Stmt := [.Assign [.Attribute (.Name "self" q1) "name" q2] (.Name "name" q3) q4, .Assign [.Attribute (.Name "self" q5) "why" q6] (.Name "why" q7) q8]
def iS : Scope := { kind := .function, names := [(PySem.Str.ofString "self", .local), (PySem.Str.ofString "name", .local), (PySem.Str.ofString "why", .local)], isGenerator := false, isCoroutine := false, more := [] }
/-- what the written part says of BadThing, at C, and of its __init__, at fI -/
structure BadTxt (K : Frag) (mg : Str → Option Value) (C fI : Addr) : Prop where
  gC : mg "BadJob" = some (.ref C)
  cls : ∃ nm q N bs bm sn sub ab col dd k0 k1 k2 k3 k5, K.lookup C = some (excClassObj nm q C N bs bm true sn sub ab col dd k0 k1 k2 k3 k5 "Exception.__new__") ∧ excTail exT bm = true
  sa : findIn K (.ref C) "__setattr__" = some (some (.builtin "object.__setattr__"))
  ga : findIn K (.ref C) "__getattribute__" = some (some (.builtin "BaseException.__getattribute__"))
  gg : findIn K (.ref C) "__getattr__" = some none
  noN : findIn K (.ref C) "name" = some none
  noW : findIn K (.ref C) "why" = some none
  iC : findIn K (.ref C) "__init__" = some (some (.ref fI))
  tC : typeIn K (.ref fI) = some (.type "function")
  kC : keepIn K (.ref C) = true
  exC : subIn K (.ref C) (.type "BaseException") = some true
  tyC : typeIn K (.ref C) = some (.type "type")
  hdC : hasDictIn K C = true
  te : exmOne K (.ref C) (.ref C) = some true
  fn : ∃ (oc : Value) (od : Option Addr) (doc pm : Value) (an : Option Addr) (cdv ct : Value) (osl : Array (Option Value)) (p1 p2 p3 q1 q2 q3 q4 q5 q6 q7 q8 : Pos),
    K.lookup fI = some ⟨oc, od, .func (fnOf "__init__" "BadJob.__init__" (iA p1 p2 p3) (iB q1 q2 q3 q4 q5 q6 q7 q8) iS .none .none doc pm an cdv ct), osl⟩ ∧ codeIn K cdv "BadJob.__init__" = true
theorem two_size (v u : Value) : [v, u].length ≤ sizeLine := by
  rw [sizeLine_eq]
  exact (by decide : 2 ≤ 16777216)
theorem kept_but {K : Frag} {h h' : Heap} {x : Addr} (X : K.In h) (hx : K.lookup x = none) (k : ∀ b o, b ≠ x → h.get? b = some o → h'.get? b = some o) : K.In h' := fun a o e =>
  k a o (fun z => by rw [z, hx] at e; cases e) (X a o e)
theorem ldC {M : Model} {s : Shared} {name : Str} {scope : Scope} {L a : Addr} {cd : Value} {m : Str → Option Value} {x : Str} {pos : Pos} {v : Value} {Q : Value → Shared → Prop} {A : Around} {E : Value → Shared → Prop} (hn : s.heap.Ns L m) (hv : m x = some v) (h : Q v s)
    (hk : scope.kind = .function := by rfl) (hl : (envOfC name scope L a cd).kindOf x = some .local := by rfl) (hd : (x == ("__debug__" : Str)) = false := by decide) :
    wpAny M A (eval (.Name x pos) (envOfC name scope L a cd)) Q E s := wpAny_Name (wpAny_loadName_local hk hl hn hv h) hd
/-- what __init__ leaves of a fresh exception at x -/
structure InitEnd (h h' : Heap) (x C dx t1 : Addr) (v u : Value) : Prop where
  keep : ∀ b o, b ≠ x → h.get? b = some o → h'.get? b = some o
  obj : h'.get? x = some { cls := .ref C, dict := some dx, data := .fields #[.ref t1, .none, .none, .none, .bool false, .none] }
  dbig : h.objs.size ≤ dx
  dne : dx ≠ x
  ns : h'.Ns1 dx (fun y => if y = "why" then some u else if y = "name" then some v else none)
/-- a made BadThing -/
structure OwnMade (h h' : Heap) (e C d : Addr) (v u : Value) : Prop where
  keep : ∀ b o, h.get? b = some o → h'.get? b = some o
  new : h.objs.size ≤ e
  obj : ∃ oe vs, h'.get? e = some oe ∧ oe.cls = .ref C ∧ oe.dict = some d ∧ oe.data = .fields vs ∧ vs[1]? = some .none
  dbig : h.objs.size ≤ d
  dne : d ≠ e
  ns : h'.Ns1 d (fun y => if y = "why" then some u else if y = "name" then some v else none)
section
variable {prog : Program} {w : World} {A : Around} {E : Value → Shared → Prop} {R : Result → Shared → Prop} {s : Shared} {K : Frag} {mg : Str → Option Value} {C fI : Addr}
theorem within_one {v : Value} : Within (fun y => if y = ("name" : Str) then some v else none) ["name"] := fun y hy => by
  by_cases h : y = ("name" : Str)
  · rw [h]
    exact List.mem_cons_self
  · exact absurd (if_neg h) hy
theorem bad_init (T : BadTxt K mg C fI) {x t0 : Addr} {v u : Value} (X : K.In s.heap) (hlim : s.heap.NoLimit) (hx : s.heap.get? x = some (excO C t0)) (hnx : K.lookup x = none) (hroom : A.depth < recursionLimit)
    (hq : ∀ h' tk dx, InitEnd s.heap h' x C dx t0 v u → R (.ok (.ret .none)) { s with heap := h', toks := tk }) :
    codeAny (model prog w) A (.call (.ref fI) ⟨[.ref x, v, u], []⟩) R s := by
  obtain ⟨oc, od, doc, pm, an, cdv, ct, osl, p1, p2, p3, q1, q2, q3, q4, q5, q6, q7, q8, ho, hcd⟩ := T.fn
  obtain ⟨nm, q, N, bs, bm, sn, sub, ab, col, dd, k0, k1, k2, k3, k5, hC, hbm⟩ := T.cls
  have hcl : clsIn K C = some { name := nm, bases := bs, mro := .ref C :: bm, ns := N, qualname := q, hasDict := true, slotNames := sn, subclasses := sub, abstract := ab, collection := col, hasDel := false } := by unfold clsIn; rw [hC] <;> rfl
  refine Att.call_fn (binds := [("self", .ref x), ("name", v), ("why", u)]) X hlim ho hcd hroom (BindsTo.of_eq (by first | rfl | with_unfolding_all rfl)) (by first | rfl | decide | with_unfolding_all rfl) (fun s₁ IC => ?_) rfl rfl rfl
  obtain ⟨h₁, tk₁, rfl⟩ := IC.toInCall.same
  have k : ∀ b o, s.heap.get? b = some o → h₁.get? b = some o := IC.toInCall.keep
  have hn := IC.toInCall.ns
  have hxL : s.heap.objs.size ≠ x := Nat.ne_of_gt (Heap.lt_size hx)
  have X₁ : K.In h₁ := X.keeps k
  have hx₁ := k _ _ hx
  -- self.by = by
  show wpAny _ _ (execs _ _) _ _ _
  refine wpAny_execs_cons (plainObj_wpAny_Assign_Attribute ?_)
  refine ldC (v := v) hn (by first | rfl | with_unfolding_all rfl | kernel_rfl) (ldC (v := .ref x) hn (by first | rfl | with_unfolding_all rfl | kernel_rfl) ?_)
  refine set_plain X₁ (ox := excO C t0) (od := none) ⟨hx₁, rfl, rfl, trivial⟩ T.sa ?_
  refine osa_first X₁ hx₁ hcl (show excTail exT bm = true from hbm) rfl rfl T.noN (fun h₃ tk₃ dx k₃ dn dne hx₃ hn₃ => ?_)
  have xL : s.heap.objs.size ≠ x := hxL
  have z : s.heap.objs.size < h₁.objs.size := hn.lt
  have X₃ : K.In h₃ := kept_but X₁ hnx k₃
  have hn₃' := hn.at fun o e => k₃ _ o xL e
  -- self.why = why
  show wpAny _ _ (execs _ _) _ _ _
  refine wpAny_execs_cons (plainObj_wpAny_Assign_Attribute ?_)
  refine ldC (v := u) hn₃' (by first | rfl | with_unfolding_all rfl | kernel_rfl) (ldC (v := .ref x) hn₃' (by first | rfl | with_unfolding_all rfl | kernel_rfl) ?_)
  have cnt : Within (fun y => if y = "name" then some v else none) ["name"] := within_one
  obtain ⟨oD, esD, epD, hoD, hdD, _⟩ := hn₃.count cnt
  refine set_plain X₃ (ox := { cls := .ref C, dict := some dx, data := .fields #[.ref t0, .none, .none, .none, .bool false, .none] }) (od := some oD) ⟨hx₃, rfl, rfl, hoD⟩ T.sa ?_
  refine osa_second X₃ hx₃ hn₃ cnt (by decide) hcl (show excTail exT bm = true from hbm) rfl rfl T.noW (fun h₄ tk₄ k₄ hn₄ => ?_)
  show wpAny _ _ (execs _ _) _ _ _
  have hdx : s.heap.objs.size ≤ dx := Nat.le_of_lt (Nat.lt_of_lt_of_le z dn)
  exact wpAny_execs_nil (hq h₄ tk₄ dx ⟨fun b o hb e => k₄ b o (Nat.ne_of_lt (Nat.lt_of_lt_of_le (Heap.lt_size e) hdx)) (k₃ b o hb (k b o e)), k₄ _ _ (Ne.symm dne) hx₃, hdx, dne, hn₄⟩)
theorem bad_made (T : BadTxt K mg C fI) {v u : Value} (X : K.In s.heap) (hlim : s.heap.NoLimit) (hroom : A.depth + 1 < recursionLimit)
    (hq : ∀ h' tk e d, OwnMade s.heap h' e C d v u → R (.ok (.ret (.ref e))) { s with heap := h', toks := tk }) :
    codeAny (model prog w) A (.call (.ref C) ⟨[v, u], []⟩) R s := by
  obtain ⟨nm, q, N, bs, bm, sn, sub, ab, col, dd, k0, k1, k2, k3, k5, hC, hbm⟩ := T.cls
  obtain ⟨hp, g, dr, tk, os⟩ := s
  have k : ∀ b o, hp.get? b = some o → ((hp.push (kdv_tup [v, u])).push (excO C hp.objs.size)).get? b = some o := fun b o e => Heap.get?_push_of_some _ (Heap.get?_push_of_some _ e)
  have hget : ((hp.push (kdv_tup [v, u])).push (excO C hp.objs.size)).get? (hp.objs.size + 1) = some (excO C hp.objs.size) := by heap_get
  have hnx : K.lookup (hp.objs.size + 1) = none := by
    cases e : K.lookup (hp.objs.size + 1) with
    | none => rfl
    | some o =>
      have z : hp.get? (hp.objs.size + 1) = some o := X _ _ e
      exact absurd (Nat.lt_of_succ_lt (Heap.lt_size z)) (Nat.lt_irrefl _)
  refine call_own F.excBase_Exception (fun X => excTail_contains X bm hbm) (X _ _ hC) (looks_findIn X T.iC) (fun self => bind_fn X self T.tC) (two_size v u) ?_
  refine bad_init (s := ⟨(hp.push (kdv_tup [v, u])).push (excO C hp.objs.size), g, dr, tk, os⟩) T (X.keeps k) (hlim.keeps k) hget hnx ?_ fun h' tk' dx ⟨k', hx, dn, dne, hns⟩ => ?_
  · show A.depth + 1 < recursionLimit
    exact hroom
  · have old : ∀ b o, hp.get? b = some o → h'.get? b = some o := fun b o e => k' b o (Nat.ne_of_lt (Nat.lt_succ_of_lt (Heap.lt_size e))) (k b o e)
    have z : hp.objs.size + 1 + 1 ≤ dx := by
      first
        | (simpa only [Heap.size_push] using dn)
        | exact dn
        | (have q := dn; rw [Heap.size_push, Heap.size_push] at q; exact q)
    exact ⟨rfl, hq h' tk' (hp.objs.size + 1) dx ⟨old, Nat.le_succ _, ⟨_, _, hx, rfl, rfl, rfl, rfl⟩, Nat.le_trans (Nat.le_trans (Nat.le_succ _) (Nat.le_succ _)) z, dne, hns⟩⟩
end
end BadY
end PySem
namespace Kx
open PySem PySem.Spec PyProof.Rows L2
theorem relO_bad {v u : V} {v' u' : Value} (r : RelV v v') (ru : RelV u u') (f : Str) : RelO (List.lookup f [(("name" : Str), v), ("why", u)]) (if f = "why" then some u' else if f = "name" then some v' else none) := by
  by_cases hw : f = "why"
  · subst hw
    rw [if_pos rfl]
    exact ru
  · rw [if_neg hw]
    by_cases hn : f = "name"
    · subst hn
      rw [if_pos rfl]
      exact r
    · rw [if_neg hn]
      have q1 : (f == ("name" : Str)) = false := by simpa using hn
      have q2 : (f == ("why" : Str)) = false := by simpa using hw
      have q3 : List.lookup f [(("name" : Str), v), ("why", u)] = none := by simp [List.lookup, q1, q2]
      rw [q3]
      trivial
section
variable {X : Cx} {C fI : Addr}
/-- BadJob(e, f) -/
def tMkBad2 (C : Addr) (ta : TA) : L2.St → Hp → XK → Prop := fun σ H Q => ta σ H fun vs H1 => ∃ v u, vs = [v, u] ∧ ∀ d, H1 d = none → Q (.ref C) (some d) (upd H1 d (.xd [(("name" : Str), v), ("why", u)]))
theorem pmk_bad2 {a b : Expr} {ta : TA} {p pos : Pos} {k : Nat} (T : PySem.BadY.BadTxt X.K X.mg C fI) (hr : Room k X.A) (ha : PA X [a, b] ta) (hg : Gl X "BadJob" := by rfl)
    (he : starEach (a :: [b]) X.env = (false, eval a X.env) :: starEach [b] X.env := by rfl) (hpl : (backTo pos (starEach [b] X.env)).any (·.1) = false := by rfl) :
    PMk X (.Call (.Name "BadJob" p) [a, b] [] pos) (tMkBad2 C ta) := by
  intro pins s σ H Q I h
  refine wpAny_Call_Name_kw (ld_glob I hg T.gC ?_)
  refine PySem.W.callWith_K (h₀ := X.base) I.ok.mod.kin T.kC (thn (ha.run pos pins s σ H _ I h) fun us s1 hh => ?_) he hpl
  obtain ⟨vs, H1, I1, r1, v, u, ev, q1⟩ := hh
  subst ev
  refine ⟨I1.kIn, ?_⟩
  cases r1 with
  | cons rv rn =>
    rename_i v' us'
    cases rn with
    | cons ru rn =>
      rename_i u' us2
      cases rn
      show wpAny _ _ (call (.ref C) [v', u']) _ _ _
      have hlim := I1.nolimit
      obtain ⟨hp, g, dr, tk, os⟩ := s1
      refine wpAny_call (PySem.BadY.bad_made T I1.kIn hlim (by have := hr.dp; omega) fun h' tk' e d M => ?_)
      show MkP X pins σ Q (.ref e) ⟨h', g, dr, tk', os⟩
      obtain ⟨oe, fv, hoe, hc, hd, hdat, h1⟩ := M.obj
      have hns := M.ns
      obtain ⟨G', g1, g2⟩ := restrict h' fun b => decide (b ≠ e)
      have gk : ∀ b, b ≠ e → G'.get? b = h'.get? b := fun b hb => g1 b (decide_eq_true hb)
      have ge : G'.get? e = none := g2 e (by simp)
      have old : ∀ b o, hp.get? b = some o → G'.get? b = some o := fun b o q => (gk b (Nat.ne_of_lt (Nat.lt_of_lt_of_le (Heap.lt_size q) M.new))).trans (M.keep b o q)
      have ob : ObjOk X.prog X.w (upd H1 d (.xd [(("name" : Str), v), ("why", u)])) G' d (.xd [(("name" : Str), v), ("why", u)]) :=
        ⟨_, hns.at (fun o q => (gk d M.dne).trans q), fun f => relO_bad rv ru f⟩
      have J : Inv X pins σ (upd H1 d (.xd [(("name" : Str), v), ("why", u)])) ⟨G', g, dr, tk', os⟩ := I1.laid (t' := tk') old M.dbig ob
      refine ⟨e, oe, fv, ⟨G', g, dr, tk', os⟩, _, .ref C, some d, rfl, J, fun b o q => ?_, ge, hoe, ⟨hc, hd⟩, hdat, h1, ?_, rfl, I1.bare, raises_own T.exC T.tyC, q1 d (I1.hok.fresh M.dbig)⟩
      · by_cases hb : b = e
        · have q' : G'.get? b = some o := q
          rw [hb, ge] at q'; cases q'
        · exact (gk b hb).symm.trans q
      · rw [upd_ne (Ne.symm M.dne)]
        exact I1.hok.fresh M.new
/-- raise BadJob(e, f) -/
def tRaiseBad2 (C : Addr) (W : WX) (ta : TA) : TS := fun _ σ H => tMkBad2 C ta σ H fun cls d H' => W cls d σ H'
theorem ps_raiseBad2 {a b : Expr} {ta : TA} {W : WX} {p pos pos2 : Pos} {k : Nat} (hc : X.calm = true) (T : PySem.BadY.BadTxt X.K X.mg C fI) (hr : Room k X.A) (tk : Takes X W) (ha : PA X [a, b] ta) (hg : Gl X "BadJob" := by rfl)
    (he : starEach (a :: [b]) X.env = (false, eval a X.env) :: starEach [b] X.env := by rfl) (hpl : (backTo pos (starEach [b] X.env)).any (·.1) = false := by rfl) :
    PS X (.Raise (some (.Call (.Name "BadJob" p) [a, b] [] pos)) none pos2) (tRaiseBad2 C W ta) := ps_raise hc tk (pmk_bad2 T hr ha hg he hpl)
/-- error.name, low the exception that the suite holds (at a; its class cls, its dict d) -/
def tByName (C : Addr) (a : Addr) (cls : Value) (d : Option Addr) (te : TE) : TE := fun σ H Q => te σ H fun x H1 => x = .ref a ∧ cls = .ref C ∧ ∃ (dd : Addr) (v u : V), d = some dd ∧ H1 dd = some (.xd [(("name" : Str), v), ("why", u)]) ∧ Q v H1
theorem pe_byName {a : Addr} {oe : Obj} {cls : Value} {d : Option Addr} {pn : List (Addr × Obj)} {e : Expr} {te : TE} {pos : Pos} (T : PySem.BadY.BadTxt X.K X.mg C fI) (hz : Zc cls d oe) (hf : ∃ vs, oe.data = .fields vs) (he : PE (X.suite a ((a, oe) :: pn)) e te)
    (hb : attributeBase e "name" X.env (eval e X.env) = eval e X.env := by rfl) :
    PE (X.suite a ((a, oe) :: pn)) (.Attribute e "name" pos) (tByName C a cls d te) := by
  refine ⟨fun pins s σ H Q I h => ?_⟩
  refine attr_of hb (thn (he.run pins s σ H _ I h) fun ue s1 hh => ?_)
  obtain ⟨x, H1, I1, rx, ex, ec, dd, v, u, ed, ea, q⟩ := hh
  subst ex
  obtain rfl : ue = Value.ref a := rx
  subst ec
  subst ed
  obtain ⟨ha, _⟩ := I1.pin (a, oe) (List.mem_append_left _ List.mem_cons_self)
  obtain ⟨vs, hd⟩ := hf
  have hx : ObjOk X.prog X.w H1 s1.heap dd (.xd [(("name" : Str), v), ("why", u)]) := I1.hok dd _ ea
  obtain ⟨mA, hns, hr⟩ := hx
  obtain ⟨od, ho, hl⟩ := lookIn_ns hns
  have l : List.lookup ("name" : Str) [(("name" : Str), v), ("why", u)] = some v := by simp [List.lookup]
  obtain ⟨u1, hu, ru⟩ := RelO.some_of (v := v) (o := mA "name") (by rw [← l]; exact hr "name")
  have J : PySem.W.InstAt s1.heap a oe C (some od) := ⟨ha, hz.1, by unfold PySem.W.notCls; rw [hd] <;> rfl, by rw [hz.2]; exact ho⟩
  exact HandSPX.exc_get I1.kIn J T.ga T.gg T.exC (PySem.W.findObj_own T.hdC T.noN rfl (by rw [hl, hu])) (handed_of ru) ⟨v, H1, I1.tok _, ru, q⟩
end
end Kx


set_option maxHeartbeats 8000000
namespace Kx
open PySem PySem.Spec PyProof.Rows L2
abbrev s_check_there : Stmt := topS 8
abbrev s_unlike_columns : Stmt := topS 9
abbrev s_columns_of_read : Stmt := topS 10
abbrev s_columns_of_filter : Stmt := topS 11
abbrev s_columns_of_union : Stmt := topS 16
abbrev s_columns_of_unlike : Stmt := topS 17
abbrev s_columns_of_sort : Stmt := topS 18
structure ReadyX (P : Program) (w : World) (K : PySem.W.Frag) (mg : Str → Option Value) (base : Heap) (k : Nat) (x : Str) (ps : List Str) (sp : Sp) : Prop where
  ex : ∃ f fd, FnOk P w K mg base (L2.CX P w) k f fd ps sp ∧ Binds K fd ps [] ∧ mg x = some (.ref f) ∧ PySem.W.keepIn K (.ref f) = true
theorem pe_fnX {X : Cx} {W : WX} {k : Nat} {x : Str} {ps : List Str} {sp : Sp} {p pos : Pos} {e : Expr} {es : List Expr} {t : TA} (G : ReadyX X.prog X.w X.K X.mg X.base k x ps sp) (hr : Room k X.A) (tk : Takes X W) (ha : PA X (e :: es) t) (hg : Gl X x := by rfl)
    (hdb : (x == ("__debug__" : Str)) = false := by decide) (he : starEach (e :: es) X.env = (false, eval e X.env) :: starEach es X.env := by rfl) (hpl : (backTo pos (starEach es X.env)).any (·.1) = false := by rfl) :
    PE X (.Call (.Name x p) (e :: es) [] pos) (tCallS sp (WE W) t) := by
  obtain ⟨f, fd, h, hb, hm, hk⟩ := G.ex
  exact pe_callS h hr hg hm hk hb (fun σ => passAt tk σ) ha hdb he hpl
theorem pi_or {X : Cx} {tg e : Expr} {t1 t2 : TI} (h1 : PI X tg e t1) (h2 : PI X tg e t2) : PI X tg e (fun σ H R => t1 σ H R ∨ t2 σ H R) :=
  ⟨fun pins s σ H R I h => h.elim (h1.run pins s σ H R I) (h2.run pins s σ H R I)⟩
/-- what an error of a step's name says -/
def BadE (C : Addr) (nm : Str) (H : Hp) (E : XK) : Prop := ∀ (H' : Hp) (u : V) (d : Addr), Same H H' → H' d = none → E (.ref C) (some d) (upd H' d (.xd [("name", .str nm), ("why", u)]))
section
variable {P : Program} {w : World} {K : PySem.W.Frag} {mg : Str → Option Value} {base : Heap}
/-! ### check_there -/
def spThere (K : PySem.W.Frag) (C : Addr) : Sp := fun vs H Q E => ∃ (nm : Str) (ws kd : Addr) (xs : List Str) (kf : Str → Option Bool), vs = [.str nm, .ref ws, .ref kd] ∧ (SqT K H ws (xs.map V.str) ∨ SqL K H ws (xs.map V.str)) ∧ KdAt H kd kf ∧ ((∀ x ∈ xs, kf x ≠ none) → Q .non H) ∧ ((∃ x ∈ xs, kf x = none) → BadE C nm H E)
theorem sc_there : FnScope ["name", "words", "kinds", "word"] ["name", "words", "kinds"] (defScope s_check_there) := ⟨rfl, rfl, rfl, by decide +kernel, rfl, by decide +kernel, by decide +kernel⟩
theorem ok_there {f C fI : Addr} {fd : FuncData} (F : Fun K "check_there" "check_there" s_check_there f fd) (T : PySem.BadY.BadTxt K mg C fI) : FnOk P w K mg base (L2.CX P w) 2 f fd ["name", "words", "kinds"] (spThere K C) := by
  refine F.okX sc_there (fun vs H Q E h => ?_) (fun cdv A outer s H vs Q E hr h => ?_)
  · obtain ⟨nm, ws, kd, xs, kf, rfl, _⟩ := h
    rfl
  obtain ⟨nm, ws, kd, xs, kf, rfl, hw, hk, q, qe⟩ := h
  have nd := sc_there.nd
  have hr1 : Room 1 _ := hr
  have hu64 : _ + 64 < cLine := hr.units
  have hu1 : _ + 1 < cLine := Nat.lt_of_le_of_lt (Nat.add_le_add_left (by decide : 1 ≤ 64) _) hu64
  refine ⟨_, pss_one (ps_for (passes_of rfl) rfl (pi_or (pi_tup (pv 1)) (pi_list (pv 1))) (pg_name (i := 3) nd rfl (.inl rfl)) (pss_one (ps_if (pt_cmp (pc_dnotin hu1 (pv 3) (pv 2)) rfl) (pss_one (ps_raiseBad2 rfl T hr1 (takes_of rfl rfl rfl rfl) (pa_cons (pv 0) (pa_cons pe_str pa_nil)))) (pss_nil)))), ?_⟩
  obtain ⟨kvs, ek, gk⟩ := hk
  rcases hw with hw | hw
  · refine .inl ⟨_, rfl, ws, rfl, ⟨_, hw⟩, ?_⟩
    refine for_tup (K := K) (a := ws) (xs := xs.map V.str) (fun i σ H' => ∃ y3, σ = [some (.str nm), some (.ref ws), some (.ref kd), y3] ∧ H' = H ∧ ∀ x ∈ xs.take i, kf x ≠ none) ⟨_, rfl, rfl, fun x hx => absurd hx (by simp)⟩ (fun i σ H' _ h => by obtain ⟨_, _, rfl, _⟩ := h; exact hw) ?_ ?_
    · rintro i x σ H' hx ⟨y3, rfl, rfl, ok⟩
      rw [List.getElem?_map] at hx
      obtain ⟨x, ex, rfl⟩ := Option.map_eq_some_iff.mp hx
      have gx := gk x
      refine ⟨_, rfl, _, rfl, kd, _, rfl, DGet.k (k := .inr x) ek, _, rfl, ?_⟩
      cases h : kf x with
      | none =>
        have e0 : valV kvs (.inr x) = none := by rw [gx, h]; rfl
        rw [e0]
        exact iteT ⟨_, rfl, _, _, rfl, fun d nd' => qe ⟨x, List.mem_of_getElem? ex, h⟩ _ _ d (Same.refl _) nd'⟩
      | some b =>
        have e0 : valV kvs (.inr x) = some (.str (kW b)) := by rw [gx, h]; rfl
        rw [e0]
        refine iteF ⟨_, rfl, rfl, fun z hz => ?_⟩
        rw [List.take_add_one, ex] at hz
        rcases List.mem_append.mp hz with hz | hz
        · exact ok z hz
        · rw [List.mem_singleton.mp hz, h]
          intro z
          cases z
    · rintro σ H' ⟨y3, rfl, rfl, ok⟩
      exact q fun x hx => ok x (by rw [List.length_map, List.take_length]; exact hx)
  · refine .inr ⟨_, rfl, ws, rfl, ⟨_, hw⟩, ?_⟩
    refine for_list (K := K) (a := ws) (xs := xs.map V.str) (fun i σ H' => ∃ y3, σ = [some (.str nm), some (.ref ws), some (.ref kd), y3] ∧ H' = H ∧ ∀ x ∈ xs.take i, kf x ≠ none) ⟨_, rfl, rfl, fun x hx => absurd hx (by simp)⟩ (fun i σ H' _ h => by obtain ⟨_, _, rfl, _⟩ := h; exact hw) ?_ ?_
    · rintro i x σ H' hx ⟨y3, rfl, rfl, ok⟩
      rw [List.getElem?_map] at hx
      obtain ⟨x, ex, rfl⟩ := Option.map_eq_some_iff.mp hx
      have gx := gk x
      refine ⟨_, rfl, _, rfl, kd, _, rfl, DGet.k (k := .inr x) ek, _, rfl, ?_⟩
      cases h : kf x with
      | none =>
        have e0 : valV kvs (.inr x) = none := by rw [gx, h]; rfl
        rw [e0]
        exact iteT ⟨_, rfl, _, _, rfl, fun d nd' => qe ⟨x, List.mem_of_getElem? ex, h⟩ _ _ d (Same.refl _) nd'⟩
      | some b =>
        have e0 : valV kvs (.inr x) = some (.str (kW b)) := by rw [gx, h]; rfl
        rw [e0]
        refine iteF ⟨_, rfl, rfl, fun z hz => ?_⟩
        rw [List.take_add_one, ex] at hz
        rcases List.mem_append.mp hz with hz | hz
        · exact ok z hz
        · rw [List.mem_singleton.mp hz, h]
          intro z
          cases z
    · rintro σ H' ⟨y3, rfl, rfl, ok⟩
      exact q fun x hx => ok x (by rw [List.length_map, List.take_length]; exact hx)
/-! ### unlike_columns -/
abbrev N_unlike_columns : List Str := ["name", "columns", "words", "column", "_"]
def spUnl (K : PySem.W.Frag) (C : Addr) : Sp := fun vs H Q E => ∃ (nm : Str) (ca : Addr) (as : List Col), vs = [.str nm, .ref ca] ∧ (TupF H ca (as.map fun c => .ref c.1) ∨ H ca = some (.lst (as.map fun c => .ref c.1))) ∧ PairsAt H as ∧ as.length ≤ 500 ∧
  ((as.map fun c => c.2.1).Nodup → ∀ (a : Addr) (H' : Hp), Same H H' → TupF H' a (as.map fun c => .ref c.1) → Q (.ref a) H') ∧ (¬ (as.map fun c => c.2.1).Nodup → BadE C nm H E)
theorem sc_unl : FnScope N_unlike_columns ["name", "columns"] (defScope s_unlike_columns) := ⟨rfl, rfl, rfl, by decide +kernel, rfl, by decide +kernel, by decide +kernel⟩
theorem ok_unl {f C fI : Addr} {fd : FuncData} (F : Fun K "unlike_columns" "unlike_columns" s_unlike_columns f fd) (T : PySem.BadY.BadTxt K mg C fI) (m_len : mg "len" = none) (m_set : mg "set" = none) (m_tuple : mg "tuple" = none) : FnOk P w K mg base (L2.CX P w) 2 f fd ["name", "columns"] (spUnl K C) := by
  refine F.okX sc_unl (fun vs H Q E h => ?_) (fun cdv A outer s H vs Q E hr h => ?_)
  · obtain ⟨nm, ca, as, rfl, _⟩ := h
    rfl
  obtain ⟨nm, ca, as, rfl, hca, hp, h500, q, qe⟩ := h
  have nd := sc_unl.nd
  have hr1 : Room 1 _ := hr
  refine ⟨_, pss_cons (ps_setLc (i := 2) (own := [("column", 3), ("_", 4)]) (g := (gTup K 2 (gCons (gName 3) (gCons (gName 4) gNil)))) (tt := tYes) rfl nd rfl rfl (sw_true rfl rfl rfl (by decide +kernel)) (pi_or (pi_tup (pv 1)) (pi_list (pv 1))) (blkOk_by (N := N_unlike_columns) (sc := defScope s_unlike_columns) (by decide +kernel)) (fun _ _ _ _ _ => pg_tup rfl (pgs_cons (pg_name (i := 3) nd rfl (.inl rfl)) (pgs_cons (pg_name (i := 4) nd rfl (.inl rfl)) pgs_nil))) (fun _ _ _ _ _ => pts_nil) (fun _ _ _ _ _ => (pv 3)))
      (pss_cons (ps_if (pt_cmpR op_ne (pe_callB cr_lenK (by rfl) m_len PySem.boot_len (pa_cons (pe_callTy (Yk.cr_setK rfl) (by rfl) m_set PyProof.Rows.boot_set (pa_cons (pv 2) pa_nil)) pa_nil)) (pe_callB call_len_seq (by rfl) m_len PySem.boot_len (pa_cons (pv 2) pa_nil)) (nomark _)) (pss_one (ps_raiseBad2 rfl T hr1 (takes_of rfl rfl rfl rfl) (pa_cons (pv 0) (pa_cons pe_str pa_nil)))) (pss_nil))
      (pss_one (ps_ret (pe_callTy cr_tupleF (by rfl) m_tuple PyProof.Rows.boot_tuple (pa_cons (pv 1) pa_nil))))), ?_⟩
  have s500 : ∀ {n : Nat}, n ≤ 500 → n < sizeLine := fun h => Nat.lt_of_le_of_lt h (by decide)
  have fin : ∀ (D1 : Addr) (H1 : Hp), Same H H1 → H1 D1 = some (.lst ((as.map fun c => c.2.1).map V.str)) → (as.map fun c => c.2.1).length ≤ 500 → ∀ (M : List L2.Key), M.Nodup → (∀ z, z ∈ M ↔ z ∈ (as.map fun c => c.2.1).map (fun x => (Sum.inr x : L2.Key))) → (M.length = (as.map fun c => c.2.1).length ↔ (as.map fun c => c.2.1).Nodup) := fun D1 H1 _ _ _ M nM mM => by
    constructor
    · intro e
      exact nodup_strs (len_nodup nM mM (by rw [List.length_map]; omega))
    · intro hn
      have hn' : ((as.map fun c => c.2.1).map (fun x => (Sum.inr x : L2.Key))).Nodup := List.pairwise_map.mpr (hn.imp fun ne e => ne (Sum.inr.inj e))
      have h1 := nodup_len nM fun z hz => (mM z).mp hz
      have h2 := nodup_len hn' fun z hz => (mM z).mpr hz
      rw [List.length_map] at h1 h2
      omega
  rcases hca with tf | tf
  · refine .inl ⟨_, rfl, ca, rfl, ⟨_, tf.sq (K := K)⟩, fun D1 hD1 => lc_tup (K := K) (a := ca) (xs := as.map fun c => .ref c.1) (fun i H' => Same H H' ∧ H' D1 = some (.lst (((as.map fun c => c.2.1).take i).map V.str))) ⟨same_upd hD1, upd_same⟩ (fun i H' _ h => (same_f h.1 _ _ tf).sq (K := K)) ?_ ?_⟩
    · rintro i x H' hx ⟨sm, e⟩
      rw [List.getElem?_map] at hx
      obtain ⟨p, hp', rfl⟩ := Option.map_eq_some_iff.mp hx
      have eu := hp p (List.mem_of_getElem? hp')
      refine ⟨p.1, _, rfl, SqT.of (sm _ _ eu), rfl, _, _, rfl, _, _, rfl, rfl, rfl, _, rfl, _, e, ?_, fun b o' e' => ?_, ?_⟩
      · rw [List.length_map, List.length_take, List.length_map]
        exact s500 (by omega)
      · rw [upd_ne (ne_of_none e' hD1)]
        exact sm _ _ e'
      · have h1 : (as.map fun c => c.2.1).take (i + 1) = (as.map fun c => c.2.1).take i ++ [p.2.1] := by
          rw [List.take_add_one, List.getElem?_map, hp']
          rfl
        rw [h1, List.map_append]
        exact upd_same
    rintro H1 ⟨s1, e1⟩
    rw [List.length_map, List.take_of_length_le (by rw [List.length_map]; exact Nat.le_refl _)] at e1
    have ek : ((as.map fun c => c.2.1).map (fun x => (Sum.inr x : L2.Key))).map kV = (as.map fun c => c.2.1).map V.str := by
      rw [List.map_map]
      rfl
    refine ⟨_, rfl, D1, (as.map fun c => c.2.1).map (fun x => (Sum.inr x : L2.Key)), rfl, .inl (SqL.of (by rw [ek]; exact e1)), (by rw [List.length_map, List.length_map]; omega), fun p M nM mM hpp => ?_⟩
    have s2 := same_upd (o := Yk.SetKO P w p M) hpp
    have iff := fin D1 H1 s1 e1 (by rw [List.length_map]; exact h500) M nM mM
    refine ⟨p, M, rfl, upd_same, _, rfl, D1, _, rfl, .inl (SqL.of (s2 _ _ e1)), rfl, _, rfl, ite2 (fun c => ?_) (fun c => ?_)⟩
    · have hn : ¬ (as.map fun c => c.2.1).Nodup := fun z => by
        have h1 := iff.mpr z
        have h2 : (((as.map fun c => c.2.1).map V.str).length : Nat) = M.length := by rw [List.length_map, h1]
        rw [h2] at c
        simp at c
      exact ⟨_, rfl, _, _, rfl, fun d nd' => qe hn _ _ d (s1.trans s2) nd'⟩
    · have hy : (as.map fun c => c.2.1).Nodup := iff.mp (by
        by_cases z : M.length = (as.map fun c => c.2.1).length
        · exact z
        · exfalso
          apply c
          have h2 : ¬ V.int ((M.length : Nat) : Int) = V.int ((((as.map fun c => c.2.1).map V.str).length : Nat) : Int) := fun h => by
            injection h with h
            rw [List.length_map] at h
            omega
          rw [decide_eq_false h2]
          rfl)
      exact ⟨_, rfl, ca, _, rfl, .inr ⟨(same_f (s1.trans s2) _ _ tf).sq, q hy ca _ (s1.trans s2) (same_f (s1.trans s2) _ _ tf)⟩⟩
  · refine .inr ⟨_, rfl, ca, rfl, ⟨_, SqL.of tf⟩, fun D1 hD1 => lc_list (K := K) (a := ca) (xs := as.map fun c => .ref c.1) (fun i H' => Same H H' ∧ H' D1 = some (.lst (((as.map fun c => c.2.1).take i).map V.str))) ⟨same_upd hD1, upd_same⟩ (fun i H' _ h => SqL.of (h.1 _ _ tf)) ?_ ?_⟩
    · rintro i x H' hx ⟨sm, e⟩
      rw [List.getElem?_map] at hx
      obtain ⟨p, hp', rfl⟩ := Option.map_eq_some_iff.mp hx
      have eu := hp p (List.mem_of_getElem? hp')
      refine ⟨p.1, _, rfl, SqT.of (sm _ _ eu), rfl, _, _, rfl, _, _, rfl, rfl, rfl, _, rfl, _, e, ?_, fun b o' e' => ?_, ?_⟩
      · rw [List.length_map, List.length_take, List.length_map]
        exact s500 (by omega)
      · rw [upd_ne (ne_of_none e' hD1)]
        exact sm _ _ e'
      · have h1 : (as.map fun c => c.2.1).take (i + 1) = (as.map fun c => c.2.1).take i ++ [p.2.1] := by
          rw [List.take_add_one, List.getElem?_map, hp']
          rfl
        rw [h1, List.map_append]
        exact upd_same
    rintro H1 ⟨s1, e1⟩
    rw [List.length_map, List.take_of_length_le (by rw [List.length_map]; exact Nat.le_refl _)] at e1
    have ek : ((as.map fun c => c.2.1).map (fun x => (Sum.inr x : L2.Key))).map kV = (as.map fun c => c.2.1).map V.str := by
      rw [List.map_map]
      rfl
    refine ⟨_, rfl, D1, (as.map fun c => c.2.1).map (fun x => (Sum.inr x : L2.Key)), rfl, .inl (SqL.of (by rw [ek]; exact e1)), (by rw [List.length_map, List.length_map]; omega), fun p M nM mM hpp => ?_⟩
    have s2 := same_upd (o := Yk.SetKO P w p M) hpp
    have iff := fin D1 H1 s1 e1 (by rw [List.length_map]; exact h500) M nM mM
    refine ⟨p, M, rfl, upd_same, _, rfl, D1, _, rfl, .inl (SqL.of (s2 _ _ e1)), rfl, _, rfl, ite2 (fun c => ?_) (fun c => ?_)⟩
    · have hn : ¬ (as.map fun c => c.2.1).Nodup := fun z => by
        have h1 := iff.mpr z
        have h2 : (((as.map fun c => c.2.1).map V.str).length : Nat) = M.length := by rw [List.length_map, h1]
        rw [h2] at c
        simp at c
      exact ⟨_, rfl, _, _, rfl, fun d nd' => qe hn _ _ d (s1.trans s2) nd'⟩
    · have hy : (as.map fun c => c.2.1).Nodup := iff.mp (by
        by_cases z : M.length = (as.map fun c => c.2.1).length
        · exact z
        · exfalso
          apply c
          have h2 : ¬ V.int ((M.length : Nat) : Int) = V.int ((((as.map fun c => c.2.1).map V.str).length : Nat) : Int) := fun h => by
            injection h with h
            rw [List.length_map] at h
            omega
          rw [decide_eq_false h2]
          rfl)
      refine ⟨_, rfl, ca, _, rfl, .inl ⟨SqL.of (s2 _ _ (s1 _ _ tf)), fun l o hl ho => ?_⟩⟩
      exact q hy l _ ((s1.trans s2).trans (same_upd hl)) ⟨o, ho, upd_same⟩
end
end Kx

set_option maxHeartbeats 8000000
namespace Kx
open PySem PySem.Spec PyProof.Rows L2







def ndC (cs : List NC) : Option (List NC) := if (cs.map (·.1)).Nodup then some cs else none
def foldK (kf : Str → Option Bool) (m : FC) : Option Bool :=
  if m.1 = "count" then some true else match m.2.1 with
  | none => none
  | some e => match kindE kf e with
    | none => none
    | some b => if (m.1 ∈ (["sum", "mean"] : List Str)) ∧ b = false then none else some (lateK m.1 b)
def colsD (css : List (List NC)) : Det → Option (List NC)
  | .read cs => ndC cs
  | .filter e => if kindE (kfN (css.getD 0 [])) e = some true then some (css.getD 0 []) else none
  | .map ms => if ms.all (fun m => (kindE (kfN (css.getD 0 [])) m.1).isSome) = true then ndC (ms.map fun m => (m.2.2, (kindE (kfN (css.getD 0 [])) m.1).getD true)) else none
  | .fold ks fs => if (ks.all (fun k => (kfN (css.getD 0 []) k.1).isSome) && fs.all fun m => (foldK (kfN (css.getD 0 [])) m).isSome) = true then ndC ((ks.map fun k => (k.1, (kfN (css.getD 0 []) k.1).getD true)) ++ fs.map fun m => (m.2.2.2, (foldK (kfN (css.getD 0 [])) m).getD true)) else none
  | .join ks => if (ks.all fun k => (kfN (css.getD 0 []) k.1).isSome && decide (kfN (css.getD 1 []) k.1 = kfN (css.getD 0 []) k.1)) = true then
      ndC ((ks.map fun k => (k.1, (kfN (css.getD 0 []) k.1).getD true)) ++ ((css.getD 0 []).filter (fun c => decide (c.1 ∉ ks.map (·.1))) ++ (css.getD 1 []).filter fun c => decide (c.1 ∉ ks.map (·.1)))) else none
  | .union => if css.getD 0 [] = css.getD 1 [] then some (css.getD 0 []) else none
  | .unlike => some (css.getD 0 [])
  | .sort ws _ => if ws.all (fun x => (kfN (css.getD 0 []) x.1).isSome) = true then some (css.getD 0 []) else none
/-- columns in a tuple that has no dict of its own -/
def CF (H : Hp) (a : Addr) (cs : List NC) : Prop := ∃ as : List Col, TupF H a (as.map fun c => .ref c.1) ∧ PairsAt H as ∧ as.map (·.2) = cs
theorem CF.keep {H H' : Hp} {a : Addr} {cs : List NC} (c : CF H a cs) (h : KeepT H H') (hf : KeepF H H') : CF H' a cs := let ⟨as, t, p, e⟩ := c; ⟨as, hf _ _ t, fun x hx => h _ _ (p x hx), e⟩
structure GoodC (cs : List NC) : Prop where
  nod : (cs.map (·.1)).Nodup
  few : cs.length ≤ 100
  lay : ∀ c ∈ cs, PyData.canLay0 (.str c.1) = true
def GivenAt (H : Hp) (gs : List Addr) (css : List (List NC)) : Prop := gs.length = css.length ∧ ∀ (i : Nat) (g : Addr) (cs : List NC), gs[i]? = some g → css[i]? = some cs → CF H g cs ∧ GoodC cs
def ExOk (e : Ex) : Prop := OpsOk e ∧ e.dep ≤ 12
def DetOk : Det → Prop
  | .read cs => cs.length ≤ 100
  | .filter e => ExOk e
  | .map ms => ms.length ≤ 100 ∧ ∀ m ∈ ms, ExOk m.1
  | .fold ks fs => ks.length ≤ 100 ∧ fs.length ≤ 100 ∧ ∀ m ∈ fs, m.1 ≠ "count" → ∃ e, m.2.1 = some e ∧ ExOk e
  | .join ks => ks.length ≤ 100
  | .union => True
  | .unlike => True
  | .sort ws _ => ws.length ≤ 100
def Det.arity : Det → Nat
  | .read _ => 0
  | .join _ => 2
  | .union => 2
  | _ => 1
def spChk (K : PySem.W.Frag) (C : Addr) (wh : Str) : Sp := fun vs H Q E => ∃ (nm : Str) (gv : Addr) (dv : V) (det : Det) (gs : List Addr) (css : List (List NC)), vs = [.str nm, .ref gv, dv] ∧ det.what = wh ∧ SqL K H gv (gs.map V.ref) ∧ GivenAt H gs css ∧ css.length = det.arity ∧ DetAt H dv det ∧ DetOk det ∧
  (∀ cs, colsD css det = some cs → ∀ (a : Addr) (H' : Hp), Same H H' → CF H' a cs → Q (.ref a) H') ∧ (colsD css det = none → BadE C nm H E)
theorem paired_cols {K : PySem.W.Frag} {H : Hp} : ∀ {as : List Col}, PairsAt H as → Paired (fun p kv => SqT K H p [.str kv.1, kv.2]) (as.map (·.1)) (as.map fun c => (c.2.1, V.str (kW c.2.2)))
  | [], _ => .nil
  | c :: as, h => .cons (SqT.of (h c List.mem_cons_self)) (paired_cols fun x hx => h x (List.mem_cons_of_mem _ hx))
theorem kfN_none {cs : List NC} {x : Str} (h : x ∉ cs.map (·.1)) : kfN cs x = none := by
  unfold kfN
  rw [List.find?_eq_none.mpr]
  · rfl
  · intro c hc z
    exact h (List.mem_map.mpr ⟨c, hc, of_decide_eq_true z⟩)
theorem val_merge : ∀ {cs : List NC} (acc : List (L2.Key × V)), (cs.map (·.1)).Nodup → ∀ x : Str, valV (mergeK acc (cs.map fun c => ((.inr c.1 : L2.Key), V.str (kW c.2)))) (.inr x) = (match kfN cs x with | some b => some (V.str (kW b)) | none => valV acc (.inr x))
  | [], acc, _, x => rfl
  | c :: cs, acc, hn, x => by
    have hn' := List.nodup_cons.mp hn
    show valV (mergeK (putK acc (.inr c.1) (.str (kW c.2))) (cs.map fun c => ((.inr c.1 : L2.Key), V.str (kW c.2)))) (.inr x) = _
    rw [val_merge _ hn'.2 x]
    by_cases h : c.1 = x
    · have h0 : kfN cs x = none := kfN_none (by rw [← h]; exact hn'.1)
      have h1 : kfN (c :: cs) x = some c.2 := by
        unfold kfN
        rw [List.find?_cons, decide_eq_true h]
        rfl
      rw [h0, h1, valV_put, if_pos (by rw [h])]
    · have h1 : kfN (c :: cs) x = kfN cs x := by
        unfold kfN
        rw [List.find?_cons, decide_eq_false h]
      rw [h1]
      cases kfN cs x with
      | some b => rfl
      | none =>
        show valV (putK acc (.inr c.1) (.str (kW c.2))) (.inr x) = valV acc (.inr x)
        rw [valV_put, if_neg (fun z => h (Sum.inr.inj z).symm)]
theorem kd_new {H : Hp} {kd : Addr} {as : List Col} {cs : List NC} (e : as.map (·.2) = cs) (hn : (cs.map (·.1)).Nodup) : KdAt (upd H kd (.dK (mergeK [] ((as.map fun c => (c.2.1, V.str (kW c.2.2))).map fun kv => ((.inr kv.1 : L2.Key), kv.2))))) kd (kfN cs) := by
  refine ⟨_, upd_same, fun x => ?_⟩
  have e2 : ((as.map fun c => (c.2.1, V.str (kW c.2.2))).map fun kv => ((.inr kv.1 : L2.Key), kv.2)) = cs.map fun c => ((.inr c.1 : L2.Key), V.str (kW c.2)) := by
    rw [← e, List.map_map, List.map_map]
    rfl
  rw [e2, val_merge [] hn x]
  cases kfN cs x <;> rfl
theorem what_read {d : Det} (h : d.what = "read") : ∃ cs, d = .read cs := by
  cases d <;> first | exact ⟨_, rfl⟩ | (dsimp only [Det.what] at h; exact absurd h (by decide +kernel))
theorem what_filter {d : Det} (h : d.what = "filter") : ∃ cs, d = .filter cs := by
  cases d <;> first | exact ⟨_, rfl⟩ | (dsimp only [Det.what] at h; exact absurd h (by decide +kernel))
theorem what_map {d : Det} (h : d.what = "map") : ∃ cs, d = .map cs := by
  cases d <;> first | exact ⟨_, rfl⟩ | (dsimp only [Det.what] at h; exact absurd h (by decide +kernel))
theorem what_join {d : Det} (h : d.what = "join") : ∃ cs, d = .join cs := by
  cases d <;> first | exact ⟨_, rfl⟩ | (dsimp only [Det.what] at h; exact absurd h (by decide +kernel))
theorem what_fold {d : Det} (h : d.what = "fold") : ∃ ks fs, d = .fold ks fs := by
  cases d <;> first | exact ⟨_, _, rfl⟩ | (dsimp only [Det.what] at h; exact absurd h (by decide +kernel))
theorem what_sort {d : Det} (h : d.what = "sort") : ∃ ws m, d = .sort ws m := by
  cases d <;> first | exact ⟨_, _, rfl⟩ | (dsimp only [Det.what] at h; exact absurd h (by decide +kernel))
theorem what_union {d : Det} (h : d.what = "union") : d = .union := by
  cases d <;> first | rfl | (dsimp only [Det.what] at h; exact absurd h (by decide +kernel))
theorem what_unlike {d : Det} (h : d.what = "unlike") : d = .unlike := by
  cases d <;> first | rfl | (dsimp only [Det.what] at h; exact absurd h (by decide +kernel))
section
variable {P : Program} {w : World} {K : PySem.W.Frag} {mg : Str → Option Value} {base : Heap}
theorem sc_read : FnScope ["name", "given", "details"] ["name", "given", "details"] (defScope s_columns_of_read) := ⟨rfl, rfl, rfl, by decide +kernel, rfl, by decide +kernel, by decide +kernel⟩
theorem ok_read {f C : Addr} {fd : FuncData} (F : Fun K "columns_of_read" "columns_of_read" s_columns_of_read f fd) (G_unlike_columns : ReadyX P w K mg base 2 "unlike_columns" ["name", "columns"] (spUnl K C)) : FnOk P w K mg base (L2.CX P w) 3 f fd ["name", "given", "details"] (spChk K C "read") := by
  refine F.okX sc_read (fun vs H Q E h => ?_) (fun cdv A outer s H vs Q E hr h => ?_)
  · obtain ⟨nm, gv, dv, det, gs, css, rfl, _⟩ := h
    rfl
  obtain ⟨nm, gv, dv, det, gs, css, rfl, hw, hgv, hg, har, hd, hok, q, qe⟩ := h
  have nd := sc_read.nd
  have hr2 : Room 2 _ := hr
  refine ⟨_, pss_one (ps_ret (pe_fnX G_unlike_columns hr2 (takes_of rfl rfl rfl rfl) (pa_cons (pv 0) (pa_cons (pv 2) pa_nil)))), ?_⟩
  obtain ⟨cs, rfl⟩ := what_read hw
  obtain ⟨t, as, rfl, tf, hp, rfl⟩ := hd
  have e1 : ((as.map (·.2)).map (·.1)) = as.map fun c => c.2.1 := by
    rw [List.map_map]
    rfl
  have l1 : as.length ≤ 100 := by
    have : (as.map (·.2)).length ≤ 100 := hok
    rw [List.length_map] at this
    exact this
  refine ⟨_, rfl, _, rfl, nm, t, as, rfl, .inl tf, hp, by omega, fun hn a H' sm ta => ?_, fun hn => qe ?_⟩
  · refine q _ ?_ a H' sm ⟨as, ta, fun c hc => sm _ _ (hp c hc), rfl⟩
    show ndC _ = _
    exact if_pos (by rw [e1]; exact hn)
  · show ndC _ = _
    exact if_neg (by rw [e1]; exact hn)
theorem sc_unlike : FnScope ["name", "given", "details"] ["name", "given", "details"] (defScope s_columns_of_unlike) := ⟨rfl, rfl, rfl, by decide +kernel, rfl, by decide +kernel, by decide +kernel⟩
end
end Kx

set_option maxHeartbeats 8000000
namespace Kx
open PySem PySem.Spec PyProof.Rows L2







theorem given1 {H : Hp} {gs : List Addr} {css : List (List NC)} (g : GivenAt H gs css) (h : css.length = 1) : ∃ a c, gs = [a] ∧ css = [c] ∧ CF H a c ∧ GoodC c := by
  match css, h with
  | [c], _ =>
    match gs, g.1 with
    | [a], _ => exact ⟨a, c, rfl, rfl, g.2 0 a c rfl rfl⟩
theorem given2 {H : Hp} {gs : List Addr} {css : List (List NC)} (g : GivenAt H gs css) (h : css.length = 2) : ∃ a b c e, gs = [a, b] ∧ css = [c, e] ∧ CF H a c ∧ GoodC c ∧ CF H b e ∧ GoodC e := by
  match css, h with
  | [c, e], _ =>
    match gs, g.1 with
    | [a, b], _ => exact ⟨a, b, c, e, rfl, rfl, (g.2 0 a c rfl rfl).1, (g.2 0 a c rfl rfl).2, (g.2 1 b e rfl rfl).1, (g.2 1 b e rfl rfl).2⟩
theorem colsT_sh {l : List NC} (h : ∀ c ∈ l, PyData.canLay0 (.str c.1) = true) : SeqAt.shaped (.tuple (l.map colD)) = true := by
  have d := colsD_dep l
  show (PyData.canLayAll0 (l.map colD) && decide (PyData.depthAll (l.map colD) + 1 ≤ 64)) = true
  rw [colsD_ok l h, decide_eq_true (by omega)]
  rfl
theorem colsT_eqv (l m : List NC) : PyData.eqv (.tuple (l.map colD)) (.tuple (m.map colD)) = decide (l = m) := colsA_eqv l m
theorem CF.dp {K : PySem.W.Frag} {H : Hp} {a : Addr} {cs : List NC} (c : CF H a cs) : Dp K H (.ref a) (.tuple (cs.map colD)) := by
  obtain ⟨as, t, p, rfl⟩ := c
  exact .tup t.sq (cols_dpA p)
theorem sqL_same {K : PySem.W.Frag} {H H' : Hp} (h : Same H H') {a : Addr} {xs : List V} (q : SqL K H a xs) : SqL K H' a xs := by
  rcases q with (q | ⟨o, q⟩) | q
  · exact .inl (.inl (h _ _ q))
  · exact .inl (.inr ⟨o, h _ _ q⟩)
  · exact .inr q
section
variable {P : Program} {w : World} {K : PySem.W.Frag} {mg : Str → Option Value} {base : Heap}
theorem ok_unlike {f C : Addr} {fd : FuncData} (F : Fun K "columns_of_unlike" "columns_of_unlike" s_columns_of_unlike f fd) : FnOk P w K mg base (L2.CX P w) 3 f fd ["name", "given", "details"] (spChk K C "unlike") := by
  refine F.okX sc_unlike (fun vs H Q E h => ?_) (fun cdv A outer s H vs Q E hr h => ?_)
  · obtain ⟨nm, gv, dv, det, gs, css, rfl, _⟩ := h
    rfl
  obtain ⟨nm, gv, dv, det, gs, css, rfl, hw, hgv, hg, har, hd, hok, q, qe⟩ := h
  have nd := sc_unlike.nd
  refine ⟨_, pss_one (ps_ret (pe_ix (show IxR _ (rIxL K) from ix_list) (pv 1) pe_int (fun _ _ => rfl))), ?_⟩
  have hw' := what_unlike hw
  subst hw'
  obtain ⟨a, c, rfl, rfl, hc, gc⟩ := given1 hg har
  exact ⟨_, rfl, gv, _, 0, _, rfl, rfl, hgv, rfl, q c rfl a H (Same.refl _) hc⟩
theorem sc_union : FnScope ["name", "given", "details"] ["name", "given", "details"] (defScope s_columns_of_union) := ⟨rfl, rfl, rfl, by decide +kernel, rfl, by decide +kernel, by decide +kernel⟩
theorem ok_union {f C fI : Addr} {fd : FuncData} (F : Fun K "columns_of_union" "columns_of_union" s_columns_of_union f fd) (T : PySem.BadY.BadTxt K mg C fI) : FnOk P w K mg base (L2.CX P w) 3 f fd ["name", "given", "details"] (spChk K C "union") := by
  refine F.okX sc_union (fun vs H Q E h => ?_) (fun cdv A outer s H vs Q E hr h => ?_)
  · obtain ⟨nm, gv, dv, det, gs, css, rfl, _⟩ := h
    rfl
  obtain ⟨nm, gv, dv, det, gs, css, rfl, hw, hgv, hg, har, hd, hok, q, qe⟩ := h
  have nd := sc_union.nd
  have hr1 : Room 1 _ := hr.mono (by decide)
  have hu64 : _ + 64 < cLine := hr.units
  refine ⟨_, pss_cons (ps_if (pt_cmpR (op_neD hu64) (pe_ix (show IxR _ (rIxL K) from ix_list) (pv 1) pe_int (fun _ _ => rfl)) (pe_ix (show IxR _ (rIxL K) from ix_list) (pv 1) pe_int (fun _ _ => rfl)) (nomark _)) (pss_one (ps_raiseBad2 rfl T hr1 (takes_of rfl rfl rfl rfl) (pa_cons (pv 0) (pa_cons pe_str pa_nil)))) (pss_nil))
      (pss_one (ps_ret (pe_ix (show IxR _ (rIxL K) from ix_list) (pv 1) pe_int (fun _ _ => rfl)))), ?_⟩
  have hw' := what_union hw
  subst hw'
  obtain ⟨a, b, c, e, rfl, rfl, hc, gc, he, ge⟩ := given2 hg har
  refine ⟨_, rfl, gv, _, 0, _, rfl, rfl, hgv, rfl, _, rfl, gv, _, 1, _, rfl, rfl, hgv, rfl, _, _, hc.dp, he.dp, colsT_sh gc.lay, colsT_sh ge.lay, _, rfl, ?_⟩
  rw [colsT_eqv]
  by_cases h : c = e
  · rw [decide_eq_true h]
    refine iteF ⟨_, rfl, gv, _, 0, _, rfl, rfl, hgv, rfl, q c ?_ a H (Same.refl _) hc⟩
    exact if_pos h
  · rw [decide_eq_false h]
    exact iteT ⟨_, rfl, _, _, rfl, fun d nd' => qe (if_neg h) _ _ d (Same.refl _) nd'⟩
theorem sc_filter : FnScope ["name", "given", "details"] ["name", "given", "details"] (defScope s_columns_of_filter) := ⟨rfl, rfl, rfl, by decide +kernel, rfl, by decide +kernel, by decide +kernel⟩
theorem ok_filter {f C fI : Addr} {fd : FuncData} (F : Fun K "columns_of_filter" "columns_of_filter" s_columns_of_filter f fd) (T : PySem.BadY.BadTxt K mg C fI) (m_dict : mg "dict" = none) (G_kind_of : Ready P w K mg base 13 "kind_of" ["told", "kinds"] (spKind 12)) : FnOk P w K mg base (L2.CX P w) 14 f fd ["name", "given", "details"] (spChk K C "filter") := by
  refine F.okX sc_filter (fun vs H Q E h => ?_) (fun cdv A outer s H vs Q E hr h => ?_)
  · obtain ⟨nm, gv, dv, det, gs, css, rfl, _⟩ := h
    rfl
  obtain ⟨nm, gv, dv, det, gs, css, rfl, hw, hgv, hg, har, hd, hok, q, qe⟩ := h
  have nd := sc_filter.nd
  have hr1 : Room 1 _ := hr.mono (by decide)
  have hrk : Room 13 _ := hr
  refine ⟨_, pss_cons (ps_if (pt_cmpR op_ne (pe_fn G_kind_of hrk (pa_cons (pv 2) (pa_cons (pe_callTy (cr_dictT rfl) (by rfl) m_dict PyProof.Rows.boot_dict (pa_cons (pe_ix (show IxR _ (rIxL K) from ix_list) (pv 1) pe_int (fun _ _ => rfl)) pa_nil)) pa_nil))) pe_str (nomark _)) (pss_one (ps_raiseBad2 rfl T hr1 (takes_of rfl rfl rfl rfl) (pa_cons (pv 0) (pa_cons pe_str pa_nil)))) (pss_nil))
      (pss_one (ps_ret (pe_ix (show IxR _ (rIxL K) from ix_list) (pv 1) pe_int (fun _ _ => rfl)))), ?_⟩
  obtain ⟨e, rfl⟩ := what_filter hw
  obtain ⟨a, c, rfl, rfl, hc, gc⟩ := given1 hg har
  obtain ⟨as, tf, hp, ec⟩ := id hc
  refine ⟨_, rfl, _, rfl, gv, _, 0, _, rfl, rfl, hgv, rfl, a, as.map (·.1), as.map fun c => (c.2.1, V.str (kW c.2.2)), rfl, by rw [List.map_map]; exact tf, paired_cols hp, fun kd hkd => ?_⟩
  have s1 := same_upd (o := .dK (mergeK [] ((as.map fun c => (c.2.1, V.str (kW c.2.2))).map fun kv => ((.inr kv.1 : L2.Key), kv.2)))) hkd
  refine ⟨dv, kd, kfN c, e, rfl, hd.keep (same_t s1) (same_f s1), hok.1, hok.2, kd_new ec gc.nod, ?_⟩
  have g1 : ∀ {H' : Hp}, Same H H' → kindE (kfN c) e = some true → Q (.ref a) H' := fun s h => q c (if_pos h) a _ s (hc.keep (same_t s) (same_f s))
  have g2 : kindE (kfN c) e ≠ some true → BadE C nm H E := fun h => qe (if_neg h)
  generalize kindE (kfN c) e = o at g1 g2 ⊢
  rcases o with _ | _ | _
  · exact ⟨rfl, _, rfl, iteT ⟨_, rfl, _, _, rfl, fun d nd' => g2 (by intro z; cases z) _ _ d s1 nd'⟩⟩
  · exact ⟨rfl, _, rfl, iteT ⟨_, rfl, _, _, rfl, fun d nd' => g2 (by intro z; cases z) _ _ d s1 nd'⟩⟩
  · exact ⟨rfl, _, rfl, iteF ⟨_, rfl, gv, _, 0, _, rfl, rfl, sqL_same s1 hgv, rfl, g1 s1 rfl⟩⟩
abbrev N_columns_of_sort : List Str := ["name", "given", "details", "order", "_", "column"]
theorem sc_sort : FnScope N_columns_of_sort ["name", "given", "details"] (defScope s_columns_of_sort) := ⟨rfl, rfl, rfl, by decide +kernel, rfl, by decide +kernel, by decide +kernel⟩
theorem ok_sort {f C : Addr} {fd : FuncData} (F : Fun K "columns_of_sort" "columns_of_sort" s_columns_of_sort f fd) (m_dict : mg "dict" = none) (G_check_there : ReadyX P w K mg base 2 "check_there" ["name", "words", "kinds"] (spThere K C)) : FnOk P w K mg base (L2.CX P w) 3 f fd ["name", "given", "details"] (spChk K C "sort") := by
  refine F.okX sc_sort (fun vs H Q E h => ?_) (fun cdv A outer s H vs Q E hr h => ?_)
  · obtain ⟨nm, gv, dv, det, gs, css, rfl, _⟩ := h
    rfl
  obtain ⟨nm, gv, dv, det, gs, css, rfl, hw, hgv, hg, har, hd, hok, q, qe⟩ := h
  have nd := sc_sort.nd
  have hr2 : Room 2 _ := hr
  refine ⟨_, pss_cons (ps_asg (pv 2) (pg_tup rfl (pgs_cons (pg_name (i := 3) nd rfl (.inl rfl)) (pgs_cons (pg_name (i := 4) nd rfl (.inl rfl)) pgs_nil))))
      (pss_cons (ps_expr (pe_fnX G_check_there hr2 (takes_of rfl rfl rfl rfl) (pa_cons (pv 0) (pa_cons (pe_lc (own := [("column", 5), ("_", 4)]) (g := (gTup K 2 (gCons (gName 5) (gCons (gName 4) gNil)))) (tt := tYes) rfl nd (pi_tup (pv 3)) (blkOk_by (N := N_columns_of_sort) (sc := defScope s_columns_of_sort) (by decide +kernel)) (fun _ _ _ _ _ => pg_tup rfl (pgs_cons (pg_name (i := 5) nd rfl (.inl rfl)) (pgs_cons (pg_name (i := 4) nd rfl (.inl rfl)) pgs_nil))) (fun _ _ _ _ _ => pts_nil) (fun _ _ _ _ _ => (pv 5))) (pa_cons (pe_callTy (cr_dictT rfl) (by rfl) m_dict PyProof.Rows.boot_dict (pa_cons (pe_ix (show IxR _ (rIxL K) from ix_list) (pv 1) pe_int (fun _ _ => rfl)) pa_nil)) pa_nil)))))
      (pss_one (ps_ret (pe_ix (show IxR _ (rIxL K) from ix_list) (pv 1) pe_int (fun _ _ => rfl))))), ?_⟩
  obtain ⟨ws, m, rfl⟩ := what_sort hw
  obtain ⟨a, c, rfl, rfl, hc, gc⟩ := given1 hg har
  obtain ⟨as, tf, hp, ec⟩ := id hc
  obtain ⟨t, wt, ps, rfl, h1, h2, h3, h4⟩ := hd
  refine ⟨_, rfl, t, _, rfl, SqT.of h1, rfl, _, _, rfl, _, _, rfl, rfl, ?_⟩
  have lp : ps.length ≤ 100 := by
    have : ws.length ≤ 100 := hok
    rw [← h4, List.length_map] at this
    exact this
  refine ⟨_, rfl, _, rfl, wt, rfl, ⟨_, SqT.of h2⟩, fun D1 hD1 => lc_tup (K := K) (a := wt) (xs := ps.map fun p => .ref p.1) (fun i H' => Same H H' ∧ H' D1 = some (.lst (((ps.map fun p => p.2.1).take i).map V.str))) ⟨same_upd hD1, upd_same⟩ (fun i H' _ h => SqT.of (h.1 _ _ h2)) ?_ ?_⟩
  · rintro i x H' hx ⟨sm, e⟩
    rw [List.getElem?_map] at hx
    obtain ⟨p, hp', rfl⟩ := Option.map_eq_some_iff.mp hx
    have eu := h3 p (List.mem_of_getElem? hp')
    refine ⟨p.1, _, rfl, SqT.of (sm _ _ eu), rfl, _, _, rfl, _, _, rfl, rfl, rfl, _, rfl, _, e, ?_, fun b o' e' => ?_, ?_⟩
    · rw [List.length_map, List.length_take, List.length_map]
      exact Nat.lt_of_le_of_lt (show _ ≤ 100 by omega) (by decide)
    · rw [upd_ne (ne_of_none e' hD1)]
      exact sm _ _ e'
    · have hh : (ps.map fun p => p.2.1).take (i + 1) = (ps.map fun p => p.2.1).take i ++ [p.2.1] := by
        rw [List.take_add_one, List.getElem?_map, hp']
        rfl
      rw [hh, List.map_append]
      exact upd_same
  rintro H1 ⟨s1, e1⟩
  rw [List.length_map, List.take_of_length_le (by rw [List.length_map]; exact Nat.le_refl _)] at e1
  refine ⟨_, rfl, gv, _, 0, _, rfl, rfl, sqL_same s1 hgv, rfl, a, as.map (·.1), as.map fun c => (c.2.1, V.str (kW c.2.2)), rfl, by rw [List.map_map]; exact same_f s1 _ _ tf, paired_cols (fun x hx => s1 _ _ (hp x hx)), fun kd hkd => ?_⟩
  have s2 := s1.trans (same_upd (o := .dK (mergeK [] ((as.map fun c => (c.2.1, V.str (kW c.2.2))).map fun kv => ((.inr kv.1 : L2.Key), kv.2)))) hkd)
  have hall : (∀ x ∈ ps.map (fun p => p.2.1), kfN c x ≠ none) ↔ ws.all (fun x => (kfN c x.1).isSome) = true := by
    rw [← h4, List.all_map, List.all_eq_true]
    constructor
    · intro h p hp'
      have := h p.2.1 (List.mem_map.mpr ⟨p, hp', rfl⟩)
      show (kfN c p.2.1).isSome = true
      cases hh : kfN c p.2.1 with
      | none => exact absurd hh this
      | some b => rfl
    · intro h x hx z
      obtain ⟨p, hp', rfl⟩ := List.mem_map.mp hx
      have := h p hp'
      have h' : (kfN c p.2.1).isSome = true := this
      rw [z] at h'
      cases h'
  refine ⟨nm, D1, kd, ps.map fun p => p.2.1, kfN c, rfl, .inr (SqL.of (same_upd hkd _ _ e1)), kd_new ec gc.nod, fun h => ?_, fun h => ?_⟩
  · exact ⟨_, rfl, gv, _, 0, _, rfl, rfl, sqL_same s2 hgv, rfl, q c (if_pos (hall.mp h)) a _ s2 (hc.keep (same_t s2) (same_f s2))⟩
  · obtain ⟨x, hx, hn⟩ := h
    have hb := qe (if_neg fun z => hall.mpr z x hx hn)
    exact fun H' u d sm nd' => hb H' u d (s2.trans sm) nd'
end
end Kx

set_option maxHeartbeats 8000000
namespace Kx
open PySem PySem.Spec PyProof.Rows L2
abbrev s_columns_of_map : Stmt := topS 12
abbrev s_kind_of_fold : Stmt := topS 13
abbrev s_columns_of_fold : Stmt := topS 14







theorem same_of_but {H0 H H' : Hp} {d : Addr} (s : Same H0 H) (b : But d H H') (n : H0 d = none) : Same H0 H' := fun a o e => b a o (ne_of_none e n) (s _ _ e)
section
variable {P : Program} {w : World} {K : PySem.W.Frag} {mg : Str → Option Value} {base : Heap}
/-! ### kind_of_fold -/
abbrev N_kind_of_fold : List Str := ["name", "fold", "told", "kinds", "kind"]
def spKF (C : Addr) : Sp := fun vs H Q E => ∃ (nm op : Str) (tv : V) (kd : Addr) (kf : Str → Option Bool) (oe : Option Ex) (kk : Bool) (nn : Str), vs = [.str nm, .str op, tv, .ref kd] ∧ FTo H tv oe ∧ (op ≠ "count" → ∃ e, oe = some e ∧ ExOk e) ∧ KdAt H kd kf ∧
  (∀ b, foldK kf (op, oe, kk, nn) = some b → ∀ H', Same H H' → Q (.str (kW b)) H') ∧ (foldK kf (op, oe, kk, nn) = none → BadE C nm H E)
theorem sc_kf : FnScope N_kind_of_fold ["name", "fold", "told", "kinds"] (defScope s_kind_of_fold) := ⟨rfl, rfl, rfl, by decide +kernel, rfl, by decide +kernel, by decide +kernel⟩
theorem ok_kf {f C fI : Addr} {fd : FuncData} (F : Fun K "kind_of_fold" "kind_of_fold" s_kind_of_fold f fd) (T : PySem.BadY.BadTxt K mg C fI) (G_kind_of : Ready P w K mg base 13 "kind_of" ["told", "kinds"] (spKind 12)) : FnOk P w K mg base (L2.CX P w) 14 f fd ["name", "fold", "told", "kinds"] (spKF C) := by
  refine F.okX sc_kf (fun vs H Q E h => ?_) (fun cdv A outer s H vs Q E hr h => ?_)
  · obtain ⟨nm, op, tv, kd, kf, oe, kk, nn, rfl, _⟩ := h
    rfl
  obtain ⟨nm, op, tv, kd, kf, oe, kk, nn, rfl, ht, ho, hk, q, qe⟩ := h
  have nd := sc_kf.nd
  have hr1 : Room 1 _ := hr.mono (by decide)
  have hrk : Room 13 _ := hr
  refine ⟨_, pss_cons (ps_if (pt_cmpR op_eq (pv 1) pe_str (nomark _)) (pss_one (ps_ret pe_str)) (pss_nil))
      (pss_cons (ps_set (i := 4) nd rfl (.inl rfl) (pe_fn G_kind_of hrk (pa_cons (pv 2) (pa_cons (pv 3) pa_nil))))
      (pss_cons (ps_if (PW.pt (pw_or (pt_cmpR op_isN (pv 4) pe_non (nomark _)) (pw_or1 (PW.pt (pw_and (pt_cmpR op_in_seq (pv 1) (pe_tup (pa_cons pe_str (pa_cons pe_str pa_nil))) (by with_unfolding_all rfl)) (pw_and1 (pt_cmpR op_ne (pv 4) pe_str (nomark _)))))))) (pss_one (ps_raiseBad2 rfl T hr1 (takes_of rfl rfl rfl rfl) (pa_cons (pv 0) (pa_cons pe_str pa_nil)))) (pss_nil))
      (pss_cons (ps_if (pt_cmpR op_in_seq (pv 1) (pe_tup (pa_cons pe_str (pa_cons pe_str pa_nil))) (by with_unfolding_all rfl)) (pss_one (ps_ret (pv 4))) (pss_nil))
      (pss_one (ps_ret pe_str))))), ?_⟩
  have z2 : 2 ≤ sizeLine := by decide
  refine ⟨_, rfl, rfl, _, rfl, ite2 (fun c => ?_) (fun c => ?_)⟩
  · have c' : op = "count" := by
      have := of_decide_eq_true c
      injection this
    exact q true (by unfold foldK; rw [if_pos c']) H (Same.refl _)
  have nc : op ≠ "count" := fun e => c (decide_eq_true (by rw [e]))
  obtain ⟨e, rfl, oe1, oe2⟩ := ho nc
  refine ⟨_, rfl, _, rfl, tv, kd, kf, e, rfl, ht, oe1, oe2, hk, ?_⟩
  have q' : ∀ b, (match kindE kf e with | none => none | some b => if (op ∈ (["sum", "mean"] : List Str)) ∧ b = false then none else some (lateK op b)) = some b → ∀ H', Same H H' → Q (.str (kW b)) H' := fun b h => q b (by unfold foldK; rw [if_neg nc]; exact h)
  have qe' : (match kindE kf e with | none => none | some b => if (op ∈ (["sum", "mean"] : List Str)) ∧ b = false then none else some (lateK op b)) = none → BadE C nm H E := fun h => qe (by unfold foldK; rw [if_neg nc]; exact h)
  clear q qe
  generalize kindE kf e = o at q' qe' ⊢
  cases o with
  | none => exact ⟨_, rfl, rfl, _, rfl, iteT (iteT ⟨_, rfl, _, _, rfl, fun d nd' => qe' rfl _ _ d (Same.refl _) nd'⟩)⟩
  | some b =>
    refine ⟨_, rfl, rfl, _, rfl, iteF ?_⟩
    refine ⟨_, rfl, z2, fun t ht' => ⟨t, (["sum", "mean"] : List Str).map V.str, rfl, .inr (SqT.of upd_same), rfl, flat_strs _, _, rfl, ?_⟩⟩
    have s1 := same_upd (o := .tup [.str "sum", .str "mean"]) ht'
    refine in_strs (fun hin => ?_) (fun hin => iteF ?_)
    · cases b with
      | true =>
        refine ⟨_, rfl, rfl, _, rfl, iteF ?_⟩
        have b1 : True := trivial
        refine ⟨_, rfl, z2, fun t2 ht2 => ⟨t2, (["least", "greatest"] : List Str).map V.str, rfl, .inr (SqT.of upd_same), rfl, flat_strs _, _, rfl, ?_⟩⟩
        have s2 := s1.trans (same_upd (o := .tup [.str "least", .str "greatest"]) ht2)
        have qq := q' (lateK op true) (if_neg (fun z => by cases z.2)) _ s2
        unfold lateK at qq
        refine in_strs (fun h2 => ⟨_, rfl, ?_⟩) (fun h2 => ?_)
        · rw [if_pos h2] at qq
          exact qq
        · rw [if_neg h2] at qq
          exact qq
      | false =>
        refine ⟨_, rfl, rfl, _, rfl, iteT ⟨_, rfl, _, _, rfl, fun d nd' => qe' (if_pos ⟨hin, rfl⟩) _ _ d s1 nd'⟩⟩
    · have b1 : True := trivial
      refine ⟨_, rfl, z2, fun t2 ht2 => ⟨t2, (["least", "greatest"] : List Str).map V.str, rfl, .inr (SqT.of upd_same), rfl, flat_strs _, _, rfl, ?_⟩⟩
      have s2 := s1.trans (same_upd (o := .tup [.str "least", .str "greatest"]) ht2)
      have qq := q' (lateK op b) (if_neg (fun z => hin z.1)) _ s2
      unfold lateK at qq
      refine in_strs (fun h2 => ⟨_, rfl, ?_⟩) (fun h2 => ?_)
      · rw [if_pos h2] at qq
        exact qq
      · rw [if_neg h2] at qq
        exact qq
end
end Kx

set_option maxHeartbeats 8000000
namespace Kx
open PySem PySem.Spec PyProof.Rows L2







section
variable {P : Program} {w : World} {K : PySem.W.Frag} {mg : Str → Option Value} {base : Heap}
theorem KdAt.but {H H' : Hp} {kd d : Addr} {kf : Str → Option Bool} {l : List V} (k : KdAt H kd kf) (b : But d H H') (hd : H d = some (.lst l)) : KdAt H' kd kf := by
  obtain ⟨kvs, e, g⟩ := k
  exact ⟨kvs, b _ _ (fun z => by rw [z, hd] at e; cases e) e, g⟩
theorem pairs_push {H H' : Hp} {cl q : Addr} {l l' : List V} {qs : List Col} {c : NC} (hc : H cl = some (.lst l)) (hp : PairsAt H qs) (hq : H q = none) : PairsAt (upd (upd H q (.tup [.str c.1, .str (kW c.2)])) cl (.lst l')) (qs ++ [(q, c)]) := fun x hx => by
  have n1 : q ≠ cl := (ne_of_none hc hq).symm
  rcases List.mem_append.mp hx with hx | hx
  · have e := hp x hx
    rw [upd_ne (fun z => by rw [z, hc] at e; cases e)]
    exact same_upd hq _ _ e
  · rw [List.mem_singleton.mp hx]
    rw [upd_ne n1]
    exact upd_same
/-! ### columns_of_map -/
abbrev N_columns_of_map : List Str := ["name", "given", "details", "kinds", "columns", "told", "column", "kind"]
theorem sc_cmap : FnScope N_columns_of_map ["name", "given", "details"] (defScope s_columns_of_map) := ⟨rfl, rfl, rfl, by decide +kernel, rfl, by decide +kernel, by decide +kernel⟩
theorem ok_cmap {f C fI : Addr} {fd : FuncData} (F : Fun K "columns_of_map" "columns_of_map" s_columns_of_map f fd) (T : PySem.BadY.BadTxt K mg C fI) (m_dict : mg "dict" = none) (G_kind_of : Ready P w K mg base 13 "kind_of" ["told", "kinds"] (spKind 12)) (G_unlike_columns : ReadyX P w K mg base 2 "unlike_columns" ["name", "columns"] (spUnl K C)) : FnOk P w K mg base (L2.CX P w) 14 f fd ["name", "given", "details"] (spChk K C "map") := by
  refine F.okX sc_cmap (fun vs H Q E h => ?_) (fun cdv A outer s H vs Q E hr h => ?_)
  · obtain ⟨nm, gv, dv, det, gs, css, rfl, _⟩ := h
    rfl
  obtain ⟨nm, gv, dv, det, gs, css, rfl, hw, hgv, hg, har, hd, hok, q, qe⟩ := h
  have nd := sc_cmap.nd
  have hr1 : Room 1 _ := hr.mono (by decide)
  have hr2 : Room 2 _ := hr.mono (by decide)
  have hrk : Room 13 _ := hr
  refine ⟨_, pss_cons (ps_set (i := 3) nd rfl (.inl rfl) (pe_callTy (cr_dictT rfl) (by rfl) m_dict PyProof.Rows.boot_dict (pa_cons (pe_ix (show IxR _ (rIxL K) from ix_list) (pv 1) pe_int (fun _ _ => rfl)) pa_nil)))
      (pss_cons (ps_set (i := 4) nd rfl (.inl rfl) (pe_lst pa_nil))
      (pss_cons (ps_for (passes_of rfl) rfl (pi_tup (pv 2)) (pg_tup rfl (pgs_cons (pg_name (i := 5) nd rfl (.inl rfl)) (pgs_cons (pg_name (i := 6) nd rfl (.inl rfl)) pgs_nil))) (pss_cons (ps_set (i := 7) nd rfl (.inl rfl) (pe_fn G_kind_of hrk (pa_cons (pv 5) (pa_cons (pv 3) pa_nil))))
      (pss_cons (ps_if (pt_cmpR op_isN (pv 7) pe_non (nomark _)) (pss_one (ps_raiseBad2 rfl T hr1 (takes_of rfl rfl rfl rfl) (pa_cons (pv 0) (pa_cons pe_str pa_nil)))) (pss_nil))
      (pss_one (ps_expr (pe_bm PySem.F.plainAttrs_list PySem.F.slot_list_append PySem.F.type_list_append mt_append (pv 4) (pa_cons (pe_tup (pa_cons (pv 6) (pa_cons (pv 7) pa_nil))) pa_nil)))))))
      (pss_one (ps_ret (pe_fnX G_unlike_columns hr2 (takes_of rfl rfl rfl rfl) (pa_cons (pv 0) (pa_cons (pv 4) pa_nil))))))), ?_⟩
  have z2 : 2 ≤ sizeLine := by decide
  obtain ⟨ms, rfl⟩ := what_map hw
  obtain ⟨a, c, rfl, rfl, hc, gc⟩ := given1 hg har
  obtain ⟨as, tf, hp, ec⟩ := id hc
  obtain ⟨t, ps, rfl, h1, h2, rfl⟩ := hd
  have lp : ps.length ≤ 100 := by
    have := hok.1
    rw [List.length_map] at this
    exact this
  refine ⟨_, rfl, gv, _, 0, _, rfl, rfl, hgv, rfl, a, as.map (·.1), as.map fun c => (c.2.1, V.str (kW c.2.2)), rfl, by rw [List.map_map]; exact tf, paired_cols hp, fun kd hkd => ?_⟩
  have s1 := same_upd (o := .dK (mergeK [] ((as.map fun c => (c.2.1, V.str (kW c.2.2))).map fun kv => ((.inr kv.1 : L2.Key), kv.2)))) hkd
  have hK := kd_new (H := H) (kd := kd) ec gc.nod
  generalize upd H kd (.dK (mergeK [] ((as.map fun c => (c.2.1, V.str (kW c.2.2))).map fun kv => ((.inr kv.1 : L2.Key), kv.2)))) = H1 at s1 hK ⊢
  refine ⟨Nat.zero_le _, fun cl hcl => ?_⟩
  have ncl : H cl = none := none_same s1 hcl
  have s2 := s1.trans (same_upd (o := .lst []) hcl)
  have hK2 := hK.keep (same_upd (o := .lst []) hcl)
  have ecl : upd H1 cl (.lst []) cl = some (.lst []) := upd_same
  generalize upd H1 cl (.lst []) = H2 at s2 hK2 ecl ⊢
  clear hK s1 hcl hkd
  let gN : MC → NC := fun m => (m.2.2, (kindE (kfN c) m.1).getD true)
  refine ⟨_, rfl, t, rfl, ⟨_, SqT.of (s2 _ _ h1)⟩, ?_⟩
  refine for_tup (K := K) (a := t) (xs := ps.map fun p => .ref p.1) (fun i σ H' => ∃ y5 y6 y7 qs, σ = [some (.str nm), some (.ref gv), some (.ref t), some (.ref kd), some (.ref cl), y5, y6, y7] ∧ But cl H2 H' ∧ H' cl = some (.lst (qs.map fun c => .ref c.1)) ∧ PairsAt H' qs ∧ qs.map (·.2) = ((ps.map (·.2)).take i).map gN ∧ ∀ m ∈ (ps.map (·.2)).take i, (kindE (kfN c) m.1).isSome = true)
    ⟨_, _, _, [], rfl, But.refl _ _, ecl, fun x hx => absurd hx List.not_mem_nil, by simp, fun m hm => absurd hm (by simp)⟩ (fun i σ H' _ h => by
      obtain ⟨_, _, _, _, _, b, _⟩ := h
      exact SqT.of (b.tup ecl _ _ (s2 _ _ h1))) ?_ ?_
  · rintro i x σ H' hx ⟨y5, y6, y7, qs, rfl, b, e, hpq, eq, hall⟩
    rw [List.getElem?_map] at hx
    obtain ⟨p, hp', rfl⟩ := Option.map_eq_some_iff.mp hx
    have hi : i < ps.length := (List.getElem?_eq_some_iff.mp hp').1
    have pm := List.mem_of_getElem? hp'
    obtain ⟨told, t1, t2⟩ := h2 p pm
    have t1' := b.tup ecl _ _ (s2 _ _ t1)
    have kt : KeepT H H' := fun a xs e => b.tup ecl _ _ (s2 _ _ e)
    have eo := hok.2 p.2 (List.mem_map.mpr ⟨p, pm, rfl⟩)
    have tk : (ps.map (·.2)).take (i + 1) = (ps.map (·.2)).take i ++ [p.2] := by
      rw [List.take_add_one, List.getElem?_map, hp']
      rfl
    refine ⟨p.1, _, rfl, SqT.of t1', rfl, _, _, rfl, _, _, rfl, rfl, ?_⟩
    refine ⟨_, rfl, _, rfl, told, kd, kfN c, p.2.1, rfl, t2.keep kt, eo.1, eo.2, hK2.but b ecl, ?_⟩
    have lq : qs.length ≤ 100 := by
      have h := congrArg List.length eq
      rw [List.length_map, List.length_map, List.length_take, List.length_map] at h
      omega
    cases ho : kindE (kfN c) p.2.1 with
    | none =>
      refine ⟨_, rfl, rfl, _, rfl, iteT ⟨_, rfl, _, _, rfl, fun d nd' => ?_⟩⟩
      have : colsD [c] (.map (ps.map (·.2))) = none := by
        refine if_neg fun z => ?_
        have h := List.all_eq_true.mp z p.2 (List.mem_map.mpr ⟨p, pm, rfl⟩)
        have h' : (kindE (kfN c) p.2.1).isSome = true := h
        rw [ho] at h'
        cases h'
      exact qe this _ _ d (same_of_but s2 b ncl) nd'
    | some k =>
      refine ⟨_, rfl, rfl, _, rfl, iteF ?_⟩
      refine ⟨_, rfl, .inl ⟨rfl, _, SqL.of e⟩, _, rfl, _, rfl, z2, fun r hr' => ?_⟩
      have e' := same_upd (o := .tup [.str p.2.2.2, .str (kW k)]) hr' _ _ e
      refine ⟨cl, _, _, rfl, rfl, e', Nat.lt_of_le_of_lt (show _ ≤ 100 by rw [List.length_map]; exact lq) (by decide), _, _, _, qs ++ [(r, p.2.2.2, k)], rfl, fun x o hx' ex => ?_, by rw [upd_same, List.map_append]; rfl, pairs_push (c := (p.2.2.2, k)) (H' := H') (l := qs.map fun c => .ref c.1) e hpq hr', ?_, fun m hm => ?_⟩
      · rw [upd_ne hx']
        exact same_upd hr' _ _ (b _ _ hx' ex)
      · rw [tk, List.map_append, List.map_append, eq]
        show _ ++ [(p.2.2.2, k)] = _ ++ [(p.2.2.2, (kindE (kfN c) p.2.1).getD true)]
        rw [ho]
        rfl
      · rw [tk] at hm
        rcases List.mem_append.mp hm with hm | hm
        · exact hall m hm
        · rw [List.mem_singleton.mp hm, ho]
          rfl
  · rintro σ H' ⟨y5, y6, y7, qs, rfl, b, e, hpq, eq, hall⟩
    rw [List.length_map, List.take_of_length_le (by rw [List.length_map]; exact Nat.le_refl _)] at eq hall
    have sf := same_of_but s2 b ncl
    have hcols : colsD [c] (.map (ps.map (·.2))) = ndC (qs.map (·.2)) := by
      rw [eq]
      exact if_pos (List.all_eq_true.mpr hall)
    have e1 : ((qs.map (·.2)).map (·.1)) = qs.map fun c => c.2.1 := by
      rw [List.map_map]
      rfl
    have lq : qs.length ≤ 100 := by
      have h := congrArg List.length eq
      rw [List.length_map, List.length_map, List.length_map] at h
      omega
    refine ⟨_, rfl, _, rfl, nm, cl, qs, rfl, .inr e, hpq, by omega, fun hn a' H'' sm ta => ?_, fun hn => ?_⟩
    · exact q _ (hcols.trans (if_pos (by rw [e1]; exact hn))) a' H'' (sf.trans sm) ⟨qs, ta, fun x hx => sm _ _ (hpq x hx), rfl⟩
    · have hb := qe (hcols.trans (if_neg (by rw [e1]; exact hn)))
      exact fun H'' u d sm nd' => hb H'' u d (sf.trans sm) nd'
end
end Kx

set_option maxHeartbeats 8000000
namespace Kx
open PySem PySem.Spec PyProof.Rows L2







section
variable {P : Program} {w : World} {K : PySem.W.Frag} {mg : Str → Option Value} {base : Heap}
/-! ### columns_of_fold -/
abbrev N_columns_of_fold : List Str := ["name", "given", "details", "kinds", "keys", "folds", "columns", "key", "fold", "told", "column"]
theorem sc_cfold : FnScope N_columns_of_fold ["name", "given", "details"] (defScope s_columns_of_fold) := ⟨rfl, rfl, rfl, by decide +kernel, rfl, by decide +kernel, by decide +kernel⟩
theorem all_some {kf : Str → Option Bool} {ks : List NC} : (∀ x ∈ ks.map (·.1), kf x ≠ none) ↔ ks.all (fun k => (kf k.1).isSome) = true := by
  rw [List.all_eq_true]
  constructor
  · intro h k hk
    have := h k.1 (List.mem_map.mpr ⟨k, hk, rfl⟩)
    cases hh : kf k.1 with
    | none => exact absurd hh this
    | some b => rfl
  · intro h x hx z
    obtain ⟨k, hk, rfl⟩ := List.mem_map.mp hx
    have h' := h k hk
    rw [z] at h'
    cases h'
theorem ok_cfold {f C fI : Addr} {fd : FuncData} (F : Fun K "columns_of_fold" "columns_of_fold" s_columns_of_fold f fd) (T : PySem.BadY.BadTxt K mg C fI) (m_dict : mg "dict" = none) (G_kind_of_fold : ReadyX P w K mg base 14 "kind_of_fold" ["name", "fold", "told", "kinds"] (spKF C)) (G_check_there : ReadyX P w K mg base 2 "check_there" ["name", "words", "kinds"] (spThere K C)) (G_unlike_columns : ReadyX P w K mg base 2 "unlike_columns" ["name", "columns"] (spUnl K C)) : FnOk P w K mg base (L2.CX P w) 15 f fd ["name", "given", "details"] (spChk K C "fold") := by
  refine F.okX sc_cfold (fun vs H Q E h => ?_) (fun cdv A outer s H vs Q E hr h => ?_)
  · obtain ⟨nm, gv, dv, det, gs, css, rfl, _⟩ := h
    rfl
  obtain ⟨nm, gv, dv, det, gs, css, rfl, hw, hgv, hg, har, hd, hok, q, qe⟩ := h
  have nd := sc_cfold.nd
  have hr1 : Room 1 _ := hr.mono (by decide)
  have hr2 : Room 2 _ := hr.mono (by decide)
  have hr14 : Room 14 _ := hr
  have hu64 : _ + 64 < cLine := hr.units
  have hu1 : _ + 1 < cLine := Nat.lt_of_le_of_lt (Nat.add_le_add_left (by decide : 1 ≤ 64) _) hu64
  refine ⟨_, pss_cons (ps_set (i := 3) nd rfl (.inr rfl) (pe_callTy (cr_dictT rfl) (by rfl) m_dict PyProof.Rows.boot_dict (pa_cons (pe_ix (show IxR _ (rIxL K) from ix_list) (pv 1) pe_int (fun _ _ => rfl)) pa_nil)))
      (pss_cons (ps_asg (pv 2) (pg_tup rfl (pgs_cons (pg_name (i := 4) nd rfl (.inl rfl)) (pgs_cons (pg_name (i := 5) nd rfl (.inl rfl)) pgs_nil))))
      (pss_cons (ps_expr (pe_fnX G_check_there hr2 (takes_of rfl rfl rfl rfl) (pa_cons (pv 0) (pa_cons (pv 4) (pa_cons (pv 3) pa_nil)))))
      (pss_cons (ps_setLc (i := 6) (own := [("key", 7)]) (g := gName 7) (tt := tYes) rfl nd rfl rfl (sw_true rfl rfl rfl (by decide +kernel)) (pi_tup (pv 4)) (blkOk_by (N := N_columns_of_fold) (sc := defScope s_columns_of_fold) (by decide +kernel)) (fun _ _ _ _ _ => pg_name (i := 7) nd rfl (Or.inl rfl)) (fun _ _ _ _ _ => pts_nil) (fun _ _ _ _ _ => (pe_tup (pa_cons (pv 7) (pa_cons (pe_dget hu1 (pv 3) (pv 7) (fun _ _ => rfl)) pa_nil)))))
      (pss_cons (ps_for (passes_of rfl) rfl (pi_tup (pv 5)) (pg_tup rfl (pgs_cons (pg_name (i := 8) nd rfl (.inl rfl)) (pgs_cons (pg_name (i := 9) nd rfl (.inl rfl)) (pgs_cons (pg_name (i := 10) nd rfl (.inl rfl)) pgs_nil)))) (pss_one (ps_expr (pe_bm PySem.F.plainAttrs_list PySem.F.slot_list_append PySem.F.type_list_append mt_append (pv 6) (pa_cons (pe_tup (pa_cons (pv 10) (pa_cons (pe_fnX G_kind_of_fold hr14 (takes_of rfl rfl rfl rfl) (pa_cons (pv 0) (pa_cons (pv 8) (pa_cons (pv 9) (pa_cons (pv 3) pa_nil))))) pa_nil))) pa_nil)))))
      (pss_one (ps_ret (pe_fnX G_unlike_columns hr2 (takes_of rfl rfl rfl rfl) (pa_cons (pv 0) (pa_cons (pv 6) pa_nil))))))))), ?_⟩
  have z2 : 2 ≤ sizeLine := by decide
  obtain ⟨ks, fs, rfl⟩ := what_fold hw
  obtain ⟨a, c, rfl, rfl, hc, gc⟩ := given1 hg har
  obtain ⟨as, tf, hp, ec⟩ := id hc
  obtain ⟨t, kt, ft, ps, rfl, h1, h2, h3, h4, rfl⟩ := hd
  obtain ⟨lk, lf, hfs⟩ := hok
  rw [List.length_map] at lf
  have h2' : H kt = some (.tup ((ks.map (·.1)).map V.str)) := by
    rw [List.map_map]
    exact h2
  refine ⟨_, rfl, gv, _, 0, _, rfl, rfl, hgv, rfl, a, as.map (·.1), as.map fun c => (c.2.1, V.str (kW c.2.2)), rfl, by rw [List.map_map]; exact tf, paired_cols hp, fun kd hkd => ?_⟩
  have s1 := same_upd (o := .dK (mergeK [] ((as.map fun c => (c.2.1, V.str (kW c.2.2))).map fun kv => ((.inr kv.1 : L2.Key), kv.2)))) hkd
  have hK := kd_new (H := H) (kd := kd) ec gc.nod
  generalize upd H kd (.dK (mergeK [] ((as.map fun c => (c.2.1, V.str (kW c.2.2))).map fun kv => ((.inr kv.1 : L2.Key), kv.2)))) = H1 at s1 hK ⊢
  refine ⟨_, rfl, t, _, rfl, SqT.of (s1 _ _ h1), rfl, _, _, rfl, _, _, rfl, rfl, ?_⟩
  refine ⟨_, rfl, _, rfl, _, rfl, nm, kt, kd, ks.map (·.1), kfN c, rfl, .inl (SqT.of (s1 _ _ h2')), hK, fun hall => ?_, fun hex => ?_⟩
  rotate_left
  · have : colsD [c] (.fold ks (ps.map (·.2))) = none := by
      refine if_neg fun z => ?_
      obtain ⟨x, hx, hn⟩ := hex
      exact all_some.mpr (Bool.and_eq_true_iff.mp z).1 x hx hn
    have hb := qe this
    exact fun H' u d sm nd' => hb H' u d (s1.trans sm) nd'
  -- columns of the keys
  obtain ⟨kvs, ek, gk⟩ := id hK
  let kN : NC → NC := fun k => (k.1, (kfN c k.1).getD true)
  refine ⟨_, rfl, kt, rfl, ⟨_, SqT.of (s1 _ _ h2')⟩, fun cl hcl => ?_⟩
  have ncl : H cl = none := none_same s1 hcl
  refine lc_tup (K := K) (a := kt) (xs := (ks.map (·.1)).map V.str) (fun i H' => Same H1 H' ∧ ∃ qs : List Col, H' cl = some (.lst (qs.map fun c => .ref c.1)) ∧ PairsAt H' qs ∧ qs.map (·.2) = (ks.take i).map kN) ⟨same_upd hcl, [], upd_same, fun x hx => absurd hx List.not_mem_nil, by simp⟩ (fun i H' _ h => SqT.of (h.1 _ _ (s1 _ _ h2'))) ?_ ?_
  · rintro i x H' hx ⟨sm, qs, e, hpq, eq⟩
    rw [List.getElem?_map, List.getElem?_map, Option.map_map] at hx
    obtain ⟨k, hk', rfl⟩ := Option.map_eq_some_iff.mp hx
    have hk0 := hall k.1 (List.mem_map.mpr ⟨k, List.mem_of_getElem? hk', rfl⟩)
    have tk : ks.take (i + 1) = ks.take i ++ [k] := by
      rw [List.take_add_one, hk']
      rfl
    have lq : qs.length ≤ 100 := by
      have h := congrArg List.length eq
      rw [List.length_map, List.length_map, List.length_take] at h
      omega
    cases hb : kfN c k.1 with
    | none => exact absurd hb hk0
    | some b =>
      have gt : DGet H' kd (.str k.1) (some (.str (kW b))) := by
        have h0 : valV kvs (.inr k.1) = some (.str (kW b)) := by rw [gk, hb]; rfl
        exact h0 ▸ DGet.k (k := .inr k.1) (sm _ _ ek)
      refine ⟨rfl, _, rfl, _, rfl, _, rfl, kd, _, rfl, gt, z2, fun r hr' => ?_⟩
      have e' := same_upd (o := .tup [.str k.1, .str (kW b)]) hr' _ _ e
      refine ⟨_, e', Nat.lt_of_le_of_lt (show _ ≤ 100 by rw [List.length_map]; exact lq) (by decide), fun b' o' ex => ?_, qs ++ [(r, k.1, b)], by rw [upd_same, List.map_append]; rfl, pairs_push (c := (k.1, b)) (H' := H') (l := qs.map fun c => .ref c.1) e hpq hr', ?_⟩
      · rw [upd_ne (ne_of_none ex hcl)]
        exact same_upd hr' _ _ (sm _ _ ex)
      · rw [tk, List.map_append, List.map_append, eq]
        show _ ++ [(k.1, b)] = _ ++ [(k.1, (kfN c k.1).getD true)]
        rw [hb]
        rfl
  rintro H2 ⟨sm2, qs0, ecl, hpq0, eq0⟩
  rw [List.length_map, List.length_map, List.take_length] at eq0
  have s2 := s1.trans sm2
  have hK2 := hK.keep sm2
  let fN : FC → NC := fun m => (m.2.2.2, (foldK (kfN c) m).getD true)
  refine ⟨_, rfl, ft, rfl, ⟨_, SqT.of (s2 _ _ h3)⟩, ?_⟩
  refine for_tup (K := K) (a := ft) (xs := ps.map fun p => .ref p.1) (fun i σ H' => ∃ y7 y8 y9 y10 qs, σ = [some (.str nm), some (.ref gv), some (.ref t), some (.ref kd), some (.ref kt), some (.ref ft), some (.ref cl), y7, y8, y9, y10] ∧ But cl H2 H' ∧ H' cl = some (.lst (qs.map fun c => .ref c.1)) ∧ PairsAt H' qs ∧ qs.map (·.2) = ks.map kN ++ ((ps.map (·.2)).take i).map fN ∧ ∀ m ∈ (ps.map (·.2)).take i, (foldK (kfN c) m).isSome = true)
    ⟨_, _, _, _, qs0, rfl, But.refl _ _, ecl, hpq0, by rw [eq0]; simp, fun m hm => absurd hm (by simp)⟩ (fun i σ H' _ h => by
      obtain ⟨_, _, _, _, _, _, b, _⟩ := h
      exact SqT.of (b.tup ecl _ _ (s2 _ _ h3))) ?_ ?_
  · rintro i x σ H' hx ⟨y7, y8, y9, y10, qs, rfl, b, e, hpq, eq, hal⟩
    rw [List.getElem?_map] at hx
    obtain ⟨p, hp', rfl⟩ := Option.map_eq_some_iff.mp hx
    have hi : i < ps.length := (List.getElem?_eq_some_iff.mp hp').1
    have pm := List.mem_of_getElem? hp'
    obtain ⟨told, t1, t2⟩ := h4 p pm
    have kt' : KeepT H H' := fun a xs e => b.tup ecl _ _ (s2 _ _ e)
    have tk : (ps.map (·.2)).take (i + 1) = (ps.map (·.2)).take i ++ [p.2] := by
      rw [List.take_add_one, List.getElem?_map, hp']
      rfl
    have lq : qs.length ≤ 200 := by
      have h := congrArg List.length eq
      rw [List.length_map, List.length_append, List.length_map, List.length_map, List.length_take, List.length_map] at h
      omega
    refine ⟨p.1, _, rfl, SqT.of (kt' _ _ t1), rfl, _, _, rfl, _, _, rfl, _, _, rfl, rfl, ?_⟩
    refine ⟨_, rfl, .inl ⟨rfl, _, SqL.of e⟩, _, rfl, _, rfl, _, rfl, _, rfl, _, rfl, nm, p.2.1, told, kd, kfN c, p.2.2.1, p.2.2.2.1, p.2.2.2.2, rfl, t2.keep kt', hfs p.2 (List.mem_map.mpr ⟨p, pm, rfl⟩), hK2.but b ecl, fun k hk H3 s3 => ⟨z2, fun r hr' => ?_⟩, fun hn => ?_⟩
    · have e3 := s3 _ _ e
      have e' := same_upd (o := .tup [.str p.2.2.2.2, .str (kW k)]) hr' _ _ e3
      refine ⟨cl, _, _, rfl, rfl, e', Nat.lt_of_le_of_lt (show _ ≤ 200 by rw [List.length_map]; exact lq) (by decide), _, _, _, _, qs ++ [(r, p.2.2.2.2, k)], rfl, fun x o hx' ex => ?_, by rw [upd_same, List.map_append]; rfl, pairs_push (c := (p.2.2.2.2, k)) (H' := H3) (l := qs.map fun c => .ref c.1) e3 (fun x hx' => s3 _ _ (hpq x hx')) hr', ?_, fun m hm => ?_⟩
      · rw [upd_ne hx']
        exact same_upd hr' _ _ (s3 _ _ (b _ _ hx' ex))
      · rw [tk, List.map_append, List.map_append, eq, List.append_assoc]
        show _ ++ (_ ++ [(p.2.2.2.2, k)]) = _ ++ (_ ++ [(p.2.2.2.2, (foldK (kfN c) p.2).getD true)])
        rw [show foldK (kfN c) p.2 = some k from hk]
        rfl
      · rw [tk] at hm
        rcases List.mem_append.mp hm with hm | hm
        · exact hal m hm
        · rw [List.mem_singleton.mp hm, show foldK (kfN c) p.2 = some k from hk]
          rfl
    · have : colsD [c] (.fold ks (ps.map (·.2))) = none := by
        refine if_neg fun z => ?_
        have h := List.all_eq_true.mp (Bool.and_eq_true_iff.mp z).2 p.2 (List.mem_map.mpr ⟨p, pm, rfl⟩)
        have h' : (foldK (kfN c) p.2).isSome = true := h
        rw [show foldK (kfN c) p.2 = none from hn] at h'
        cases h'
      have hb := qe this
      exact fun H'' u d sm nd' => hb H'' u d ((same_of_but s2 b ncl).trans sm) nd'
  · rintro σ H' ⟨y7, y8, y9, y10, qs, rfl, b, e, hpq, eq, hal⟩
    rw [List.length_map, List.take_of_length_le (by rw [List.length_map]; exact Nat.le_refl _)] at eq hal
    have sf := same_of_but s2 b ncl
    have hcols : colsD [c] (.fold ks (ps.map (·.2))) = ndC (qs.map (·.2)) := by
      rw [eq]
      exact if_pos (Bool.and_eq_true_iff.mpr ⟨all_some.mp hall, List.all_eq_true.mpr hal⟩)
    have e1 : ((qs.map (·.2)).map (·.1)) = qs.map fun c => c.2.1 := by
      rw [List.map_map]
      rfl
    have lq : qs.length ≤ 200 := by
      have h := congrArg List.length eq
      rw [List.length_map, List.length_append, List.length_map, List.length_map, List.length_map] at h
      omega
    refine ⟨_, rfl, _, rfl, nm, cl, qs, rfl, .inr e, hpq, by omega, fun hn a' H'' sm ta => ?_, fun hn => ?_⟩
    · exact q _ (hcols.trans (if_pos (by rw [e1]; exact hn))) a' H'' (sf.trans sm) ⟨qs, ta, fun x hx => sm _ _ (hpq x hx), rfl⟩
    · have hb := qe (hcols.trans (if_neg (by rw [e1]; exact hn)))
      exact fun H'' u d sm nd' => hb H'' u d (sf.trans sm) nd'
end
end Kx

set_option maxHeartbeats 8000000
namespace Kx
open PySem PySem.Spec PyProof.Rows L2
abbrev s_columns_of_join : Stmt := topS 15







section
variable {P : Program} {w : World} {K : PySem.W.Frag} {mg : Str → Option Value} {base : Heap}
/-! ### columns_of_join -/
abbrev N_columns_of_join : List Str := ["name", "given", "details", "ones", "others", "one_kinds", "other_kinds", "key", "columns", "pair"]
theorem sc_cjoin : FnScope N_columns_of_join ["name", "given", "details"] (defScope s_columns_of_join) := ⟨rfl, rfl, rfl, by decide +kernel, rfl, by decide +kernel, by decide +kernel⟩
theorem ok_cjoin {f C fI : Addr} {fd : FuncData} (F : Fun K "columns_of_join" "columns_of_join" s_columns_of_join f fd) (T : PySem.BadY.BadTxt K mg C fI) (m_dict : mg "dict" = none) (G_check_there : ReadyX P w K mg base 2 "check_there" ["name", "words", "kinds"] (spThere K C)) (G_unlike_columns : ReadyX P w K mg base 2 "unlike_columns" ["name", "columns"] (spUnl K C)) : FnOk P w K mg base (L2.CX P w) 3 f fd ["name", "given", "details"] (spChk K C "join") := by
  refine F.okX sc_cjoin (fun vs H Q E h => ?_) (fun cdv A outer s H vs Q E hr h => ?_)
  · obtain ⟨nm, gv, dv, det, gs, css, rfl, _⟩ := h
    rfl
  obtain ⟨nm, gv, dv, det, gs, css, rfl, hw, hgv, hg, har, hd, hok, q, qe⟩ := h
  have nd := sc_cjoin.nd
  have hr1 : Room 1 _ := hr.mono (by decide)
  have hr2 : Room 2 _ := hr.mono (by decide)
  have hu64 : _ + 64 < cLine := hr.units
  have hu1 : _ + 1 < cLine := Nat.lt_of_le_of_lt (Nat.add_le_add_left (by decide : 1 ≤ 64) _) hu64
  refine ⟨_, pss_cons (ps_asg (pv 1) (pg_unl rfl (pgs_cons (pg_name (i := 3) nd rfl (.inl rfl)) (pgs_cons (pg_name (i := 4) nd rfl (.inl rfl)) pgs_nil))))
      (pss_cons (ps_set (i := 5) nd rfl (.inr rfl) (pe_callTy (cr_dictT rfl) (by rfl) m_dict PyProof.Rows.boot_dict (pa_cons (pv 3) pa_nil)))
      (pss_cons (ps_set (i := 6) nd rfl (.inl rfl) (pe_callTy (cr_dictT rfl) (by rfl) m_dict PyProof.Rows.boot_dict (pa_cons (pv 4) pa_nil)))
      (pss_cons (ps_expr (pe_fnX G_check_there hr2 (takes_of rfl rfl rfl rfl) (pa_cons (pv 0) (pa_cons (pv 2) (pa_cons (pv 5) pa_nil)))))
      (pss_cons (ps_expr (pe_fnX G_check_there hr2 (takes_of rfl rfl rfl rfl) (pa_cons (pv 0) (pa_cons (pv 2) (pa_cons (pv 6) pa_nil)))))
      (pss_cons (ps_for (passes_of rfl) rfl (pi_tup (pv 2)) (pg_name (i := 7) nd rfl (.inl rfl)) (pss_one (ps_if (pt_cmpR op_ne (pe_dget hu1 (pv 5) (pv 7) (fun _ _ => rfl)) (pe_dget hu1 (pv 6) (pv 7) (fun _ _ => rfl)) (nomark _)) (pss_one (ps_raiseBad2 rfl T hr1 (takes_of rfl rfl rfl rfl) (pa_cons (pv 0) (pa_cons pe_str pa_nil)))) (pss_nil))))
      (pss_cons (ps_setLc (i := 8) (own := [("key", 7)]) (g := gName 7) (tt := tYes) rfl nd rfl rfl (sw_true rfl rfl rfl (by decide +kernel)) (pi_tup (pv 2)) (blkOk_by (N := N_columns_of_join) (sc := defScope s_columns_of_join) (by decide +kernel)) (fun _ _ _ _ _ => pg_name (i := 7) nd rfl (Or.inl rfl)) (fun _ _ _ _ _ => pts_nil) (fun _ _ _ _ _ => (pe_tup (pa_cons (pv 7) (pa_cons (pe_dget hu1 (pv 5) (pv 7) (fun _ _ => rfl)) pa_nil)))))
      (pss_cons (ps_expr (pe_bm PySem.F.plainAttrs_list PySem.F.slot_list_extend PySem.F.type_list_extend mt_extend (pv 8) (pa_cons (pe_lc (own := [("pair", 9)]) (g := gName 9) (tt := tTest (tOp (rIn K true) (tOp (rIxT K) (tVar 9) (tC (V.int 0))) (tVar 2))) rfl nd (pi_tup (pv 3)) (blkOk_by (N := N_columns_of_join) (sc := defScope s_columns_of_join) (by decide +kernel)) (fun _ _ _ _ _ => pg_name (i := 9) nd rfl (Or.inl rfl)) (fun _ _ _ _ _ => pts_one (pt_cmpR op_notIn_seq (pe_ix ix_tup (pv 9) pe_int (fun _ _ => rfl)) (pv 2) rfl)) (fun _ _ _ _ _ => (pv 9))) pa_nil)))
      (pss_cons (ps_expr (pe_bm PySem.F.plainAttrs_list PySem.F.slot_list_extend PySem.F.type_list_extend mt_extend (pv 8) (pa_cons (pe_lc (own := [("pair", 9)]) (g := gName 9) (tt := tTest (tOp (rIn K true) (tOp (rIxT K) (tVar 9) (tC (V.int 0))) (tVar 2))) rfl nd (pi_tup (pv 4)) (blkOk_by (N := N_columns_of_join) (sc := defScope s_columns_of_join) (by decide +kernel)) (fun _ _ _ _ _ => pg_name (i := 9) nd rfl (Or.inl rfl)) (fun _ _ _ _ _ => pts_one (pt_cmpR op_notIn_seq (pe_ix ix_tup (pv 9) pe_int (fun _ _ => rfl)) (pv 2) rfl)) (fun _ _ _ _ _ => (pv 9))) pa_nil)))
      (pss_one (ps_ret (pe_fnX G_unlike_columns hr2 (takes_of rfl rfl rfl rfl) (pa_cons (pv 0) (pa_cons (pv 8) pa_nil))))))))))))), ?_⟩
  have z2 : 2 ≤ sizeLine := by decide
  obtain ⟨ks, rfl⟩ := what_join hw
  obtain ⟨a, b, c, e, rfl, rfl, hc, gc, he, ge⟩ := given2 hg har
  obtain ⟨as, tf, hp, ec⟩ := id hc
  obtain ⟨bs, tf2, hp2, ee⟩ := id he
  obtain ⟨kt, rfl, h2⟩ := hd
  have lk : ks.length ≤ 100 := hok
  have h2' : H kt = some (.tup ((ks.map (·.1)).map V.str)) := by
    rw [List.map_map]
    exact h2
  refine ⟨_, rfl, gv, _, rfl, hgv, rfl, _, _, rfl, _, _, rfl, rfl, ?_⟩
  refine ⟨_, rfl, a, as.map (·.1), as.map fun c => (c.2.1, V.str (kW c.2.2)), rfl, by rw [List.map_map]; exact tf, paired_cols hp, fun k1 hk1 => ?_⟩
  have s1 := same_upd (o := .dK (mergeK [] ((as.map fun c => (c.2.1, V.str (kW c.2.2))).map fun kv => ((.inr kv.1 : L2.Key), kv.2)))) hk1
  have hK := kd_new (H := H) (kd := k1) ec gc.nod
  generalize upd H k1 (.dK (mergeK [] ((as.map fun c => (c.2.1, V.str (kW c.2.2))).map fun kv => ((.inr kv.1 : L2.Key), kv.2)))) = H1 at s1 hK ⊢
  refine ⟨_, rfl, b, bs.map (·.1), bs.map fun c => (c.2.1, V.str (kW c.2.2)), rfl, by rw [List.map_map]; exact same_f s1 _ _ tf2, paired_cols (fun x hx => s1 _ _ (hp2 x hx)), fun k2 hk2 => ?_⟩
  have s2 := same_upd (o := .dK (mergeK [] ((bs.map fun c => (c.2.1, V.str (kW c.2.2))).map fun kv => ((.inr kv.1 : L2.Key), kv.2)))) hk2
  have hL := kd_new (H := H1) (kd := k2) ee ge.nod
  replace hK := hK.keep s2
  replace s1 := s1.trans s2
  generalize upd H1 k2 (.dK (mergeK [] ((bs.map fun c => (c.2.1, V.str (kW c.2.2))).map fun kv => ((.inr kv.1 : L2.Key), kv.2)))) = H2 at s1 hK hL ⊢
  clear s2 hk1 hk2
  have none_of : ∀ {k : NC}, k ∈ ks → (kfN c k.1 = none ∨ kfN e k.1 ≠ kfN c k.1) → colsD [c, e] (.join ks) = none := fun {k} hk h => if_neg fun z => by
    have h' := List.all_eq_true.mp z k hk
    have h1 := Bool.and_eq_true_iff.mp h'
    rcases h with h | h
    · have h2 : (kfN c k.1).isSome = true := h1.1
      rw [h] at h2
      cases h2
    · exact h (of_decide_eq_true h1.2)
  refine ⟨_, rfl, _, rfl, _, rfl, nm, kt, k1, ks.map (·.1), kfN c, rfl, .inl (SqT.of (s1 _ _ h2')), hK, fun hall => ?_, fun hex => ?_⟩
  rotate_left
  · obtain ⟨x, hx, hn⟩ := hex
    obtain ⟨k, hk, rfl⟩ := List.mem_map.mp hx
    have hb := qe (none_of hk (.inl hn))
    exact fun H' u d sm nd' => hb H' u d (s1.trans sm) nd'
  refine ⟨_, rfl, _, rfl, _, rfl, nm, kt, k2, ks.map (·.1), kfN e, rfl, .inl (SqT.of (s1 _ _ h2')), hL, fun hall2 => ?_, fun hex => ?_⟩
  rotate_left
  · obtain ⟨x, hx, hn⟩ := hex
    obtain ⟨k, hk, rfl⟩ := List.mem_map.mp hx
    have hb := qe (none_of hk (.inr fun z => hall k.1 hx (by rw [← z]; exact hn)))
    exact fun H' u d sm nd' => hb H' u d (s1.trans sm) nd'
  obtain ⟨kv1, ek1, gk1⟩ := id hK
  obtain ⟨kv2, ek2, gk2⟩ := id hL
  have ekt := s1 _ _ h2'
  -- the kinds are alike
  refine ⟨_, rfl, kt, rfl, ⟨_, SqT.of ekt⟩, ?_⟩
  refine for_tup (K := K) (a := kt) (xs := (ks.map (·.1)).map V.str) (fun i σ H' => ∃ y7 y8 y9, σ = [some (.str nm), some (.ref gv), some (.ref kt), some (.ref a), some (.ref b), some (.ref k1), some (.ref k2), y7, y8, y9] ∧ H' = H2 ∧ ∀ k ∈ ks.take i, kfN e k.1 = kfN c k.1) ⟨_, _, _, rfl, rfl, fun k hk => absurd hk (by simp)⟩ (fun i σ H' _ h => by
    obtain ⟨_, _, _, _, rfl, _⟩ := h
    exact SqT.of ekt) ?_ ?_
  · rintro i x σ H' hx ⟨y7, y8, y9, rfl, rfl, al⟩
    rw [List.getElem?_map, List.getElem?_map, Option.map_map] at hx
    obtain ⟨k, hk', rfl⟩ := Option.map_eq_some_iff.mp hx
    have km := List.mem_of_getElem? hk'
    have hx1 := hall k.1 (List.mem_map.mpr ⟨k, km, rfl⟩)
    have hx2 := hall2 k.1 (List.mem_map.mpr ⟨k, km, rfl⟩)
    have tk : ks.take (i + 1) = ks.take i ++ [k] := by
      rw [List.take_add_one, hk']
      rfl
    cases hb1 : kfN c k.1 with
    | none => exact absurd hb1 hx1
    | some b1 =>
      cases hb2 : kfN e k.1 with
      | none => exact absurd hb2 hx2
      | some b2 =>
        have g1 : DGet H' k1 (.str k.1) (some (.str (kW b1))) := by
          have h0 : valV kv1 (.inr k.1) = some (.str (kW b1)) := by rw [gk1, hb1]; rfl
          exact h0 ▸ DGet.k (k := .inr k.1) ek1
        have g2 : DGet H' k2 (.str k.1) (some (.str (kW b2))) := by
          have h0 : valV kv2 (.inr k.1) = some (.str (kW b2)) := by rw [gk2, hb2]; rfl
          exact h0 ▸ DGet.k (k := .inr k.1) ek2
        refine ⟨_, rfl, _, rfl, k1, _, rfl, g1, _, rfl, _, rfl, k2, _, rfl, g2, rfl, _, rfl, ite2 (fun cc => ?_) (fun cc => ?_)⟩
        · have hb := qe (none_of km (.inr (by
            rw [hb1, hb2]
            intro z
            have : b2 = b1 := Option.some.inj z
            rw [this] at cc
            simp at cc)))
          exact ⟨_, rfl, _, _, rfl, fun d nd' => hb _ _ d s1 nd'⟩
        · refine ⟨_, _, _, rfl, rfl, fun k' hk2 => ?_⟩
          rw [tk] at hk2
          rcases List.mem_append.mp hk2 with hk2 | hk2
          · exact al k' hk2
          · rw [List.mem_singleton.mp hk2, hb1, hb2]
            cases b1 <;> cases b2 <;> first | rfl | (exfalso; apply cc; decide +kernel)
  rintro σ HH ⟨y7, y8, y9, rfl, rfl, al⟩
  rw [List.length_map, List.length_map, List.take_length] at al
  -- columns of the keys
  let kN : NC → NC := fun k => (k.1, (kfN c k.1).getD true)
  refine ⟨_, rfl, kt, rfl, ⟨_, SqT.of ekt⟩, fun cl hcl => ?_⟩
  have ncl : H cl = none := none_same s1 hcl
  refine lc_tup (K := K) (a := kt) (xs := (ks.map (·.1)).map V.str) (fun i H' => Same HH H' ∧ ∃ qs : List Col, H' cl = some (.lst (qs.map fun c => .ref c.1)) ∧ PairsAt H' qs ∧ qs.map (·.2) = (ks.take i).map kN) ⟨same_upd hcl, [], upd_same, fun x hx => absurd hx List.not_mem_nil, by simp⟩ (fun i H' _ h => SqT.of (h.1 _ _ ekt)) ?_ ?_
  · rintro i x H' hx ⟨sm, qs, e', hpq, eq⟩
    rw [List.getElem?_map, List.getElem?_map, Option.map_map] at hx
    obtain ⟨k, hk', rfl⟩ := Option.map_eq_some_iff.mp hx
    have hk0 := hall k.1 (List.mem_map.mpr ⟨k, List.mem_of_getElem? hk', rfl⟩)
    have tk : ks.take (i + 1) = ks.take i ++ [k] := by
      rw [List.take_add_one, hk']
      rfl
    have lq : qs.length ≤ 100 := by
      have h := congrArg List.length eq
      rw [List.length_map, List.length_map, List.length_take] at h
      omega
    cases hb : kfN c k.1 with
    | none => exact absurd hb hk0
    | some b' =>
      have gt : DGet H' k1 (.str k.1) (some (.str (kW b'))) := by
        have h0 : valV kv1 (.inr k.1) = some (.str (kW b')) := by rw [gk1, hb]; rfl
        exact h0 ▸ DGet.k (k := .inr k.1) (sm _ _ ek1)
      refine ⟨rfl, _, rfl, _, rfl, _, rfl, k1, _, rfl, gt, z2, fun r hr' => ?_⟩
      have e'' := same_upd (o := .tup [.str k.1, .str (kW b')]) hr' _ _ e'
      refine ⟨_, e'', Nat.lt_of_le_of_lt (show _ ≤ 100 by rw [List.length_map]; exact lq) (by decide), fun x o' ex => ?_, qs ++ [(r, k.1, b')], by rw [upd_same, List.map_append]; rfl, pairs_push (c := (k.1, b')) (H' := H') (l := qs.map fun c => .ref c.1) e' hpq hr', ?_⟩
      · rw [upd_ne (ne_of_none ex hcl)]
        exact same_upd hr' _ _ (sm _ _ ex)
      · rw [tk, List.map_append, List.map_append, eq]
        show _ ++ [(k.1, b')] = _ ++ [(k.1, (kfN c k.1).getD true)]
        rw [hb]
        rfl
  rintro H3 ⟨sm3, qs0, ecl, hpq0, eq0⟩
  rw [List.length_map, List.length_map, List.take_length] at eq0
  have s3 := s1.trans sm3
  replace ekt := sm3 _ _ ekt
  clear ek1 ek2 gk1 gk2 hK hL sm3
  let PP : Col → Bool := fun c => decide (c.2.1 ∉ ks.map (·.1))
  have la : as.length ≤ 100 := by
    have := gc.few
    rw [← ec, List.length_map] at this
    exact this
  have lb : bs.length ≤ 100 := by
    have := ge.few
    rw [← ee, List.length_map] at this
    exact this
  have lq0 : qs0.length ≤ 100 := by
    have h := congrArg List.length eq0
    rw [List.length_map, List.length_map] at h
    omega
  have tfA := same_f s3 _ _ tf
  have hpA : PairsAt H3 as := fun x hx => s3 _ _ (hp x hx)
  refine ⟨_, rfl, .inl ⟨rfl, _, SqL.of ecl⟩, _, rfl, a, rfl, ⟨_, tfA.sq⟩, fun DA hDA => ?_⟩
  have nDA : DA ≠ cl := (ne_of_none ecl hDA).symm
  refine lc_tup (K := K) (a := a) (xs := as.map fun c => .ref c.1) (fun i H' => Same H3 H' ∧ H' DA = some (.lst (((as.take i).filter PP).map fun c => .ref c.1))) ⟨same_upd hDA, upd_same⟩ (fun i H' _ h => (same_f h.1 _ _ tfA).sq) ?_ ?_
  · rintro i x H' hx ⟨sm, e'⟩
    rw [List.getElem?_map] at hx
    obtain ⟨x', hx', rfl⟩ := Option.map_eq_some_iff.mp hx
    have cm := List.mem_of_getElem? hx'
    refine ⟨rfl, _, rfl, x'.1, _, 0, _, rfl, rfl, SqT.of (sm _ _ (hpA x' cm)), rfl, _, rfl, kt, (ks.map (·.1)).map V.str, rfl, .inr (SqT.of (sm _ _ ekt)), rfl, flat_strs _, _, rfl, notin_strs (fun hn => ?_) (fun hn => ?_)⟩
    · refine ⟨_, rfl, _, e', ?_, fun b' o' ex => ?_, ?_⟩
      · rw [List.length_map]
        have h1 := filt_len (P := PP) (as.take i)
        have h2 : (as.take i).length ≤ as.length := by rw [List.length_take]; omega
        exact Nat.lt_of_le_of_lt (show _ ≤ 100 by omega) (by decide)
      · rw [upd_ne (ne_of_none ex hDA)]
        exact sm _ _ ex
      · rw [filt_yes hx' (decide_eq_true hn), List.map_append]
        exact upd_same
    · refine ⟨sm, ?_⟩
      rw [filt_no hx' (decide_eq_false fun z => z hn)]
      exact e'
  rintro HX ⟨sX, eDA⟩
  rw [List.length_map, List.take_length] at eDA
  have lA := filt_len (P := PP) as
  refine ⟨cl, DA, _, _, rfl, rfl, sX _ _ ecl, eDA, Nat.le_trans (show _ ≤ 200 by rw [List.length_map, List.length_map]; omega) (by decide), ?_⟩
  rw [← List.map_append]
  have bA : But cl H3 (upd HX cl (.lst ((qs0 ++ as.filter PP).map fun c => .ref c.1))) := fun x o hx ex => by
    rw [upd_ne hx]
    exact sX _ _ ex
  have ecl1 : upd HX cl (.lst ((qs0 ++ as.filter PP).map fun c => .ref c.1)) cl = some (.lst ((qs0 ++ as.filter PP).map fun c => .ref c.1)) := upd_same
  generalize upd HX cl (.lst ((qs0 ++ as.filter PP).map fun c => .ref c.1)) = H4 at bA ecl1 ⊢
  have tfB : TupF H4 b (bs.map fun c => .ref c.1) := bA.tupF ecl _ _ (same_f s3 _ _ tf2)
  have hpB : PairsAt H4 bs := fun x hx => bA.tup ecl _ _ (s3 _ _ (hp2 x hx))
  have hpq1 : PairsAt H4 (qs0 ++ as.filter PP) := fun x hx => by
    rcases List.mem_append.mp hx with hx | hx
    · exact bA.tup ecl _ _ (hpq0 x hx)
    · exact bA.tup ecl _ _ (hpA x (List.mem_filter.mp hx).1)
  have s4 := same_of_but s3 bA ncl
  replace ekt := bA.tup ecl _ _ ekt
  replace ecl := ecl1
  clear ecl1 sX eDA bA tfA
  refine ⟨_, rfl, .inl ⟨rfl, _, SqL.of ecl⟩, _, rfl, b, rfl, ⟨_, tfB.sq⟩, fun DB hDB => ?_⟩
  have nDB : DB ≠ cl := (ne_of_none ecl hDB).symm
  refine lc_tup (K := K) (a := b) (xs := bs.map fun c => .ref c.1) (fun i H' => Same H4 H' ∧ H' DB = some (.lst (((bs.take i).filter PP).map fun c => .ref c.1))) ⟨same_upd hDB, upd_same⟩ (fun i H' _ h => (same_f h.1 _ _ tfB).sq) ?_ ?_
  · rintro i x H' hx ⟨sm, e'⟩
    rw [List.getElem?_map] at hx
    obtain ⟨x', hx', rfl⟩ := Option.map_eq_some_iff.mp hx
    have cm := List.mem_of_getElem? hx'
    refine ⟨rfl, _, rfl, x'.1, _, 0, _, rfl, rfl, SqT.of (sm _ _ (hpB x' cm)), rfl, _, rfl, kt, (ks.map (·.1)).map V.str, rfl, .inr (SqT.of (sm _ _ ekt)), rfl, flat_strs _, _, rfl, notin_strs (fun hn => ?_) (fun hn => ?_)⟩
    · refine ⟨_, rfl, _, e', ?_, fun b' o' ex => ?_, ?_⟩
      · rw [List.length_map]
        have h1 := filt_len (P := PP) (bs.take i)
        have h2 : (bs.take i).length ≤ bs.length := by rw [List.length_take]; omega
        exact Nat.lt_of_le_of_lt (show _ ≤ 100 by omega) (by decide)
      · rw [upd_ne (ne_of_none ex hDB)]
        exact sm _ _ ex
      · rw [filt_yes hx' (decide_eq_true hn), List.map_append]
        exact upd_same
    · refine ⟨sm, ?_⟩
      rw [filt_no hx' (decide_eq_false fun z => z hn)]
      exact e'
  rintro HX ⟨sX, eDB⟩
  rw [List.length_map, List.take_length] at eDB
  have lB := filt_len (P := PP) bs
  refine ⟨cl, DB, _, _, rfl, rfl, sX _ _ ecl, eDB, Nat.le_trans (show _ ≤ 300 by rw [List.length_map, List.length_map, List.length_append]; omega) (by decide), ?_⟩
  rw [← List.map_append]
  have bB : But cl H4 (upd HX cl (.lst (((qs0 ++ as.filter PP) ++ bs.filter PP).map fun c => .ref c.1))) := fun x o hx ex => by
    rw [upd_ne hx]
    exact sX _ _ ex
  have ecl2 : upd HX cl (.lst (((qs0 ++ as.filter PP) ++ bs.filter PP).map fun c => .ref c.1)) cl = some (.lst (((qs0 ++ as.filter PP) ++ bs.filter PP).map fun c => .ref c.1)) := upd_same
  generalize upd HX cl (.lst (((qs0 ++ as.filter PP) ++ bs.filter PP).map fun c => .ref c.1)) = H5 at bB ecl2 ⊢
  have hpq2 : PairsAt H5 ((qs0 ++ as.filter PP) ++ bs.filter PP) := fun x hx => by
    rcases List.mem_append.mp hx with hx | hx
    · exact bB.tup ecl _ _ (hpq1 x hx)
    · exact bB.tup ecl _ _ (hpB x (List.mem_filter.mp hx).1)
  have sf := same_of_but s4 bB ncl
  obtain ⟨qs, eqs⟩ : ∃ qs, qs = (qs0 ++ as.filter PP) ++ bs.filter PP := ⟨_, rfl⟩
  rw [← eqs] at ecl2 hpq2
  have hcols : colsD [c, e] (.join ks) = ndC (qs.map (·.2)) := by
    rw [eqs, List.map_append, List.map_append, eq0]
    have h1 : (as.filter PP).map (·.2) = c.filter (fun x => decide (x.1 ∉ ks.map (·.1))) := by
      rw [← ec, List.filter_map]
      rfl
    have h3 : (bs.filter PP).map (·.2) = e.filter (fun x => decide (x.1 ∉ ks.map (·.1))) := by
      rw [← ee, List.filter_map]
      rfl
    rw [h1, h3, List.append_assoc]
    refine if_pos (List.all_eq_true.mpr fun k hk => Bool.and_eq_true_iff.mpr ⟨?_, decide_eq_true (al k hk)⟩)
    have := hall k.1 (List.mem_map.mpr ⟨k, hk, rfl⟩)
    show (kfN c k.1).isSome = true
    cases hh : kfN c k.1 with
    | none => exact absurd hh this
    | some _ => rfl
  have e1 : ((qs.map (·.2)).map (·.1)) = qs.map fun c => c.2.1 := by
    rw [List.map_map]
    rfl
  have lq : qs.length ≤ 300 := by
    rw [eqs, List.length_append, List.length_append]
    omega
  refine ⟨_, rfl, _, rfl, nm, cl, qs, rfl, .inr ecl2, hpq2, by omega, fun hn a' H'' sm ta => ?_, fun hn => ?_⟩
  · exact q _ (hcols.trans (if_pos (by rw [e1]; exact hn))) a' H'' (sf.trans sm) ⟨qs, ta, fun x hx => sm _ _ (hpq2 x hx), rfl⟩
  · have hb := qe (hcols.trans (if_neg (by rw [e1]; exact hn)))
    exact fun H'' u d sm nd' => hb H'' u d (sf.trans sm) nd'
end
end Kx

set_option maxHeartbeats 8000000
namespace Kx
open PySem PySem.Spec PyProof.Rows L2
/-! ### a local name that holds one of some defs that may raise, called -/
structure CalX (P : Program) (w : World) (K : PySem.W.Frag) (mg : Str → Option Value) (base : Heap) (k : Nat) (f : Addr) (sp : Sp) : Prop where
  ex : ∃ (fd : FuncData) (ps : List Str), FnOk P w K mg base (L2.CX P w) k f fd ps sp ∧ PySem.W.keepIn K (.ref f) = true ∧ Binds K fd ps []
section
variable {X : Cx}
def tCallW (i : Nat) (fam : List (Addr × Sp)) (W : WX) (t : TA) : TE := fun σ H Q => ∃ p ∈ fam, σ[i]? = some (some (.ref p.1)) ∧ t σ H fun vs H1 => p.2 vs H1 Q (WE W σ)
theorem pe_cvX {i j : Nat} {fam : List (Addr × Sp)} {W : WX} {x : Str} {p pos : Pos} {e : Expr} {es : List Expr} {t : TA} (c : ∀ p ∈ fam, ∃ k, k ≤ j ∧ CalX X.prog X.w X.K X.mg X.base k p.1 p.2) (hr : Room j X.A) (tk : Takes X W) (hN : X.N[i]? = some x) (hv : Vis X.env.scope x) (ha : PA X (e :: es) t)
    (hd : (x == ("__debug__" : Str)) = false := by decide) (hcd : (x == ("__classdict__" : Str)) = false := by decide)
    (he : starEach (e :: es) X.env = (false, eval e X.env) :: starEach es X.env := by rfl) (hpl : (backTo pos (starEach es X.env)).any (·.1) = false := by rfl) :
    PE X (.Call (.Name x p) (e :: es) [] pos) (tCallW i fam W t) := by
  constructor
  intro pins s σ H Q I h
  obtain ⟨⟨f, sp⟩, hm, hs, ht⟩ := h
  obtain ⟨k, hk, ⟨fd, ps, F, kp, b⟩⟩ := c _ hm
  refine wpAny_Call_Name_kw (thn ((pe_var (pos := p) hN hv hd hcd).run pins s σ H (fun v H1 => v = .ref f ∧ H1 = H) I ⟨.ref f, hs, rfl, rfl⟩) ?_)
  rintro u s1 ⟨v, H1, I1, r1, rfl, rfl⟩
  cases r1
  refine PySem.W.callWith_K (h₀ := X.base) I.ok.mod.kin kp (thn (ha.run pos pins s1 σ _ _ I1 ht) ?_) he hpl
  rintro us s2 ⟨vs, H2, I2, r, q⟩
  exact ⟨I2.kIn, run_fnS F (hr.mono hk) b (passAt tk σ) I2 r q⟩
end
end Kx

set_option maxHeartbeats 8000000
namespace Kx
open PySem PySem.Spec PyProof.Rows L2
/-! ### columns whose names are of a list: they stay so -/
def bigN : List Str := allNames ++ (["z", "a", "b", "d", "s0", "s1", "s2", "s3", "s4", "s5", "s6", "s7", "s9"] : List Str)
theorem big_ok : ∀ x ∈ bigN, PyData.canLay0 (.str x) = true := by decide +kernel
structure NamedC (cs : List NC) : Prop where
  nod : (cs.map (·.1)).Nodup
  inn : ∀ c ∈ cs, c.1 ∈ bigN
theorem NamedC.good {cs : List NC} (n : NamedC cs) : GoodC cs := by
  refine ⟨n.nod, ?_, fun c hc => big_ok _ (n.inn c hc)⟩
  have h1 := nodup_len (M := (cs.map (·.1)).map fun x => (Sum.inr x : L2.Key)) (ks := bigN.map fun x => (Sum.inr x : L2.Key)) (List.pairwise_map.mpr (n.nod.imp fun ne e => ne (Sum.inr.inj e))) fun z hz => by
    obtain ⟨x, hx, rfl⟩ := List.mem_map.mp hz
    obtain ⟨c, hc, rfl⟩ := List.mem_map.mp hx
    exact List.mem_map.mpr ⟨_, n.inn c hc, rfl⟩
  rw [List.length_map, List.length_map, List.length_map] at h1
  have : bigN.length ≤ 100 := by decide
  omega
def DetN : Det → Prop
  | .read cs => ∀ c ∈ cs, c.1 ∈ bigN
  | .map ms => ∀ m ∈ ms, m.2.2 ∈ bigN
  | .fold _ fs => ∀ m ∈ fs, m.2.2.2 ∈ bigN
  | _ => True
theorem ndC_some {cs cs' : List NC} (h : ndC cs = some cs') : cs' = cs ∧ (cs.map (·.1)).Nodup := by
  unfold ndC at h
  split at h
  · rename_i hn
    exact ⟨(Option.some.inj h).symm, hn⟩
  · cases h
theorem kf_mem {cs : List NC} {x : Str} (h : (kfN cs x).isSome = true) : x ∈ cs.map (·.1) := by
  by_cases z : x ∈ cs.map (·.1)
  · exact z
  · rw [kfN_none z] at h
    cases h
theorem getD_in {css : List (List NC)} {i : Nat} (h : i < css.length) (hN : ∀ cs ∈ css, NamedC cs) : NamedC (css.getD i []) := by
  have : css.getD i [] = css[i] := by simp [List.getD, h]
  rw [this]
  exact hN _ (List.getElem_mem h)
theorem cols_named {css : List (List NC)} {det : Det} {cs : List NC} (hN : ∀ c ∈ css, NamedC c) (hd : DetN det) (ha : css.length = det.arity) (h : colsD css det = some cs) : NamedC cs := by
  have in_of : ∀ {c : List NC} {x : Str}, NamedC c → x ∈ c.map (·.1) → x ∈ bigN := fun n hx => by
    obtain ⟨c, hc, rfl⟩ := List.mem_map.mp hx
    exact n.inn c hc
  cases det with
  | read cs0 =>
    obtain ⟨rfl, hn⟩ := ndC_some h
    exact ⟨hn, hd⟩
  | filter e =>
    have g := getD_in (i := 0) (by rw [ha]; show 0 < _; first | exact Nat.zero_lt_one | exact Nat.zero_lt_two) hN
    change (if _ then _ else _) = _ at h
    split at h
    · cases h
      exact g
    · cases h
  | map ms =>
    change (if _ then _ else _) = _ at h
    split at h
    · obtain ⟨rfl, hn⟩ := ndC_some h
      refine ⟨hn, fun c hc => ?_⟩
      obtain ⟨m, hm, rfl⟩ := List.mem_map.mp hc
      exact hd m hm
    · cases h
  | fold ks fs =>
    have g := getD_in (i := 0) (by rw [ha]; show 0 < _; first | exact Nat.zero_lt_one | exact Nat.zero_lt_two) hN
    change (if _ then _ else _) = _ at h
    split at h
    · rename_i hall
      obtain ⟨rfl, hn⟩ := ndC_some h
      refine ⟨hn, fun c hc => ?_⟩
      rcases List.mem_append.mp hc with hc | hc
      · obtain ⟨k, hk, rfl⟩ := List.mem_map.mp hc
        exact in_of g (kf_mem (List.all_eq_true.mp (Bool.and_eq_true_iff.mp hall).1 k hk))
      · obtain ⟨m, hm, rfl⟩ := List.mem_map.mp hc
        exact hd m hm
    · cases h
  | join ks =>
    have g := getD_in (i := 0) (by rw [ha]; show 0 < _; first | exact Nat.zero_lt_one | exact Nat.zero_lt_two) hN
    have g2 := getD_in (i := 1) (by rw [ha]; exact Nat.one_lt_two) hN
    change (if _ then _ else _) = _ at h
    split at h
    · rename_i hall
      obtain ⟨rfl, hn⟩ := ndC_some h
      refine ⟨hn, fun c hc => ?_⟩
      rcases List.mem_append.mp hc with hc | hc
      · obtain ⟨k, hk, rfl⟩ := List.mem_map.mp hc
        exact in_of g (kf_mem (Bool.and_eq_true_iff.mp (List.all_eq_true.mp hall k hk)).1)
      rcases List.mem_append.mp hc with hc | hc
      · exact g.inn c (List.mem_filter.mp hc).1
      · exact g2.inn c (List.mem_filter.mp hc).1
    · cases h
  | union =>
    have g := getD_in (i := 0) (by rw [ha]; show 0 < _; first | exact Nat.zero_lt_one | exact Nat.zero_lt_two) hN
    change (if _ then _ else _) = _ at h
    split at h
    · cases h
      exact g
    · cases h
  | unlike =>
    have g := getD_in (i := 0) (by rw [ha]; show 0 < _; first | exact Nat.zero_lt_one | exact Nat.zero_lt_two) hN
    change some _ = _ at h
    cases h
    exact g
  | sort ws m =>
    have g := getD_in (i := 0) (by rw [ha]; show 0 < _; first | exact Nat.zero_lt_one | exact Nat.zero_lt_two) hN
    change (if _ then _ else _) = _ at h
    split at h
    · cases h
      exact g
    · cases h
/-! ### the columns of a job's steps, or the first wrong step -/
def known (kn : List (Str × List NC)) (x : Str) : List NC := ((kn.find? fun e => decide (e.1 = x)).map (·.2)).getD []
def stepC (kn : List (Str × List NC)) (s : Stp) : Option (List NC) :=
  if s.name ∈ kn.map (·.1) then none else if (∃ x ∈ s.ins, x ∉ kn.map (·.1)) then none else colsD (s.ins.map (known kn)) s.det
def runC : List (Str × List NC) → List Stp → Except Str (List (Str × List NC))
  | kn, [] => .ok kn
  | kn, s :: ss => match stepC kn s with
    | none => .error s.name
    | some cs => runC (kn ++ [(s.name, cs)]) ss
def StpOk (s : Stp) : Prop := DetOk s.det ∧ DetN s.det ∧ s.ins.length = s.det.arity
end Kx

set_option maxHeartbeats 8000000
namespace Kx
open PySem PySem.Spec PyProof.Rows L2
abbrev s_columns_of : Stmt := topS 20
theorem runC_append : ∀ (kn : List (Str × List NC)) (a b : List Stp), runC kn (a ++ b) = match runC kn a with
  | .ok k => runC k b
  | .error e => .error e := by
  intro kn a
  induction a generalizing kn with
  | nil => intro b; rfl
  | cons s ss ih =>
    intro b
    show (match stepC kn s with | none => Except.error s.name | some cs => runC (kn ++ [(s.name, cs)]) (ss ++ b)) = _
    show _ = match (match stepC kn s with | none => Except.error s.name | some cs => runC (kn ++ [(s.name, cs)]) ss) with | .ok k => runC k b | .error e => .error e
    cases stepC kn s with
    | none => rfl
    | some cs => exact ih _ b
abbrev Tg : Type := List (Str × Addr × List NC)
def absT (tg : Tg) : List (Str × List NC) := tg.map fun e => (e.1, e.2.2)
theorem val_in {tg : Tg} (hn : (tg.map (·.1)).Nodup) {e : Str × Addr × List NC} (h : e ∈ tg) : valV (tg.map fun e => ((.inr e.1 : L2.Key), V.ref e.2.1)) (.inr e.1) = some (.ref e.2.1) :=
  val_key (f := fun e : Str × Addr × List NC => V.ref e.2.1) (nm := fun e => e.1) hn h
theorem val_out {tg : Tg} {x : Str} (h : x ∉ tg.map (·.1)) : valV (tg.map fun e => ((.inr e.1 : L2.Key), V.ref e.2.1)) (.inr x) = none := by
  unfold valV
  rw [List.find?_eq_none.mpr]
  · rfl
  · intro p hp
    obtain ⟨e, he, rfl⟩ := List.mem_map.mp hp
    intro z
    exact h (List.mem_map.mpr ⟨e, he, Sum.inr.inj (of_decide_eq_true z)⟩)
theorem known_in : ∀ {tg : Tg}, (tg.map (·.1)).Nodup → ∀ {e : Str × Addr × List NC}, e ∈ tg → known (absT tg) e.1 = e.2.2
  | [], _, e, h => absurd h List.not_mem_nil
  | x :: tg, hn, e, h => by
    unfold known absT
    rw [List.map_cons, List.find?_cons]
    by_cases hx : x.1 = e.1
    · have hxe : x = e := by
        rcases List.mem_cons.mp h with rfl | h
        · rfl
        · exact absurd (by show x.1 ∈ _; rw [hx]; exact List.mem_map.mpr ⟨e, h, rfl⟩) (List.nodup_cons.mp hn).1
      rw [decide_eq_true (show ((x.1, x.2.2) : Str × List NC).1 = e.1 from hx), hxe]
      rfl
    · rw [decide_eq_false (show ¬ ((x.1, x.2.2) : Str × List NC).1 = e.1 from hx)]
      have hl : e ∈ tg := by
        rcases List.mem_cons.mp h with rfl | h
        · exact absurd rfl hx
        · exact h
      exact known_in (List.nodup_cons.mp hn).2 hl
theorem err_at {xs : List Stp} {i : Nat} {s : Stp} {kn k : List (Str × List NC)} (h : xs[i]? = some s) (hr : runC kn (xs.take i) = .ok k) (hs : stepC k s = none) : runC kn xs = .error s.name := by
  obtain ⟨hi, he⟩ := List.getElem?_eq_some_iff.mp h
  have e : xs = xs.take i ++ s :: xs.drop (i + 1) := by
    rw [← he, ← List.drop_eq_getElem_cons hi, List.take_append_drop]
  rw [e, runC_append, hr]
  show (match stepC k s with | none => Except.error s.name | some cs => runC (k ++ [(s.name, cs)]) (xs.drop (i + 1))) = _
  rw [hs]
theorem ok_at {xs : List Stp} {i : Nat} {s : Stp} {kn k : List (Str × List NC)} {cs : List NC} (h : xs[i]? = some s) (hr : runC kn (xs.take i) = .ok k) (hs : stepC k s = some cs) : runC kn (xs.take (i + 1)) = .ok (k ++ [(s.name, cs)]) := by
  have e : xs.take (i + 1) = xs.take i ++ [s] := by
    rw [List.take_add_one, h]
    rfl
  rw [e, runC_append, hr]
  show (match stepC k s with | none => Except.error s.name | some cs => Except.ok (k ++ [(s.name, cs)])) = _
  rw [hs]
theorem choose_es {tg : Tg} : ∀ {ins : List Str}, (∀ x ∈ ins, x ∈ tg.map (·.1)) → ∃ es : Tg, es.map (·.1) = ins ∧ ∀ e ∈ es, e ∈ tg
  | [], _ => ⟨[], rfl, fun e h => absurd h List.not_mem_nil⟩
  | x :: ins, h => by
    obtain ⟨e, he, ex⟩ := List.mem_map.mp (h x List.mem_cons_self)
    obtain ⟨es, h1, h2⟩ := choose_es fun y hy => h y (List.mem_cons_of_mem _ hy)
    refine ⟨e :: es, by rw [List.map_cons, h1, ex], fun y hy => ?_⟩
    rcases List.mem_cons.mp hy with rfl | hy
    · exact he
    · exact h2 y hy
def whats : List Str := ["read", "filter", "map", "fold", "join", "union", "unlike", "sort"]
theorem what_in (d : Det) : d.what ∈ whats := by
  cases d <;> (dsimp only [Det.what]; decide +kernel)
section
variable {P : Program} {w : World} {K : PySem.W.Frag} {mg : Str → Option Value} {base : Heap}
/-- the table of the checkers -/
def CkAt (P : Program) (w : World) (K : PySem.W.Frag) (mg : Str → Option Value) (base : Heap) (C : Addr) : Prop := ∃ (dl : Addr) (ff : Str → Addr), mg "CHECKERS" = some (.ref dl) ∧ ∀ wh ∈ whats, KDct K w dl wh (.ref (ff wh)) ∧ ∃ k, k ≤ 15 ∧ CalX P w K mg base k (ff wh) (spChk K C wh)
abbrev N_columns_of : List Str := ["job", "steps", "answer", "told", "name", "what", "inputs", "details", "source", "columns_of_what"]
def spColsJ (K : PySem.W.Frag) (C : Addr) : Sp := fun vs H Q E => ∃ (job st : Addr) (answer : Str) (as : List (Addr × Stp)), vs = [.ref job] ∧ H job = some (.tup [.ref st, .str answer]) ∧ H st = some (.tup (as.map fun p => .ref p.1)) ∧ (∀ p ∈ as, StpAt H p.1 p.2 ∧ StpOk p.2) ∧ as.length ≤ 100 ∧
  (∀ kn, runC [] (as.map (·.2)) = .ok kn → answer ∈ kn.map (·.1) → ∀ (T : Addr) (tg : Tg) (H' : Hp), Same H H' → H' T = some (.dK (tg.map fun e => (.inr e.1, .ref e.2.1))) → absT tg = kn → (∀ e ∈ tg, CF H' e.2.1 e.2.2) → Q (.ref T) H') ∧
  (∀ kn, runC [] (as.map (·.2)) = .ok kn → answer ∉ kn.map (·.1) → BadE C answer H E) ∧ ∀ nm, runC [] (as.map (·.2)) = .error nm → BadE C nm H E
theorem sc_cols : FnScope N_columns_of ["job"] (defScope s_columns_of) := ⟨rfl, rfl, rfl, by decide +kernel, rfl, by decide +kernel, by decide +kernel⟩
theorem ok_cols {f C fI : Addr} {fd : FuncData} (F : Fun K "columns_of" "columns_of" s_columns_of f fd) (T : PySem.BadY.BadTxt K mg C fI) (CK : CkAt P w K mg base C) : FnOk P w K mg base (L2.CX P w) 16 f fd ["job"] (spColsJ K C) := by
  refine F.okX sc_cols (fun vs H Q E h => ?_) (fun cdv A outer s H vs Q E hr h => ?_)
  · obtain ⟨job, st, answer, as, rfl, _⟩ := h
    rfl
  obtain ⟨job, st, answer, as, rfl, hj, hst, hs, la, q, q2, qe⟩ := h
  obtain ⟨dl, ff, m_ck, hck⟩ := CK
  have cal : ∀ p ∈ (whats.map fun wh => (ff wh, spChk K C wh)), ∃ k, k ≤ 15 ∧ CalX P w K mg base k p.1 p.2 := fun p hp => by
    obtain ⟨wh, hw, rfl⟩ := List.mem_map.mp hp
    exact (hck wh hw).2
  have nd := sc_cols.nd
  have hr1 : Room 1 _ := hr.mono (by decide)
  have hr15 : Room 15 _ := hr
  have hu64 : _ + 64 < cLine := hr.units
  have hu1 : _ + 1 < cLine := Nat.lt_of_le_of_lt (Nat.add_le_add_left (by decide : 1 ≤ 64) _) hu64
  refine ⟨_, pss_cons (ps_asg (pv 0) (pg_tup rfl (pgs_cons (pg_name (i := 1) nd rfl (.inl rfl)) (pgs_cons (pg_name (i := 2) nd rfl (.inl rfl)) pgs_nil))))
      (pss_cons (ps_set (i := 3) nd rfl (.inr rfl) pe_dnewK)
      (pss_cons (ps_for (passes_of rfl) rfl (pi_tup (pv 1)) (pg_tup rfl (pgs_cons (pg_name (i := 4) nd rfl (.inl rfl)) (pgs_cons (pg_name (i := 5) nd rfl (.inl rfl)) (pgs_cons (pg_name (i := 6) nd rfl (.inl rfl)) (pgs_cons (pg_name (i := 7) nd rfl (.inl rfl)) pgs_nil))))) (pss_cons (ps_if (pt_cmp (pc_din hu1 (pv 4) (pv 3)) rfl) (pss_one (ps_raiseBad2 rfl T hr1 (takes_of rfl rfl rfl rfl) (pa_cons (pv 4) (pa_cons pe_str pa_nil)))) (pss_nil))
      (pss_cons (ps_for (passes_of rfl) rfl (pi_tup (pv 6)) (pg_name (i := 8) nd rfl (.inl rfl)) (pss_one (ps_if (pt_cmp (pc_dnotin hu1 (pv 8) (pv 3)) rfl) (pss_one (ps_raiseBad2 rfl T hr1 (takes_of rfl rfl rfl rfl) (pa_cons (pv 4) (pa_cons pe_str pa_nil)))) (pss_nil))))
      (pss_cons (ps_set (i := 9) nd rfl (.inl rfl) (pe_ix ix_kdict (pe_glob (v := .ref dl) rfl m_ck rfl) (pv 5) (fun _ _ => rfl)))
      (pss_one (ps_dput hu1 (pv 3) (pv 4) (pe_cvX (i := 9) cal hr15 (takes_of rfl rfl rfl rfl) rfl (.inl rfl) (pa_cons (pv 4) (pa_cons (pe_lc (own := [("source", 8)]) (g := gName 8) (tt := tYes) rfl nd (pi_tup (pv 6)) (blkOk_by (N := N_columns_of) (sc := defScope s_columns_of) (by decide +kernel)) (fun _ _ _ _ _ => pg_name (i := 8) nd rfl (Or.inl rfl)) (fun _ _ _ _ _ => pts_nil) (fun _ _ _ _ _ => (pe_dget hu1 (pv 3) (pv 8) (fun _ _ => rfl)))) (pa_cons (pv 7) pa_nil)))) rfl))))))
      (pss_cons (ps_if (pt_cmp (pc_dnotin hu1 (pv 2) (pv 3)) rfl) (pss_one (ps_raiseBad2 rfl T hr1 (takes_of rfl rfl rfl rfl) (pa_cons (pv 2) (pa_cons pe_str pa_nil)))) (pss_nil))
      (pss_one (ps_ret (pv 3)))))), ?_⟩
  refine ⟨_, rfl, job, _, rfl, SqT.of hj, rfl, _, _, rfl, _, _, rfl, rfl, fun TT hTT => ?_⟩
  have s1 := same_upd (o := .dK []) hTT
  have eT : upd H TT (.dK []) TT = some (.dK []) := upd_same
  generalize upd H TT (.dK []) = H1 at s1 eT ⊢
  have kT : ∀ {H' : Hp}, But TT H1 H' → KeepT H1 H' := fun b a xs e => b a _ (fun z => by rw [z, eT] at e; cases e) e
  have kF : ∀ {H' : Hp}, But TT H1 H' → KeepF H1 H' := fun b a xs ⟨o, dn, e⟩ => ⟨o, dn, b a _ (fun z => by rw [z, eT] at e; cases e) e⟩
  refine ⟨_, rfl, st, rfl, ⟨_, SqT.of (s1 _ _ hst)⟩, ?_⟩
  refine for_tup (K := K) (a := st) (xs := as.map fun p => .ref p.1) (fun i σ H' => ∃ y4 y5 y6 y7 y8 y9 tg, σ = [some (.ref job), some (.ref st), some (.str answer), some (.ref TT), y4, y5, y6, y7, y8, y9] ∧ But TT H1 H' ∧ H' TT = some (.dK (tg.map fun e => (.inr e.1, .ref e.2.1))) ∧ runC [] ((as.map (·.2)).take i) = .ok (absT tg) ∧ (∀ e ∈ tg, CF H' e.2.1 e.2.2 ∧ NamedC e.2.2) ∧ (tg.map (·.1)).Nodup ∧ tg.length ≤ i)
    ⟨_, _, _, _, _, _, [], rfl, But.refl _ _, eT, rfl, fun e he => absurd he List.not_mem_nil, List.nodup_nil, Nat.le_refl _⟩ (fun i σ H' _ h => by
      obtain ⟨_, _, _, _, _, _, _, _, b, _⟩ := h
      exact SqT.of (kT b _ _ (s1 _ _ hst))) ?_ ?_
  · rintro i x σ H' hx ⟨y4, y5, y6, y7, y8, y9, tg, rfl, b, eT', hrun, hcf, hnd, hlen⟩
    rw [List.getElem?_map] at hx
    obtain ⟨⟨pa, s'⟩, hp', rfl⟩ := Option.map_eq_some_iff.mp hx
    have pm := List.mem_of_getElem? hp'
    have hi : i < as.length := (List.getElem?_eq_some_iff.mp hp').1
    have hsi : (as.map (·.2))[i]? = some s' := by rw [List.getElem?_map, hp']; rfl
    obtain ⟨xat, sok1, sok2, sok3⟩ := hs _ pm
    obtain ⟨inp, dv, x1, x2, x3⟩ := (xat.keep (same_t s1) (same_f s1)).keep (kT b) (kF b)
    dsimp only at x1 x2 x3 sok1 sok2 sok3
    have sm : Same H H' := fun a o e => b a o (ne_of_none e hTT) (s1 _ _ e)
    have names : (absT tg).map (·.1) = tg.map (·.1) := by
      unfold absT
      rw [List.map_map]
      rfl
    refine ⟨pa, _, rfl, SqT.of x1, rfl, _, _, rfl, _, _, rfl, _, _, rfl, _, _, rfl, rfl, ?_⟩
    refine ⟨_, rfl, _, rfl, TT, _, rfl, DGet.k (k := .inr s'.name) eT', _, rfl, ?_⟩
    by_cases hin : s'.name ∈ tg.map (·.1)
    · obtain ⟨e, he, ee⟩ := List.mem_map.mp hin
      have hv : valV (tg.map fun e => ((.inr e.1 : L2.Key), V.ref e.2.1)) (.inr s'.name) = some (.ref e.2.1) := by
        rw [← ee]
        exact val_in hnd he
      rw [hv]
      have hz : stepC (absT tg) s' = none := if_pos (by rw [names]; exact hin)
      exact iteT ⟨_, rfl, _, _, rfl, fun d nd' => qe _ (err_at hsi hrun hz) _ _ d sm nd'⟩
    have hv : valV (tg.map fun e => ((.inr e.1 : L2.Key), V.ref e.2.1)) (.inr s'.name) = none := val_out hin
    rw [hv]
    refine iteF ?_
    refine ⟨_, rfl, inp, rfl, ⟨_, SqT.of x2⟩, ?_⟩
    refine for_tup (K := K) (a := inp) (xs := s'.ins.map V.str) (fun j σ H'' => ∃ y8, σ = [some (.ref job), some (.ref st), some (.str answer), some (.ref TT), some (.str s'.name), some (.str s'.det.what), some (.ref inp), some dv, y8, y9] ∧ H'' = H' ∧ ∀ x ∈ s'.ins.take j, x ∈ tg.map (·.1)) ⟨_, rfl, rfl, fun x hx => absurd hx (by simp)⟩ (fun j σ H'' _ h => by
      obtain ⟨_, _, rfl, _⟩ := h
      exact SqT.of x2) ?_ ?_
    · rintro j x σ H'' hx ⟨y8, rfl, rfl, al⟩
      rw [List.getElem?_map] at hx
      obtain ⟨z, hz, rfl⟩ := Option.map_eq_some_iff.mp hx
      refine ⟨_, rfl, _, rfl, TT, _, rfl, DGet.k (k := .inr z) eT', _, rfl, ?_⟩
      by_cases hzi : z ∈ tg.map (·.1)
      · obtain ⟨e, he, ee⟩ := List.mem_map.mp hzi
        have hv : valV (tg.map fun e => ((.inr e.1 : L2.Key), V.ref e.2.1)) (.inr z) = some (.ref e.2.1) := by
          rw [← ee]
          exact val_in hnd he
        rw [hv]
        refine iteF ⟨_, rfl, rfl, fun u hu => ?_⟩
        rw [List.take_add_one, hz] at hu
        rcases List.mem_append.mp hu with hu | hu
        · exact al u hu
        · rw [List.mem_singleton.mp hu]
          exact hzi
      · rw [val_out hzi]
        have hn : stepC (absT tg) s' = none := by
          unfold stepC
          rw [if_neg (by rw [names]; exact hin)]
          exact if_pos ⟨z, List.mem_of_getElem? hz, by rw [names]; exact hzi⟩
        exact iteT ⟨_, rfl, _, _, rfl, fun d nd' => qe _ (err_at hsi hrun hn) _ _ d sm nd'⟩
    rintro σ H'' ⟨y8, rfl, rfl, al⟩
    rw [List.length_map, List.take_length] at al
    obtain ⟨es, ees, hes⟩ := choose_es al
    refine ⟨_, rfl, dl, s'.det.what, _, rfl, rfl, (hck _ (what_in _)).1, ?_⟩
    have les : es.length ≤ 2 := by
      have h := congrArg List.length ees
      rw [List.length_map, sok3] at h
      have : s'.det.arity ≤ 2 := by cases s'.det <;> first | exact Nat.le_refl 2 | exact Nat.le_succ 1 | exact Nat.zero_le 2
      omega
    refine ⟨(ff s'.det.what, spChk K C s'.det.what), List.mem_map.mpr ⟨_, what_in _, rfl⟩, rfl, _, rfl, _, rfl, inp, rfl, ⟨_, SqT.of x2⟩, fun D hD => ?_⟩
    refine lc_tup (K := K) (a := inp) (xs := s'.ins.map V.str) (fun j G => Same H'' G ∧ G D = some (.lst (((es.take j).map (·.2.1)).map V.ref))) ⟨same_upd hD, upd_same⟩ (fun j G _ h => SqT.of (h.1 _ _ x2)) ?_ ?_
    · rintro j x G hx ⟨smG, eD⟩
      rw [← ees, List.getElem?_map, List.getElem?_map, Option.map_map] at hx
      obtain ⟨e, he, rfl⟩ := Option.map_eq_some_iff.mp hx
      have gt : DGet G TT (.str e.1) (some (.ref e.2.1)) := (val_in hnd (hes e (List.mem_of_getElem? he))) ▸ DGet.k (k := .inr e.1) (smG _ _ eT')
      have tk : es.take (j + 1) = es.take j ++ [e] := by
        rw [List.take_add_one, he]
        rfl
      refine ⟨rfl, _, rfl, _, rfl, TT, _, rfl, gt, _, eD, Nat.lt_of_le_of_lt (show _ ≤ 2 by rw [List.length_map, List.length_map, List.length_take]; omega) (by decide), fun c o ex => ?_, ?_⟩
      · rw [upd_ne (ne_of_none ex hD)]
        exact smG _ _ ex
      · rw [tk, List.map_append, List.map_append]
        exact upd_same
    rintro G ⟨smG, eD⟩
    rw [← ees, List.length_map, List.length_map, List.take_length] at eD
    have hstep : stepC (absT tg) s' = colsD (es.map (·.2.2)) s'.det := by
      unfold stepC
      rw [if_neg (by rw [names]; exact hin), if_neg (fun z => by
        obtain ⟨x, hx, hn⟩ := z
        rw [names] at hn
        exact hn (al x hx)), ← ees, List.map_map]
      congr 1
      refine List.map_congr_left fun e he => ?_
      exact known_in hnd (hes e he)
    have hNam : ∀ cs ∈ es.map (·.2.2), NamedC cs := fun cs hc => by
      obtain ⟨e, he, rfl⟩ := List.mem_map.mp hc
      exact (hcf e (hes e he)).2
    have har : (es.map (·.2.2)).length = s'.det.arity := by
      have h := congrArg List.length ees
      rw [List.length_map] at h
      rw [List.length_map, h, sok3]
    refine ⟨_, rfl, s'.name, D, dv, s'.det, es.map (·.2.1), es.map (·.2.2), rfl, rfl, SqL.of eD, ⟨by rw [List.length_map, List.length_map], fun k g cs hg hc => ?_⟩, har, x3.keep (same_t smG) (same_f smG), sok1, fun cs hcs a H3 sm3 hCF => ?_, fun hn => ?_⟩
    · rw [List.getElem?_map] at hg hc
      obtain ⟨e, he, rfl⟩ := Option.map_eq_some_iff.mp hg
      rw [he] at hc
      cases hc
      have h := hcf e (hes e (List.mem_of_getElem? he))
      exact ⟨h.1.keep (same_t smG) (same_f smG), h.2.good⟩
    · have s5 := smG.trans sm3
      have eT3 := s5 _ _ eT'
      refine ⟨_, rfl, _, rfl, TT, _, rfl, DPut.k (k := .inr s'.name) eT3 (Nat.lt_of_le_of_lt (show _ ≤ 100 by rw [List.length_map]; omega) (by decide)), ?_⟩
      have nT : ∀ {a : Addr} {xs : List V}, H3 a = some (.tup xs) → a ≠ TT := fun e z => by
        rw [z, eT3] at e
        cases e
      have kt3 : KeepT H3 (upd H3 TT (.dK (putK (tg.map fun e => ((.inr e.1 : L2.Key), V.ref e.2.1)) (.inr s'.name) (.ref a)))) := fun a' xs e => by
        rw [upd_ne (nT e)]
        exact e
      have kf3 : KeepF H3 (upd H3 TT (.dK (putK (tg.map fun e => ((.inr e.1 : L2.Key), V.ref e.2.1)) (.inr s'.name) (.ref a)))) := fun a' xs ⟨o, dn, e⟩ => ⟨o, dn, by
        rw [upd_ne (fun z => by rw [z, eT3] at e; cases e)]
        exact e⟩
      refine ⟨_, _, _, _, _, _, tg ++ [(s'.name, a, cs)], rfl, fun c o hc e => ?_, ?_, ?_, fun e he => ?_, ?_, ?_⟩
      · rw [upd_ne hc]
        exact s5 _ _ (b c o hc e)
      · rw [upd_same, putK_new _ hv, List.map_append]
        rfl
      · rw [ok_at hsi hrun (hstep.trans hcs)]
        unfold absT
        rw [List.map_append]
        rfl
      · rcases List.mem_append.mp he with he | he
        · exact ⟨((hcf e he).1.keep (same_t s5) (same_f s5)).keep kt3 kf3, (hcf e he).2⟩
        · rw [List.mem_singleton.mp he]
          exact ⟨hCF.keep kt3 kf3, cols_named hNam sok2 har hcs⟩
      · rw [List.map_append]
        exact List.nodup_append.mpr ⟨hnd, by simp, fun u hu v hv' e => hin (by
          have : v = s'.name := List.mem_singleton.mp hv'
          rw [← this, ← e]
          exact hu)⟩
      · rw [List.length_append]
        exact Nat.succ_le_succ hlen
    · have hb := qe _ (err_at hsi hrun (hstep.trans hn))
      exact fun H5 u d s5 nd' => hb H5 u d ((sm.trans smG).trans s5) nd'
  · rintro σ H' ⟨y4, y5, y6, y7, y8, y9, tg, rfl, b, eT', hrun, hcf, hnd, hlen⟩
    rw [List.length_map, List.take_of_length_le (by rw [List.length_map]; exact Nat.le_refl _)] at hrun
    have sm : Same H H' := fun a o e => b a o (ne_of_none e hTT) (s1 _ _ e)
    have names : (absT tg).map (·.1) = tg.map (·.1) := by
      unfold absT
      rw [List.map_map]
      rfl
    refine ⟨_, rfl, _, rfl, TT, _, rfl, DGet.k (k := .inr answer) eT', _, rfl, ?_⟩
    by_cases hin : answer ∈ tg.map (·.1)
    · obtain ⟨e, he, ee⟩ := List.mem_map.mp hin
      have hv : valV (tg.map fun e => ((.inr e.1 : L2.Key), V.ref e.2.1)) (.inr answer) = some (.ref e.2.1) := by
        rw [← ee]
        exact val_in hnd he
      rw [hv]
      exact iteF ⟨_, rfl, q _ hrun (by rw [names]; exact hin) TT tg H' sm eT' rfl fun e he => (hcf e he).1⟩
    · rw [val_out hin]
      exact iteT ⟨_, rfl, _, _, rfl, fun d nd' => q2 _ hrun (by rw [names]; exact hin) _ _ d sm nd'⟩
end
end Kx

set_option maxHeartbeats 8000000
namespace Kx
open PySem PySem.Spec PyProof.Rows L2
abbrev s_law_fold_columns : Stmt := topS 36
/-- columns whose kinds may be none -/
abbrev OC : Type := Str × Option Bool
def PairsO (H : Hp) (as : List (Addr × OC)) : Prop := ∀ c ∈ as, H c.1 = some (.tup [.str c.2.1, kV' c.2.2])
theorem pairsO_push {H : Hp} {cl q : Addr} {l l' : List V} {qs : List (Addr × OC)} {c : OC} (hc : H cl = some (.lst l)) (hp : PairsO H qs) (hq : H q = none) : PairsO (upd (upd H q (.tup [.str c.1, kV' c.2])) cl (.lst l')) (qs ++ [(q, c)]) := fun x hx => by
  have n1 : q ≠ cl := (ne_of_none hc hq).symm
  rcases List.mem_append.mp hx with hx | hx
  · have e := hp x hx
    rw [upd_ne (fun z => by rw [z, hc] at e; cases e)]
    exact same_upd hq _ _ e
  · rw [List.mem_singleton.mp hx]
    rw [upd_ne n1]
    exact upd_same
def combK (op : Str) : Option Bool → Option Bool
  | none => none
  | some b => if (op ∈ (["sum", "mean"] : List Str)) ∧ b = false then none else some (lateK op b)
theorem lateK_true (op : Str) : lateK op true = true := by
  unfold lateK
  split <;> rfl
theorem exat_ref {H : Hp} {v : V} : ∀ {e : Ex}, ExAt H v e → ∃ a, v = .ref a
  | .num _, ⟨a, h, _⟩ => ⟨a, h⟩
  | .quo _, ⟨a, h, _⟩ => ⟨a, h⟩
  | .col _, ⟨a, h, _⟩ => ⟨a, h⟩
  | .two _ _ _, ⟨a, _, _, h, _⟩ => ⟨a, h⟩
  | .nt _, ⟨a, _, h, _⟩ => ⟨a, h⟩
  | .mn _, ⟨a, _, h, _⟩ => ⟨a, h⟩
  | .ln _, ⟨a, _, h, _⟩ => ⟨a, h⟩
section
variable {P : Program} {w : World} {K : PySem.W.Frag} {mg : Str → Option Value} {base : Heap}
abbrev N_law_fold_columns : List Str := ["details", "has", "keys", "folds", "found", "key", "kind", "told", "name", "sort"]
def spLFold : Sp := fun vs H Q _ => ∃ (t hs : Addr) (ks : List NC) (fs : List FC) (kf : Str → Option Bool), vs = [.ref t, .ref hs] ∧ DetAt H (.ref t) (.fold ks fs) ∧ KdAt H hs kf ∧ DetOk (.fold ks fs) ∧ (∀ m ∈ fs, m.1 = "count" → m.2.1 = none) ∧
  ((fs.all fun m => (foldK kf m).isSome) = true → ∀ (f : Addr) (qs : List (Addr × OC)) (H' : Hp), Same H H' → H' f = some (.lst (qs.map fun c => .ref c.1)) → PairsO H' qs → qs.map (·.2) = (ks.map fun k => (k.1, kf k.1)) ++ fs.map (fun m => (m.2.2.2, foldK kf m)) → Q (.ref f) H') ∧
  ((fs.all fun m => (foldK kf m).isSome) = false → ∀ H', Same H H' → Q .non H')
theorem sc_lfold : FnScope N_law_fold_columns ["details", "has"] (defScope s_law_fold_columns) := ⟨rfl, rfl, rfl, by decide +kernel, rfl, by decide +kernel, by decide +kernel⟩
theorem ok_lfold {f : Addr} {fd : FuncData} (F : Fun K "_law_fold_columns" "_law_fold_columns" s_law_fold_columns f fd) (G_law_kind : Ready P w K mg base 13 "_law_kind" ["told", "columns"] (spLKind 12)) : FnOk P w K mg base CX0 14 f fd ["details", "has"] spLFold := by
  refine F.ok sc_lfold (fun vs H Q E h => ?_) (fun cdv A outer s H vs Q E hr h => ?_)
  · obtain ⟨t, hs, ks, fs, kf, rfl, _⟩ := h
    rfl
  obtain ⟨t, hs, ks, fs, kf, rfl, hd, hK, hok, hcnt, q, qn⟩ := h
  have nd := sc_lfold.nd
  have hrk : Room 13 _ := hr
  have hu64 : _ + 64 < cLine := hr.units
  have hu1 : _ + 1 < cLine := Nat.lt_of_le_of_lt (Nat.add_le_add_left (by decide : 1 ≤ 64) _) hu64
  refine ⟨_, pss_cons (ps_asg (pv 0) (pg_tup rfl (pgs_cons (pg_name (i := 2) nd rfl (.inl rfl)) (pgs_cons (pg_name (i := 3) nd rfl (.inl rfl)) pgs_nil))))
      (pss_cons (ps_setLc (i := 4) (own := [("key", 5)]) (g := gName 5) (tt := tYes) rfl nd rfl rfl (sw_true rfl rfl rfl (by decide +kernel)) (pi_tup (pv 2)) (blkOk_by (N := N_law_fold_columns) (sc := defScope s_law_fold_columns) (by decide +kernel)) (fun _ _ _ _ _ => pg_name (i := 5) nd rfl (Or.inl rfl)) (fun _ _ _ _ _ => pts_nil) (fun _ _ _ _ _ => (pe_tup (pa_cons (pv 5) (pa_cons (pe_dget1 hu1 (pv 1) (pv 5) ⟨rfl, rfl, rfl, rfl⟩) pa_nil)))))
      (pss_cons (ps_for PassesOwn.never rfl (pi_tup (pv 3)) (pg_tup rfl (pgs_cons (pg_name (i := 6) nd rfl (.inl rfl)) (pgs_cons (pg_name (i := 7) nd rfl (.inl rfl)) (pgs_cons (pg_name (i := 8) nd rfl (.inl rfl)) pgs_nil)))) (C8.pss_cut (ps_set (i := 9) nd rfl (.inl rfl) (pe_ifExp (pt_cmpR op_isN (pv 7) pe_non (nomark _)) pe_str (pe_fn G_law_kind hrk (pa_cons (pv 7) (pa_cons (pv 1) pa_nil)))))
      (pss_cons (ps_if (PW.pt (pw_or (pt_cmpR op_isN (pv 9) pe_non (nomark _)) (pw_or1 (PW.pt (pw_and (pt_cmpR op_in_seq (pv 6) (pe_tup (pa_cons pe_str (pa_cons pe_str pa_nil))) (by with_unfolding_all rfl)) (pw_and1 (pt_cmpR op_ne (pv 9) pe_str (nomark _)))))))) (pss_one (ps_ret pe_non)) (pss_nil))
      (pss_one (ps_expr (pe_bm PySem.F.plainAttrs_list PySem.F.slot_list_append PySem.F.type_list_append mt_append (pv 4) (pa_cons (pe_tup (pa_cons (pv 8) (pa_cons (pe_ifExp (pt_cmpR op_in_seq (pv 6) (pe_tup (pa_cons pe_str (pa_cons pe_str pa_nil))) (by with_unfolding_all rfl)) (pv 9) pe_str) pa_nil))) pa_nil)))))))
      (pss_one (ps_ret (pv 4))))), ?_⟩
  have z2 : 2 ≤ sizeLine := by decide
  obtain ⟨t', kt, ft, ps, e0, h1, h2, h3, h4, rfl⟩ := hd
  cases e0
  obtain ⟨lk, lf, hfs⟩ := hok
  rw [List.length_map] at lf
  have h2' : H kt = some (.tup ((ks.map (·.1)).map V.str)) := by
    rw [List.map_map]
    exact h2
  obtain ⟨kvs, ek, gk⟩ := id hK
  refine ⟨_, rfl, t, _, rfl, SqT.of h1, rfl, _, _, rfl, _, _, rfl, rfl, ?_⟩
  let kN : NC → OC := fun k => (k.1, kf k.1)
  let fN : FC → OC := fun m => (m.2.2.2, foldK kf m)
  refine ⟨_, rfl, kt, rfl, ⟨_, SqT.of h2'⟩, fun cl hcl => ?_⟩
  refine lc_tup (K := K) (a := kt) (xs := (ks.map (·.1)).map V.str) (fun i H' => Same H H' ∧ ∃ qs : List (Addr × OC), H' cl = some (.lst (qs.map fun c => .ref c.1)) ∧ PairsO H' qs ∧ qs.map (·.2) = (ks.take i).map kN) ⟨same_upd hcl, [], upd_same, fun x hx => absurd hx List.not_mem_nil, by simp⟩ (fun i H' _ h => SqT.of (h.1 _ _ h2')) ?_ ?_
  · rintro i x H' hx ⟨sm, qs, e, hpq, eq⟩
    rw [List.getElem?_map, List.getElem?_map, Option.map_map] at hx
    obtain ⟨k, hk', rfl⟩ := Option.map_eq_some_iff.mp hx
    have tk : ks.take (i + 1) = ks.take i ++ [k] := by
      rw [List.take_add_one, hk']
      rfl
    have lq : qs.length ≤ 100 := by
      have h := congrArg List.length eq
      rw [List.length_map, List.length_map, List.length_take] at h
      omega
    have eo : (valV kvs (.inr k.1)).getD .non = kV' (kf k.1) := by
      rw [gk]
      cases kf k.1 <;> rfl
    refine ⟨rfl, _, rfl, _, rfl, hs, rfl, .inl ⟨_, .inl (sm _ _ ek)⟩, _, rfl, _, DGet.k (k := .inr k.1) (sm _ _ ek), z2, fun r hr' => ?_⟩
    rw [eo]
    have e' := same_upd (o := .tup [.str k.1, kV' (kf k.1)]) hr' _ _ e
    refine ⟨_, e', Nat.lt_of_le_of_lt (show _ ≤ 100 by rw [List.length_map]; exact lq) (by decide), fun b' o' ex => ?_, qs ++ [(r, k.1, kf k.1)], by rw [upd_same, List.map_append]; rfl, pairsO_push (c := (k.1, kf k.1)) (H := H') (l := qs.map fun c => .ref c.1) e hpq hr', ?_⟩
    · rw [upd_ne (ne_of_none ex hcl)]
      exact same_upd hr' _ _ (sm _ _ ex)
    · rw [tk, List.map_append, List.map_append, eq]
      rfl
  rintro H2 ⟨s2, qs0, ecl, hpq0, eq0⟩
  rw [List.length_map, List.length_map, List.take_length] at eq0
  refine ⟨_, rfl, ft, rfl, ⟨_, SqT.of (s2 _ _ h3)⟩, ?_⟩
  refine for_tup (K := K) (a := ft) (xs := ps.map fun p => .ref p.1) (fun i σ H' => ∃ y5 y6 y7 y8 y9 qs, σ = [some (.ref t), some (.ref hs), some (.ref kt), some (.ref ft), some (.ref cl), y5, y6, y7, y8, y9] ∧ But cl H2 H' ∧ H' cl = some (.lst (qs.map fun c => .ref c.1)) ∧ PairsO H' qs ∧ qs.map (·.2) = ks.map kN ++ ((ps.map (·.2)).take i).map fN ∧ ∀ m ∈ (ps.map (·.2)).take i, (foldK kf m).isSome = true)
    ⟨_, _, _, _, _, qs0, rfl, But.refl _ _, ecl, hpq0, by rw [eq0]; simp, fun m hm => absurd hm (by simp)⟩ (fun i σ H' _ h => by
      obtain ⟨_, _, _, _, _, _, _, b, _⟩ := h
      exact SqT.of (b.tup ecl _ _ (s2 _ _ h3))) ?_ ?_
  · rintro i x σ H' hx ⟨y5, y6, y7, y8, y9, qs, rfl, b, e, hpq, eq, hal⟩
    rw [List.getElem?_map] at hx
    obtain ⟨⟨pa, op, oe, kk, nn⟩, hp', rfl⟩ := Option.map_eq_some_iff.mp hx
    have hi : i < ps.length := (List.getElem?_eq_some_iff.mp hp').1
    have pm := List.mem_of_getElem? hp'
    have pm2 : (op, oe, kk, nn) ∈ ps.map (·.2) := List.mem_map.mpr ⟨_, pm, rfl⟩
    obtain ⟨told, t1, t2⟩ := h4 _ pm
    dsimp only at t1 t2
    have kt' : KeepT H H' := fun a xs e => b.tup ecl _ _ (s2 _ _ e)
    have tk : (ps.map (·.2)).take (i + 1) = (ps.map (·.2)).take i ++ [(op, oe, kk, nn)] := by
      rw [List.take_add_one, List.getElem?_map, hp']
      rfl
    have lq : qs.length ≤ 200 := by
      have h := congrArg List.length eq
      rw [List.length_map, List.length_append, List.length_map, List.length_map, List.length_take, List.length_map] at h
      omega
    refine ⟨pa, _, rfl, SqT.of (kt' _ _ t1), rfl, _, _, rfl, _, _, rfl, _, _, rfl, rfl, ?_⟩
    refine ⟨fun σ G => ∃ o, σ = [some (.ref t), some (.ref hs), some (.ref kt), some (.ref ft), some (.ref cl), y5, some (.str op), some told, some (.str nn), some (kV' o)] ∧ Same H' G ∧ foldK kf (op, oe, kk, nn) = combK op o, ?_, ?_⟩
    · cases oe with
      | none =>
        have t3 : told = .non := t2
        subst t3
        refine ⟨_, rfl, rfl, _, rfl, iteT ⟨some true, rfl, Same.refl _, ?_⟩⟩
        by_cases hc : op = "count"
        · unfold foldK
          rw [if_pos hc]
          show some true = (if (op ∈ (["sum", "mean"] : List Str)) ∧ true = false then none else some (lateK op true))
          rw [if_neg (fun z => by cases z.2), lateK_true]
        · obtain ⟨e', he', _⟩ := hfs _ pm2 hc
          cases he'
      | some ex =>
        obtain ⟨ta, hta⟩ := exat_ref (show ExAt H told ex from t2)
        subst hta
        have hc : op ≠ "count" := fun z => by
          have := hcnt _ pm2 z
          cases this
        obtain ⟨e', he', ok1, ok2⟩ := hfs _ pm2 hc
        have he'' : ex = e' := Option.some.inj he'
        subst he''
        refine ⟨_, rfl, rfl, _, rfl, iteF ⟨_, rfl, _, rfl, .ref ta, hs, kf, ex, rfl, ExAt.keep kt' t2, ok1, ok2, (hK.keep s2).but b ecl, fun G sG => ⟨kindE kf ex, rfl, sG, ?_⟩⟩⟩
        unfold foldK combK
        rw [if_neg hc]
        all_goals rfl
    rintro σ G ⟨o, rfl, sG, hfk⟩
    have bG : But cl H2 G := b.trans (same_but sG)
    have sf : Same H G := same_of_but s2 bG hcl
    have eG := sG _ _ e
    have hpG : PairsO G qs := fun x hx => sG _ _ (hpq x hx)
    have bad : combK op o = none → ∀ G', Same G G' → Q .non G' := fun hn G' s' => qn (by
      cases hz : (ps.map (·.2)).all (fun m => (foldK kf m).isSome) with
      | false => rfl
      | true =>
        have h := List.all_eq_true.mp hz _ pm2
        have h' : (foldK kf (op, oe, kk, nn)).isSome = true := h
        rw [hfk, hn] at h'
        cases h') G' (sf.trans s')
    clear e hpq sG b
    have put : ∀ (k : Bool) (G' : Hp) (r : Addr), combK op o = some k → Same G G' → G' r = none → ∃ l xs y, (V.ref cl) = .ref l ∧ [V.ref r] = [y] ∧ upd G' r (.tup [.str nn, .str (kW k)]) l = some (.lst xs) ∧ xs.length < sizeLine ∧
        ∃ y5' y6' y7' y8' y9' qs', [some (V.ref t), some (.ref hs), some (.ref kt), some (.ref ft), some (.ref cl), y5, some (.str op), some told, some (.str nn), some (kV' o)] = [some (.ref t), some (.ref hs), some (.ref kt), some (.ref ft), some (.ref cl), y5', y6', y7', y8', y9'] ∧ But cl H2 (upd (upd G' r (.tup [.str nn, .str (kW k)])) l (.lst (xs ++ [y]))) ∧ upd (upd G' r (.tup [.str nn, .str (kW k)])) l (.lst (xs ++ [y])) cl = some (.lst (qs'.map fun c => .ref c.1)) ∧ PairsO (upd (upd G' r (.tup [.str nn, .str (kW k)])) l (.lst (xs ++ [y]))) qs' ∧ qs'.map (·.2) = ks.map kN ++ ((ps.map (·.2)).take (i + 1)).map fN ∧ ∀ m ∈ (ps.map (·.2)).take (i + 1), (foldK kf m).isSome = true := fun k G' r hk sG' hr' => by
      have e' := same_upd (o := .tup [.str nn, .str (kW k)]) hr' _ _ (sG' _ _ eG)
      refine ⟨cl, _, _, rfl, rfl, e', Nat.lt_of_le_of_lt (show _ ≤ 200 by rw [List.length_map]; exact lq) (by decide), _, _, _, _, _, qs ++ [(r, nn, some k)], rfl, fun x o' hx' ex => ?_, by rw [upd_same, List.map_append]; rfl, pairsO_push (c := (nn, some k)) (H := G') (l := qs.map fun c => .ref c.1) (sG' _ _ eG) (fun x hx' => sG' _ _ (hpG x hx')) hr', ?_, fun m hm => ?_⟩
      · rw [upd_ne hx']
        exact same_upd hr' _ _ (sG' _ _ (bG _ _ hx' ex))
      · rw [tk, List.map_append, List.map_append, eq, List.append_assoc]
        show _ ++ (_ ++ [(nn, some k)]) = _ ++ (_ ++ [(nn, foldK kf (op, oe, kk, nn))])
        rw [hfk, hk]
      · rw [tk] at hm
        rcases List.mem_append.mp hm with hm | hm
        · exact hal m hm
        · rw [List.mem_singleton.mp hm, hfk, hk]
          rfl
    cases o with
    | none => exact ⟨_, rfl, rfl, _, rfl, iteT (iteT (bad rfl G (Same.refl _)))⟩
    | some k0 =>
      refine ⟨_, rfl, rfl, _, rfl, iteF ?_⟩
      refine ⟨_, rfl, z2, fun t1 ht1 => ⟨t1, (["sum", "mean"] : List Str).map V.str, rfl, .inr (SqT.of upd_same), rfl, flat_strs _, _, rfl, ?_⟩⟩
      have s1 := same_upd (o := .tup [.str "sum", .str "mean"]) ht1
      have fin : ∀ {hn : ¬ ((op ∈ (["sum", "mean"] : List Str)) ∧ k0 = false)}, combK op (some k0) = some (lateK op k0) := fun {hn} => if_neg hn
      refine in_strs (fun hin => ?_) (fun hin => iteF ?_)
      · cases k0 with
        | true =>
          refine ⟨_, rfl, rfl, _, rfl, iteF ?_⟩
          refine ⟨_, rfl, .inl ⟨rfl, _, SqL.of (s1 _ _ eG)⟩, _, rfl, _, rfl, z2, fun t2 ht2 => ⟨t2, (["least", "greatest"] : List Str).map V.str, rfl, .inr (SqT.of upd_same), rfl, flat_strs _, _, rfl, ?_⟩⟩
          have s2' := s1.trans (same_upd (o := .tup [.str "least", .str "greatest"]) ht2)
          refine in_strs (fun h2 => ⟨_, rfl, z2, fun r hr' => ?_⟩) (fun h2 => ⟨z2, fun r hr' => ?_⟩)
          · exact put true _ r (by rw [fin (hn := fun z => by cases z.2), lateK_true]) s2' hr'
          · exact put true _ r (by rw [fin (hn := fun z => by cases z.2), lateK_true]) s2' hr'
        | false =>
          exact ⟨_, rfl, rfl, _, rfl, iteT (bad (if_pos ⟨hin, rfl⟩) _ s1)⟩
      · refine ⟨_, rfl, .inl ⟨rfl, _, SqL.of (s1 _ _ eG)⟩, _, rfl, _, rfl, z2, fun t2 ht2 => ⟨t2, (["least", "greatest"] : List Str).map V.str, rfl, .inr (SqT.of upd_same), rfl, flat_strs _, _, rfl, ?_⟩⟩
        have s2' := s1.trans (same_upd (o := .tup [.str "least", .str "greatest"]) ht2)
        have hc : combK op (some k0) = some (lateK op k0) := fin (hn := fun z => hin z.1)
        unfold lateK at hc
        refine in_strs (fun h2 => ⟨_, rfl, z2, fun r hr' => ?_⟩) (fun h2 => ⟨z2, fun r hr' => ?_⟩)
        · rw [if_pos h2] at hc
          exact put k0 _ r hc s2' hr'
        · rw [if_neg h2] at hc
          exact put true _ r hc s2' hr'
  · rintro σ H' ⟨y5, y6, y7, y8, y9, qs, rfl, b, e, hpq, eq, hal⟩
    rw [List.length_map, List.take_of_length_le (by rw [List.length_map]; exact Nat.le_refl _)] at eq hal
    exact ⟨_, rfl, q (List.all_eq_true.mpr hal) cl qs H' (same_of_but s2 b hcl) e hpq eq⟩
end
end Kx

set_option maxHeartbeats 8000000
namespace Kx
open PySem PySem.Spec PyProof.Rows L2
abbrev s_law_join_columns : Stmt := topS 37
theorem pairs_o {H : Hp} {as : List Col} (h : PairsAt H as) : PairsO H (as.map fun c => (c.1, c.2.1, some c.2.2)) := fun x hx => by
  obtain ⟨c, hc, rfl⟩ := List.mem_map.mp hx
  exact h c hc
section
variable {P : Program} {w : World} {K : PySem.W.Frag} {mg : Str → Option Value} {base : Heap}
abbrev N_law_join_columns : List Str := ["details", "first", "second", "one", "other", "key", "rest", "pair"]
def joinOk (c e : List NC) (ks : List NC) : Bool := ks.all fun k => (kfN c k.1).isSome && decide (kfN e k.1 = kfN c k.1)
def spLJoin : Sp := fun vs H Q _ => ∃ (kt a b : Addr) (ks c e : List NC), vs = [.ref kt, .ref a, .ref b] ∧ H kt = some (.tup (ks.map fun k => .str k.1)) ∧ CF H a c ∧ CF H b e ∧ GoodC c ∧ GoodC e ∧ ks.length ≤ 100 ∧
  (joinOk c e ks = true → ∀ (f : Addr) (qs : List (Addr × OC)) (H' : Hp), Same H H' → H' f = some (.lst (qs.map fun c => .ref c.1)) → PairsO H' qs →
    qs.map (·.2) = (ks.map fun k => (k.1, kfN c k.1)) ++ (c.filter (fun x => decide (x.1 ∉ ks.map (·.1))) ++ e.filter fun x => decide (x.1 ∉ ks.map (·.1))).map (fun x => (x.1, some x.2)) → Q (.ref f) H') ∧
  (joinOk c e ks = false → ∀ H', Same H H' → Q .non H')
theorem sc_ljoin : FnScope N_law_join_columns ["details", "first", "second"] (defScope s_law_join_columns) := ⟨rfl, rfl, rfl, by decide +kernel, rfl, by decide +kernel, by decide +kernel⟩
theorem ok_ljoin {f : Addr} {fd : FuncData} (F : Fun K "_law_join_columns" "_law_join_columns" s_law_join_columns f fd) (m_dict : mg "dict" = none) (m_all : mg "all" = none) : FnOk P w K mg base CX0 1 f fd ["details", "first", "second"] spLJoin := by
  refine F.ok sc_ljoin (fun vs H Q E h => ?_) (fun cdv A outer s H vs Q E hr h => ?_)
  · obtain ⟨kt, a, b, ks, c, e, rfl, _⟩ := h
    rfl
  obtain ⟨kt, a, b, ks, c, e, rfl, h2, hc, he, gc, ge, lk, q, qn⟩ := h
  have nd := sc_ljoin.nd
  have hu64 : _ + 64 < cLine := hr.units
  have hu1 : _ + 1 < cLine := Nat.lt_of_le_of_lt (Nat.add_le_add_left (by decide : 1 ≤ 64) _) hu64
  refine ⟨_, pss_cons (ps_asg (pe_tup (pa_cons (pe_callTy (cr_dictT rfl) (by rfl) m_dict PyProof.Rows.boot_dict (pa_cons (pv 1) pa_nil)) (pa_cons (pe_callTy (cr_dictT rfl) (by rfl) m_dict PyProof.Rows.boot_dict (pa_cons (pv 2) pa_nil)) pa_nil))) (pg_tup rfl (pgs_cons (pg_name (i := 3) nd rfl (.inr rfl)) (pgs_cons (pg_name (i := 4) nd rfl (.inr rfl)) pgs_nil))))
      (pss_cons (ps_if (pt_not (pt_val (pe_callB (cr_all rfl) (by rfl) m_all PyProof.Rows.boot_all (pa_cons (pe_lc (own := [("key", 5)]) (g := gName 5) (tt := tYes) rfl nd (pi_tup (pv 0)) (blkOk_by (N := N_law_join_columns) (sc := defScope s_law_join_columns) (by decide +kernel)) (fun _ _ _ _ _ => pg_name (i := 5) nd rfl (Or.inl rfl)) (fun _ _ _ _ _ => pts_nil) (fun _ _ _ _ _ => (pe_and (pe_cmp (pc_din hu1 (pv 5) (pv 3)) rfl) (pe_one (pe_cmpR op_eq (pe_dget1 hu1 (pv 3) (pv 5) ⟨rfl, rfl, rfl, rfl⟩) (pe_dget1 hu1 (pv 4) (pv 5) ⟨rfl, rfl, rfl, rfl⟩) (nomark _)))))) pa_nil)))) (pss_one (ps_ret pe_non)) (pss_nil))
      (pss_cons (ps_set (i := 6) nd rfl (.inl rfl) (pe_op op_cat (pe_lc (own := [("pair", 7)]) (g := gName 7) (tt := tTest (tOp (rIn K true) (tOp (rIxT K) (tVar 7) (tC (V.int 0))) (tVar 0))) rfl nd (pi_tup (pv 1)) (blkOk_by (N := N_law_join_columns) (sc := defScope s_law_join_columns) (by decide +kernel)) (fun _ _ _ _ _ => pg_name (i := 7) nd rfl (Or.inl rfl)) (fun _ _ _ _ _ => pts_one (pt_cmpR op_notIn_seq (pe_ix ix_tup (pv 7) pe_int (fun _ _ => rfl)) (pv 0) rfl)) (fun _ _ _ _ _ => (pv 7))) (pe_lc (own := [("pair", 7)]) (g := gName 7) (tt := tTest (tOp (rIn K true) (tOp (rIxT K) (tVar 7) (tC (V.int 0))) (tVar 0))) rfl nd (pi_tup (pv 2)) (blkOk_by (N := N_law_join_columns) (sc := defScope s_law_join_columns) (by decide +kernel)) (fun _ _ _ _ _ => pg_name (i := 7) nd rfl (Or.inl rfl)) (fun _ _ _ _ _ => pts_one (pt_cmpR op_notIn_seq (pe_ix ix_tup (pv 7) pe_int (fun _ _ => rfl)) (pv 0) rfl)) (fun _ _ _ _ _ => (pv 7)))))
      (pss_one (ps_ret (pe_op op_cat (pe_lc (own := [("key", 5)]) (g := gName 5) (tt := tYes) rfl nd (pi_tup (pv 0)) (blkOk_by (N := N_law_join_columns) (sc := defScope s_law_join_columns) (by decide +kernel)) (fun _ _ _ _ _ => pg_name (i := 5) nd rfl (Or.inl rfl)) (fun _ _ _ _ _ => pts_nil) (fun _ _ _ _ _ => (pe_tup (pa_cons (pv 5) (pa_cons (pe_dget hu1 (pv 3) (pv 5) (fun _ _ => rfl)) pa_nil))))) (pv 6)))))), ?_⟩
  have z2 : 2 ≤ sizeLine := by decide
  obtain ⟨as, tf, hp, ec⟩ := id hc
  obtain ⟨bs, tf2, hp2, ee⟩ := id he
  have h2' : H kt = some (.tup ((ks.map (·.1)).map V.str)) := by
    rw [List.map_map]
    exact h2
  refine ⟨_, rfl, a, as.map (·.1), as.map fun c => (c.2.1, V.str (kW c.2.2)), rfl, by rw [List.map_map]; exact tf, paired_cols hp, fun k1 hk1 => ?_⟩
  have s1 := same_upd (o := .dK (mergeK [] ((as.map fun c => (c.2.1, V.str (kW c.2.2))).map fun kv => ((.inr kv.1 : L2.Key), kv.2)))) hk1
  have hK := kd_new (H := H) (kd := k1) ec gc.nod
  generalize upd H k1 (.dK (mergeK [] ((as.map fun c => (c.2.1, V.str (kW c.2.2))).map fun kv => ((.inr kv.1 : L2.Key), kv.2)))) = H1 at s1 hK ⊢
  refine ⟨_, rfl, b, bs.map (·.1), bs.map fun c => (c.2.1, V.str (kW c.2.2)), rfl, by rw [List.map_map]; exact same_f s1 _ _ tf2, paired_cols (fun x hx => s1 _ _ (hp2 x hx)), fun k2 hk2 => ?_⟩
  have s2 := same_upd (o := .dK (mergeK [] ((bs.map fun c => (c.2.1, V.str (kW c.2.2))).map fun kv => ((.inr kv.1 : L2.Key), kv.2)))) hk2
  have hL := kd_new (H := H1) (kd := k2) ee ge.nod
  replace hK := hK.keep s2
  replace s1 := s1.trans s2
  generalize upd H1 k2 (.dK (mergeK [] ((bs.map fun c => (c.2.1, V.str (kW c.2.2))).map fun kv => ((.inr kv.1 : L2.Key), kv.2)))) = H2 at s1 hK hL ⊢
  clear s2 hk1 hk2
  refine ⟨z2, fun t0 ht0 => ⟨t0, _, rfl, SqT.of upd_same, rfl, _, _, rfl, _, _, rfl, rfl, ?_⟩⟩
  have s3 := same_upd (o := .tup [.ref k1, .ref k2]) ht0
  replace hK := hK.keep s3
  replace hL := hL.keep s3
  replace s1 := s1.trans s3
  dsimp only at hK hL s1 ⊢
  generalize upd H2 t0 (.tup [.ref k1, .ref k2]) = H3 at s1 hK hL ⊢
  clear s3 ht0
  obtain ⟨kv1, ek1, gk1⟩ := id hK
  obtain ⟨kv2, ek2, gk2⟩ := id hL
  have ekt := s1 _ _ h2'
  let okB : NC → Bool := fun k => (kfN c k.1).isSome && decide (kfN e k.1 = kfN c k.1)
  refine ⟨_, rfl, kt, rfl, ⟨_, SqT.of ekt⟩, fun D1 hD1 => ?_⟩
  refine lc_tup (K := K) (a := kt) (xs := (ks.map (·.1)).map V.str) (fun i G => Same H3 G ∧ G D1 = some (.lst (((ks.take i).map okB).map V.bl))) ⟨same_upd hD1, upd_same⟩ (fun i G _ h => SqT.of (h.1 _ _ ekt)) ?_ ?_
  · rintro i x G hx ⟨sm, e1⟩
    rw [List.getElem?_map, List.getElem?_map, Option.map_map] at hx
    obtain ⟨k, hk', rfl⟩ := Option.map_eq_some_iff.mp hx
    have tk : ks.take (i + 1) = ks.take i ++ [k] := by
      rw [List.take_add_one, hk']
      rfl
    have put : ∀ bb, okB k = bb → ∃ acc, G D1 = some (.lst acc) ∧ acc.length < sizeLine ∧ Same H3 (upd G D1 (.lst (acc ++ [.bl bb]))) ∧ upd G D1 (.lst (acc ++ [.bl bb])) D1 = some (.lst (((ks.take (i + 1)).map okB).map V.bl)) := fun bb hb => by
      refine ⟨_, e1, Nat.lt_of_le_of_lt (show _ ≤ 100 by rw [List.length_map, List.length_map, List.length_take]; omega) (by decide), fun b' o' ex => ?_, ?_⟩
      · rw [upd_ne (ne_of_none ex hD1)]
        exact sm _ _ ex
      · rw [tk, List.map_append, List.map_append, ← hb]
        exact upd_same
    have v1 := gk1 k.1
    have v2 := gk2 k.1
    refine ⟨rfl, _, rfl, _, rfl, k1, _, rfl, DGet.k (k := .inr k.1) (sm _ _ ek1), _, rfl, ?_⟩
    cases hc1 : kfN c k.1 with
    | none =>
      rw [hc1] at v1
      rw [v1]
      exact iteF (put false (by show ((kfN c k.1).isSome && _) = false; rw [hc1]; rfl))
    | some b1 =>
      rw [hc1] at v1
      rw [v1]
      refine iteT ⟨_, rfl, k1, rfl, .inl ⟨_, .inl (sm _ _ ek1)⟩, _, rfl, _, DGet.k (k := .inr k.1) (sm _ _ ek1), _, rfl, k2, rfl, .inl ⟨_, .inl (sm _ _ ek2)⟩, _, rfl, _, DGet.k (k := .inr k.1) (sm _ _ ek2), ?_⟩
      cases hc2 : kfN e k.1 with
      | none =>
        rw [hc2] at v2
        rw [v1, v2]
        exact ⟨rfl, put false (by show ((kfN c k.1).isSome && decide (kfN e k.1 = kfN c k.1)) = false; rw [hc1, hc2]; rfl)⟩
      | some b2 =>
        rw [hc2] at v2
        rw [v1, v2]
        refine ⟨rfl, put _ ?_⟩
        show ((kfN c k.1).isSome && decide (kfN e k.1 = kfN c k.1)) = decide (V.str (kW b1) = V.str (kW b2))
        rw [hc1, hc2]
        cases b1 <;> cases b2 <;> decide +kernel
  rintro H4 ⟨s4, e4⟩
  rw [List.length_map, List.length_map, List.take_length] at e4
  replace s1 := s1.trans s4
  replace ekt := s4 _ _ ekt
  replace ek1 := s4 _ _ ek1
  refine ⟨D1, ks.map okB, rfl, SqL.of e4, _, rfl, ?_⟩
  have eall : (ks.map okB).all id = joinOk c e ks := by
    unfold joinOk
    rw [List.all_map]
    rfl
  rw [eall]
  cases hj : joinOk c e ks with
  | false => exact iteT (qn hj _ s1)
  | true =>
  refine iteF ?_
  let PP : Col → Bool := fun c => decide (c.2.1 ∉ ks.map (·.1))
  have la : as.length ≤ 100 := by
    have := gc.few
    rw [← ec, List.length_map] at this
    exact this
  have lb : bs.length ≤ 100 := by
    have := ge.few
    rw [← ee, List.length_map] at this
    exact this
  have hpA : PairsAt H4 as := fun x hx => s1 _ _ (hp x hx)
  have tfA := same_f s1 _ _ tf
  refine ⟨_, rfl, a, rfl, ⟨_, (tfA).sq⟩, fun DA hDA => ?_⟩
  refine lc_tup (K := K) (a := a) (xs := as.map fun c => .ref c.1) (fun i H' => Same H4 H' ∧ H' DA = some (.lst (((as.take i).filter PP).map fun c => .ref c.1))) ⟨same_upd hDA, upd_same⟩ (fun i H' _ h => (same_f h.1 _ _ (tfA)).sq) ?_ ?_
  · rintro i x H' hx ⟨sm, e'⟩
    rw [List.getElem?_map] at hx
    obtain ⟨x', hx', rfl⟩ := Option.map_eq_some_iff.mp hx
    have cm := List.mem_of_getElem? hx'
    refine ⟨rfl, _, rfl, x'.1, _, 0, _, rfl, rfl, SqT.of (sm _ _ (hpA x' cm)), rfl, _, rfl, kt, (ks.map (·.1)).map V.str, rfl, .inr (SqT.of (sm _ _ ekt)), rfl, flat_strs _, _, rfl, notin_strs (fun hn => ?_) (fun hn => ?_)⟩
    · refine ⟨_, rfl, _, e', ?_, fun b' o' ex => ?_, ?_⟩
      · rw [List.length_map]
        have h1 := filt_len (P := PP) (as.take i)
        have h2 : (as.take i).length ≤ as.length := by rw [List.length_take]; omega
        exact Nat.lt_of_le_of_lt (show _ ≤ 100 by omega) (by decide)
      · rw [upd_ne (ne_of_none ex hDA)]
        exact sm _ _ ex
      · rw [filt_yes hx' (decide_eq_true hn), List.map_append]
        exact upd_same
    · refine ⟨sm, ?_⟩
      rw [filt_no hx' (decide_eq_false fun z => z hn)]
      exact e'
  rintro H5 ⟨s5, eDA⟩
  rw [List.length_map, List.take_length] at eDA
  replace s1 := s1.trans s5
  replace ekt := s5 _ _ ekt
  replace ek1 := s5 _ _ ek1
  have hpB : PairsAt H5 bs := fun x hx => s1 _ _ (hp2 x hx)
  have tfB := same_f s1 _ _ tf2
  refine ⟨_, rfl, b, rfl, ⟨_, (tfB).sq⟩, fun DB hDB => ?_⟩
  refine lc_tup (K := K) (a := b) (xs := bs.map fun c => .ref c.1) (fun i H' => Same H5 H' ∧ H' DB = some (.lst (((bs.take i).filter PP).map fun c => .ref c.1))) ⟨same_upd hDB, upd_same⟩ (fun i H' _ h => (same_f h.1 _ _ (tfB)).sq) ?_ ?_
  · rintro i x H' hx ⟨sm, e'⟩
    rw [List.getElem?_map] at hx
    obtain ⟨x', hx', rfl⟩ := Option.map_eq_some_iff.mp hx
    have cm := List.mem_of_getElem? hx'
    refine ⟨rfl, _, rfl, x'.1, _, 0, _, rfl, rfl, SqT.of (sm _ _ (hpB x' cm)), rfl, _, rfl, kt, (ks.map (·.1)).map V.str, rfl, .inr (SqT.of (sm _ _ ekt)), rfl, flat_strs _, _, rfl, notin_strs (fun hn => ?_) (fun hn => ?_)⟩
    · refine ⟨_, rfl, _, e', ?_, fun b' o' ex => ?_, ?_⟩
      · rw [List.length_map]
        have h1 := filt_len (P := PP) (bs.take i)
        have h2 : (bs.take i).length ≤ bs.length := by rw [List.length_take]; omega
        exact Nat.lt_of_le_of_lt (show _ ≤ 100 by omega) (by decide)
      · rw [upd_ne (ne_of_none ex hDB)]
        exact sm _ _ ex
      · rw [filt_yes hx' (decide_eq_true hn), List.map_append]
        exact upd_same
    · refine ⟨sm, ?_⟩
      rw [filt_no hx' (decide_eq_false fun z => z hn)]
      exact e'
  rintro H6 ⟨s6, eDB⟩
  rw [List.length_map, List.take_length] at eDB
  have lA := filt_len (P := PP) as
  have lB := filt_len (P := PP) bs
  replace s1 := s1.trans s6
  replace ekt := s6 _ _ ekt
  replace ek1 := s6 _ _ ek1
  refine ⟨DA, DB, _, _, rfl, rfl, s6 _ _ eDA, eDB, Nat.le_trans (show _ ≤ 200 by rw [List.length_map, List.length_map]; omega) (by decide), fun pr hpr => ?_⟩
  rw [← List.map_append]
  have s7 := same_upd (o := .lst ((as.filter PP ++ bs.filter PP).map fun c => .ref c.1)) hpr
  have epr : upd H6 pr (.lst ((as.filter PP ++ bs.filter PP).map fun c => .ref c.1)) pr = some (.lst ((as.filter PP ++ bs.filter PP).map fun c => .ref c.1)) := upd_same
  replace s1 := s1.trans s7
  replace ekt := s7 _ _ ekt
  replace ek1 := s7 _ _ ek1
  generalize upd H6 pr (.lst ((as.filter PP ++ bs.filter PP).map fun c => .ref c.1)) = H7 at s1 ekt ek1 epr ⊢
  let kN : NC → OC := fun k => (k.1, kfN c k.1)
  refine ⟨_, rfl, kt, rfl, ⟨_, SqT.of ekt⟩, fun cl hcl => ?_⟩
  refine lc_tup (K := K) (a := kt) (xs := (ks.map (·.1)).map V.str) (fun i H' => Same H7 H' ∧ ∃ qs : List (Addr × OC), H' cl = some (.lst (qs.map fun c => .ref c.1)) ∧ PairsO H' qs ∧ qs.map (·.2) = (ks.take i).map kN) ⟨same_upd hcl, [], upd_same, fun x hx => absurd hx List.not_mem_nil, by simp⟩ (fun i H' _ h => SqT.of (h.1 _ _ ekt)) ?_ ?_
  · rintro i x H' hx ⟨sm, qs, e', hpq, eq⟩
    rw [List.getElem?_map, List.getElem?_map, Option.map_map] at hx
    obtain ⟨k, hk', rfl⟩ := Option.map_eq_some_iff.mp hx
    have hk0 := (Bool.and_eq_true_iff.mp (List.all_eq_true.mp hj k (List.mem_of_getElem? hk'))).1
    have tk : ks.take (i + 1) = ks.take i ++ [k] := by
      rw [List.take_add_one, hk']
      rfl
    have lq : qs.length ≤ 100 := by
      have h := congrArg List.length eq
      rw [List.length_map, List.length_map, List.length_take] at h
      omega
    cases hb : kfN c k.1 with
    | none =>
      rw [hb] at hk0
      cases hk0
    | some b' =>
      have gt : DGet H' k1 (.str k.1) (some (.str (kW b'))) := by
        have h0 : valV kv1 (.inr k.1) = some (.str (kW b')) := by rw [gk1, hb]; rfl
        exact h0 ▸ DGet.k (k := .inr k.1) (sm _ _ ek1)
      refine ⟨rfl, _, rfl, _, rfl, _, rfl, k1, _, rfl, gt, z2, fun r hr' => ?_⟩
      have e'' := same_upd (o := .tup [.str k.1, .str (kW b')]) hr' _ _ e'
      refine ⟨_, e'', Nat.lt_of_le_of_lt (show _ ≤ 100 by rw [List.length_map]; exact lq) (by decide), fun x o' ex => ?_, qs ++ [(r, k.1, some b')], by rw [upd_same, List.map_append]; rfl, pairsO_push (c := (k.1, some b')) (H := H') (l := qs.map fun c => .ref c.1) e' hpq hr', ?_⟩
      · rw [upd_ne (ne_of_none ex hcl)]
        exact same_upd hr' _ _ (sm _ _ ex)
      · rw [tk, List.map_append, List.map_append, eq]
        show _ ++ [(k.1, some b')] = _ ++ [(k.1, kfN c k.1)]
        rw [hb]
  rintro H8 ⟨s8, qs, ecl, hpq, eq⟩
  rw [List.length_map, List.length_map, List.take_length] at eq
  have lq : qs.length ≤ 100 := by
    have h := congrArg List.length eq
    rw [List.length_map, List.length_map] at h
    omega
  have sf := s1.trans s8
  refine ⟨_, rfl, cl, pr, _, _, rfl, rfl, ecl, s8 _ _ epr, Nat.le_trans (show _ ≤ 300 by rw [List.length_map, List.length_map, List.length_append]; omega) (by decide), fun r hr' => ?_⟩
  have s9 := same_upd (o := .lst ((qs.map fun c => .ref c.1) ++ (as.filter PP ++ bs.filter PP).map fun c => .ref c.1)) hr'
  refine q hj r (qs ++ (as.filter PP ++ bs.filter PP).map fun c => (c.1, c.2.1, some c.2.2)) _ (sf.trans s9) ?_ (fun x hx => ?_) ?_
  · have h0 : (qs ++ (as.filter PP ++ bs.filter PP).map fun c => (c.1, c.2.1, some c.2.2)).map (fun c : Addr × OC => V.ref c.1) = (qs.map fun c => V.ref c.1) ++ (as.filter PP ++ bs.filter PP).map fun c => V.ref c.1 := by
      rw [List.map_append (l₁ := qs), List.map_map]
      rfl
    rw [upd_same, h0]
  · rcases List.mem_append.mp hx with hx | hx
    · exact s9 _ _ (hpq x hx)
    · refine pairs_o (fun y hy => ?_) x hx
      rcases List.mem_append.mp hy with hy | hy
      · exact (sf.trans s9) _ _ (hp y (List.mem_filter.mp hy).1)
      · exact (sf.trans s9) _ _ (hp2 y (List.mem_filter.mp hy).1)
  · have h1 : c.filter (fun x => decide (x.1 ∉ ks.map (·.1))) = (as.filter PP).map (·.2) := by
      rw [← ec, List.filter_map]
      rfl
    have h3 : e.filter (fun x => decide (x.1 ∉ ks.map (·.1))) = (bs.filter PP).map (·.2) := by
      rw [← ee, List.filter_map]
      rfl
    rw [h1, h3, ← List.map_append, List.map_map, List.map_append (l₁ := qs), eq, List.map_map]
    rfl
end
end Kx

set_option maxHeartbeats 8000000
namespace Kx
open PySem PySem.Spec PyProof.Rows L2
abbrev s_law_columns : Stmt := topS 38
/-- a step as the law's own look wants it -/
def LawOk (s : Stp) : Prop := StpOk s ∧ ∀ ks fs, s.det = .fold ks fs → ∀ m ∈ fs, m.1 = "count" → m.2.1 = none
def closeO (qs : List OC) : Option (List NC) := if (qs.all fun c => c.2.isSome) = true then ndC (qs.map fun c => (c.1, c.2.getD true)) else none
theorem closeO_cols (cs : List NC) : closeO (cs.map fun c => (c.1, some c.2)) = ndC cs := by
  unfold closeO
  rw [if_pos (by simp), List.map_map]
  congr 1
  exact List.map_id cs
theorem ndC_good {cs : List NC} (h : (cs.map (·.1)).Nodup) : ndC cs = some cs := if_pos h
theorem pairedK {K : PySem.W.Frag} {H : Hp} : ∀ {as : List Col}, PairsAt H as → Paired (fun p kv => SqT K H p [kV kv.1, kv.2]) (as.map (·.1)) (as.map fun c => ((.inr c.2.1 : L2.Key), V.str (kW c.2.2)))
  | [], _ => .nil
  | c :: as, h => .cons (SqT.of (h c List.mem_cons_self)) (pairedK fun x hx => h x (List.mem_cons_of_mem _ hx))
theorem val_is {tg : Tg} (hn : (tg.map (·.1)).Nodup) (x : Str) : (valV (tg.map fun e => ((.inr e.1 : L2.Key), V.ref e.2.1)) (.inr x)).isSome = decide (x ∈ tg.map (·.1)) := by
  by_cases h : x ∈ tg.map (·.1)
  · obtain ⟨e, he, ee⟩ := List.mem_map.mp h
    rw [decide_eq_true h, ← ee, val_in hn he]
    rfl
  · rw [decide_eq_false h, val_out h]
    rfl
def MidC (st kn inp : Addr) (nm wh : Str) (dv : V) (R : Option (List NC)) (G : Hp) (σ : L2.St) (G' : Hp) : Prop := ∃ (y6 y8 y9 y10 y11 y12 y13 : Option V) (y7 : V), σ = [some (.ref st), some (.ref kn), some (.str nm), some (.str wh), some (.ref inp), some dv, y6, some y7, y8, y9, y10, y11, y12, y13] ∧ Same G G' ∧
    ((y7 = .non ∧ R = none) ∨ ∃ (f : Addr) (qs : List (Addr × OC)), y7 = .ref f ∧ G' f = some (.lst (qs.map fun c => .ref c.1)) ∧ PairsO G' qs ∧ qs.length ≤ 300 ∧ R = closeO (qs.map (·.2)))
theorem MidC.cols {st kn inp : Addr} {nm wh : Str} {dv : V} {R : Option (List NC)} {G G' : Hp} {as : List Col} {l : Addr} {y6 y8 y9 y10 y11 y12 y13 : Option V} (sm : Same G G') (e : G' l = some (.lst (as.map fun c => .ref c.1))) (hp : PairsAt G' as) (h : as.length ≤ 300) (hR : R = ndC (as.map (·.2))) :
    MidC st kn inp nm wh dv R G [some (.ref st), some (.ref kn), some (.str nm), some (.str wh), some (.ref inp), some dv, y6, some (.ref l), y8, y9, y10, y11, y12, y13] G' := by
  refine ⟨_, _, _, _, _, _, _, _, rfl, sm, .inr ⟨l, as.map fun c => (c.1, c.2.1, some c.2.2), rfl, ?_, pairs_o hp, by rw [List.length_map]; exact h, ?_⟩⟩
  · rw [e, List.map_map]
    rfl
  · rw [hR, ← closeO_cols, List.map_map, List.map_map]
    rfl
section
variable {P : Program} {w : World} {K : PySem.W.Frag} {mg : Str → Option Value} {base : Heap}
abbrev N_law_columns : List Str := ["step", "known", "name", "what", "inputs", "details", "one", "found", "has", "told", "late", "column", "way", "kind"]
def spLCols : Sp := fun vs H Q _ => ∃ (st kn : Addr) (s : Stp) (tg : Tg), vs = [.ref st, .ref kn] ∧ StpAt H st s ∧ LawOk s ∧ H kn = some (.dK (tg.map fun e => (.inr e.1, .ref e.2.1))) ∧ (∀ e ∈ tg, CF H e.2.1 e.2.2 ∧ NamedC e.2.2) ∧ (tg.map (·.1)).Nodup ∧
  (∀ cs, stepC (absT tg) s = some cs → ∀ (a : Addr) (H' : Hp), Same H H' → CF H' a cs → Q (.ref a) H') ∧ (stepC (absT tg) s = none → ∀ H', Same H H' → Q .non H')
theorem sc_lcols : FnScope N_law_columns ["step", "known"] (defScope s_law_columns) := ⟨rfl, rfl, rfl, by decide +kernel, rfl, by decide +kernel, by decide +kernel⟩
theorem ok_lcols {f : Addr} {fd : FuncData} (F : Fun K "_law_columns" "_law_columns" s_law_columns f fd) (m_len : mg "len" = none) (m_set : mg "set" = none) (m_tuple : mg "tuple" = none) (m_list : mg "list" = none) (m_dict : mg "dict" = none) (m_all : mg "all" = none)
    (G_law_kind : Ready P w K mg base 13 "_law_kind" ["told", "columns"] (spLKind 12)) (G_law_fold : Ready P w K mg base 14 "_law_fold_columns" ["details", "has"] spLFold) (G_law_join : Ready P w K mg base 1 "_law_join_columns" ["details", "first", "second"] spLJoin) : FnOk P w K mg base CX0 15 f fd ["step", "known"] spLCols := by
  refine F.ok sc_lcols (fun vs H Q E h => ?_) (fun cdv A outer s0 H vs Q E hr h => ?_)
  · obtain ⟨st, kn, s, tg, rfl, _⟩ := h
    rfl
  obtain ⟨st, kn, s, tg, rfl, hst, hlaw, eK, hcf, hnd, q, qn⟩ := h
  have nd := sc_lcols.nd
  have hrf : Room 14 _ := hr
  have hrk : Room 13 _ := hr.mono (by decide)
  have hrj : Room 1 _ := hr.mono (by decide)
  have hu64 : _ + 64 < cLine := hr.units
  have hu1 : _ + 1 < cLine := Nat.lt_of_le_of_lt (Nat.add_le_add_left (by decide : 1 ≤ 64) _) hu64
  refine ⟨_, pss_cons (ps_asg (pv 0) (pg_tup rfl (pgs_cons (pg_name (i := 2) nd rfl (.inl rfl)) (pgs_cons (pg_name (i := 3) nd rfl (.inl rfl)) (pgs_cons (pg_name (i := 4) nd rfl (.inl rfl)) (pgs_cons (pg_name (i := 5) nd rfl (.inl rfl)) pgs_nil))))))
      (pss_cons (ps_if (PW.pt (pw_or (pt_cmp (pc_din hu1 (pv 2) (pv 1)) rfl) (pw_or1 (pt_not (pt_val (pe_callB (cr_all rfl) (by rfl) m_all PyProof.Rows.boot_all (pa_cons (pe_lc (own := [("one", 6)]) (g := gName 6) (tt := tYes) rfl nd (pi_tup (pv 4)) (blkOk_by (N := N_law_columns) (sc := defScope s_law_columns) (by decide +kernel)) (fun _ _ _ _ _ => pg_name (i := 6) nd rfl (Or.inl rfl)) (fun _ _ _ _ _ => pts_nil) (fun _ _ _ _ _ => (pe_cmp (pc_din hu1 (pv 6) (pv 1)) rfl))) pa_nil))))))) (pss_one (ps_ret pe_non)) (pss_nil))
      (C8.pss_cut (ps_if (pt_cmpR op_eq (pv 3) pe_str (nomark _)) (pss_one (ps_set (i := 7) nd rfl (.inl rfl) (pe_callTy call_list_of (by rfl) m_list PyProof.Rows.boot_list (pa_cons (pv 5) pa_nil)))) (pss_one (ps_if (pt_cmpR op_eq (pv 3) pe_str (nomark _)) (pss_cons (ps_set (i := 8) nd rfl (.inr rfl) (pe_callTy (cr_dictT rfl) (by rfl) m_dict PyProof.Rows.boot_dict (pa_cons (pe_dget hu1 (pv 1) (pe_ix ix_tup (pv 4) pe_int (fun _ _ => rfl)) (fun _ _ => rfl)) pa_nil)))
      (pss_one (ps_setLc (i := 7) (own := [("told", 9), ("late", 10)]) (g := (gTup K 2 (gCons (gName 9) (gCons (gName 10) gNil)))) (tt := tYes) rfl nd rfl rfl (sw_true rfl rfl rfl (by decide +kernel)) (pi_tup (pv 5)) (blkOk_by (N := N_law_columns) (sc := defScope s_law_columns) (by decide +kernel)) (fun _ _ _ _ _ => pg_tup rfl (pgs_cons (pg_name (i := 9) nd rfl (.inl rfl)) (pgs_cons (pg_name (i := 10) nd rfl (.inl rfl)) pgs_nil))) (fun _ _ _ _ _ => pts_nil) (fun _ _ _ _ _ => (pe_tup (pa_cons (pv 10) (pa_cons (pe_fn G_law_kind hrk (pa_cons (pv 9) (pa_cons (pv 8) pa_nil))) pa_nil))))))) (pss_one (ps_if (pt_cmpR op_eq (pv 3) pe_str (nomark _)) (pss_one (ps_set (i := 7) nd rfl (.inl rfl) (pe_fn G_law_fold hrf (pa_cons (pv 5) (pa_cons (pe_callTy (cr_dictT rfl) (by rfl) m_dict PyProof.Rows.boot_dict (pa_cons (pe_dget hu1 (pv 1) (pe_ix ix_tup (pv 4) pe_int (fun _ _ => rfl)) (fun _ _ => rfl)) pa_nil)) pa_nil))))) (pss_one (ps_if (pt_cmpR op_eq (pv 3) pe_str (nomark _)) (pss_one (ps_set (i := 7) nd rfl (.inl rfl) (pe_fn G_law_join hrj (pa_cons (pv 5) (pa_cons (pe_dget hu1 (pv 1) (pe_ix ix_tup (pv 4) pe_int (fun _ _ => rfl)) (fun _ _ => rfl)) (pa_cons (pe_dget hu1 (pv 1) (pe_ix ix_tup (pv 4) pe_int (fun _ _ => rfl)) (fun _ _ => rfl)) pa_nil)))))) (pss_cons (ps_set (i := 7) nd rfl (.inl rfl) (pe_callTy call_list_of (by rfl) m_list PyProof.Rows.boot_list (pa_cons (pe_dget hu1 (pv 1) (pe_ix ix_tup (pv 4) pe_int (fun _ _ => rfl)) (fun _ _ => rfl)) pa_nil)))
      (pss_cons (ps_set (i := 8) nd rfl (.inr rfl) (pe_callTy (call_dictP rfl) (by rfl) m_dict PyProof.Rows.boot_dict (pa_cons (pv 7) pa_nil)))
      (pss_cons (ps_if (PW.pt (pw_or (PW.pt (pw_and (pt_cmpR op_eq (pv 3) pe_str (nomark _)) (pw_and1 (pt_cmpR op_ne (pe_fn G_law_kind hrk (pa_cons (pv 5) (pa_cons (pv 8) pa_nil))) pe_str (nomark _))))) (pw_or1 (PW.pt (pw_and (pt_cmpR op_eq (pv 3) pe_str (nomark _)) (pw_and1 (pt_cmpR (op_neD hu64) (pe_callTy call_list_of (by rfl) m_list PyProof.Rows.boot_list (pa_cons (pe_dget hu1 (pv 1) (pe_ix ix_tup (pv 4) pe_int (fun _ _ => rfl)) (fun _ _ => rfl)) pa_nil)) (pv 7) (nomark _)))))))) (pss_one (ps_ret pe_non)) (pss_nil))
      (pss_one (ps_if (PW.pt (pw_and (pt_cmpR op_eq (pv 3) pe_str (nomark _)) (pw_and1 (pt_not (pt_val (pe_callB (cr_all rfl) (by rfl) m_all PyProof.Rows.boot_all (pa_cons (pe_lc (own := [("column", 11), ("way", 12)]) (g := (gTup K 2 (gCons (gName 11) (gCons (gName 12) gNil)))) (tt := tYes) rfl nd (pi_tup (pe_ix ix_tup (pv 5) pe_int (fun _ _ => rfl))) (blkOk_by (N := N_law_columns) (sc := defScope s_law_columns) (by decide +kernel)) (fun _ _ _ _ _ => pg_tup rfl (pgs_cons (pg_name (i := 11) nd rfl (.inl rfl)) (pgs_cons (pg_name (i := 12) nd rfl (.inl rfl)) pgs_nil))) (fun _ _ _ _ _ => pts_nil) (fun _ _ _ _ _ => (pe_cmp (pc_din hu1 (pv 11) (pv 8)) rfl))) pa_nil))))))) (pss_one (ps_ret pe_non)) (pss_nil)))))))))))))
      (pss_cons (ps_if (PW.pt (pw_or (pt_cmpR op_isN (pv 7) pe_non (nomark _)) (pw_or1 (pt_not (pt_val (pe_callB (cr_all rfl) (by rfl) m_all PyProof.Rows.boot_all (pa_cons (pe_lc (own := [("column", 11), ("kind", 13)]) (g := (gTup K 2 (gCons (gName 11) (gCons (gName 13) gNil)))) (tt := tYes) rfl nd (pi_list (pv 7)) (blkOk_by (N := N_law_columns) (sc := defScope s_law_columns) (by decide +kernel)) (fun _ _ _ _ _ => pg_tup rfl (pgs_cons (pg_name (i := 11) nd rfl (.inl rfl)) (pgs_cons (pg_name (i := 13) nd rfl (.inl rfl)) pgs_nil))) (fun _ _ _ _ _ => pts_nil) (fun _ _ _ _ _ => (pe_cmpR op_notN (pv 13) pe_non (nomark _)))) pa_nil))))))) (pss_one (ps_ret pe_non)) (pss_nil))
      (pss_one (ps_ret (pe_ifExp (pt_cmpR op_eq (pe_callB cr_lenK (by rfl) m_len PySem.boot_len (pa_cons (pe_callTy (Yk.cr_setK rfl) (by rfl) m_set PyProof.Rows.boot_set (pa_cons (pe_lc (own := [("column", 11), ("kind", 13)]) (g := (gTup K 2 (gCons (gName 11) (gCons (gName 13) gNil)))) (tt := tYes) rfl nd (pi_list (pv 7)) (blkOk_by (N := N_law_columns) (sc := defScope s_law_columns) (by decide +kernel)) (fun _ _ _ _ _ => pg_tup rfl (pgs_cons (pg_name (i := 11) nd rfl (.inl rfl)) (pgs_cons (pg_name (i := 13) nd rfl (.inl rfl)) pgs_nil))) (fun _ _ _ _ _ => pts_nil) (fun _ _ _ _ _ => (pv 11))) pa_nil)) pa_nil)) (pe_callB call_len_seq (by rfl) m_len PySem.boot_len (pa_cons (pv 7) pa_nil)) (nomark _)) (pe_callTy cr_tupleF (by rfl) m_tuple PyProof.Rows.boot_tuple (pa_cons (pv 7) pa_nil)) pe_non)))))), ?_⟩
  have z2 : 2 ≤ sizeLine := by decide
  obtain ⟨⟨hdok, hdn, har⟩, hcount⟩ := hlaw
  obtain ⟨inp, dv, x1, x2, x3⟩ := hst
  have names : (absT tg).map (·.1) = tg.map (·.1) := by
    unfold absT
    rw [List.map_map]
    rfl
  refine ⟨_, rfl, st, _, rfl, SqT.of x1, rfl, _, _, rfl, _, _, rfl, _, _, rfl, _, _, rfl, rfl, ?_⟩
  refine ⟨_, rfl, _, rfl, kn, _, rfl, DGet.k (k := .inr s.name) eK, _, rfl, ?_⟩
  rw [val_is hnd]
  refine ite2 (fun c => ?_) (fun c => ?_)
  · exact iteT (qn (if_pos (by rw [names]; exact of_decide_eq_true c)) _ (Same.refl _))
  have hin : s.name ∉ tg.map (·.1) := of_decide_eq_false (by simpa using c)
  let inB : Str → Bool := fun x => decide (x ∈ tg.map (·.1))
  refine ⟨_, rfl, inp, rfl, ⟨_, SqT.of x2⟩, fun D hD => ?_⟩
  refine lc_tup (K := K) (a := inp) (xs := s.ins.map V.str) (fun i G => Same H G ∧ G D = some (.lst (((s.ins.take i).map inB).map V.bl))) ⟨same_upd hD, upd_same⟩ (fun i G _ h => SqT.of (h.1 _ _ x2)) ?_ ?_
  · rintro i x G hx ⟨sm, e1⟩
    rw [List.getElem?_map] at hx
    obtain ⟨z, hz, rfl⟩ := Option.map_eq_some_iff.mp hx
    have tk : s.ins.take (i + 1) = s.ins.take i ++ [z] := by
      rw [List.take_add_one, hz]
      rfl
    have li : s.ins.length ≤ 2 := by
      rw [har]
      cases s.det <;> first | exact Nat.le_refl 2 | exact Nat.le_succ 1 | exact Nat.zero_le 2
    refine ⟨rfl, _, rfl, _, rfl, kn, _, rfl, DGet.k (k := .inr z) (sm _ _ eK), _, e1, Nat.lt_of_le_of_lt (show _ ≤ 2 by rw [List.length_map, List.length_map, List.length_take]; omega) (by decide), fun b' o' ex => ?_, ?_⟩
    · rw [upd_ne (ne_of_none ex hD)]
      exact sm _ _ ex
    · rw [tk, List.map_append, List.map_append, val_is hnd]
      exact upd_same
  rintro G ⟨sG, eD⟩
  rw [List.length_map, List.take_length] at eD
  refine ⟨D, s.ins.map inB, rfl, SqL.of eD, _, rfl, ?_⟩
  have eall : (s.ins.map inB).all id = s.ins.all inB := by
    rw [List.all_map]
    rfl
  rw [eall]
  cases hal : s.ins.all inB with
  | false =>
    refine iteT (qn ?_ _ sG)
    unfold stepC
    rw [if_neg (by rw [names]; exact hin)]
    refine if_pos ?_
    obtain ⟨x, hx, hb⟩ := List.all_eq_false.mp hal
    exact ⟨x, hx, by rw [names]; exact of_decide_eq_false (Bool.eq_false_iff.mpr hb)⟩
  | true =>
  refine iteF ?_
  have al : ∀ x ∈ s.ins, x ∈ tg.map (·.1) := fun x hx => of_decide_eq_true (List.all_eq_true.mp hal x hx)
  obtain ⟨es, ees, hes⟩ := choose_es al
  have hstep : stepC (absT tg) s = colsD (es.map (·.2.2)) s.det := by
    unfold stepC
    rw [if_neg (by rw [names]; exact hin), if_neg (fun z => by
      obtain ⟨x, hx, hn⟩ := z
      rw [names] at hn
      exact hn (al x hx)), ← ees, List.map_map]
    congr 1
    refine List.map_congr_left fun e he => ?_
    exact known_in hnd (hes e he)
  have hle : es.length = s.det.arity := by
    have h := congrArg List.length ees
    rw [List.length_map] at h
    rw [h, har]
  rw [hstep] at q qn
  have x1' := sG _ _ x1
  have x2' : G inp = some (.tup (es.map fun e => V.str e.1)) := by
    have h := sG _ _ x2
    rw [← ees, List.map_map] at h
    exact h
  have x3' := x3.keep (same_t sG) (same_f sG)
  have eK' := sG _ _ eK
  have hcf' : ∀ e ∈ es, CF G e.2.1 e.2.2 ∧ GoodC e.2.2 := fun e he => ⟨(hcf e (hes e he)).1.keep (same_t sG) (same_f sG), (hcf e (hes e he)).2.good⟩
  have gt : ∀ {G' : Hp}, Same G G' → ∀ {e : Str × Addr × List NC}, e ∈ es → DGet G' kn (.str e.1) (some (.ref e.2.1)) := fun sm e he => (val_in hnd (hes e he)) ▸ DGet.k (k := .inr e.1) (sm _ _ eK')
  clear hal eall eD hcf x1 x2 x3 eK hD D
  refine ⟨MidC st kn inp s.name s.det.what dv (colsD (es.map (·.2.2)) s.det) G, ?_, ?_⟩
  · have i1 : es.length = 1 → ∃ e0, es = [e0] := fun h => by
      match es, h with
      | [e0], _ => exact ⟨e0, rfl⟩
    have i2 : es.length = 2 → ∃ e0 e1, es = [e0, e1] := fun h => by
      match es, h with
      | [e0, e1], _ => exact ⟨e0, e1, rfl⟩
    clear hstep hdn har ees hnd x1' q hin names hr
    generalize s.det = det at *
    cases det with
    | read cs =>
      obtain ⟨t, as, rfl, tf, hp, rfl⟩ := x3'
      have l1 : as.length ≤ 100 := by
        have : (as.map (·.2)).length ≤ 100 := hdok
        rw [List.length_map] at this
        exact this
      refine ⟨_, rfl, rfl, _, rfl, iteT ⟨_, rfl, t, _, rfl, .inr tf.sq, fun l hl => ?_⟩⟩
      have s1 := same_upd (o := .lst (as.map fun c => .ref c.1)) hl
      exact MidC.cols s1 upd_same (fun x hx => s1 _ _ (hp x hx)) (by omega) rfl
    | map ms =>
      obtain ⟨e0, rfl⟩ := i1 hle
      obtain ⟨as, tf, hp, ec⟩ := id (hcf' e0 List.mem_cons_self).1
      have gc := (hcf' e0 List.mem_cons_self).2
      obtain ⟨t, ps, rfl, h1, h2, rfl⟩ := x3'
      refine ⟨_, rfl, rfl, _, rfl, iteF ⟨_, rfl, rfl, _, rfl, iteT ?_⟩⟩
      refine ⟨_, rfl, _, rfl, inp, _, 0, _, rfl, rfl, SqT.of x2', rfl, kn, _, rfl, gt (Same.refl _) List.mem_cons_self, e0.2.1, as.map (·.1), as.map fun c => (c.2.1, V.str (kW c.2.2)), rfl, by rw [List.map_map]; exact tf, paired_cols hp, fun k1 hk1 => ?_⟩
      have s2 := same_upd (o := .dK (mergeK [] ((as.map fun c => (c.2.1, V.str (kW c.2.2))).map fun kv => ((.inr kv.1 : L2.Key), kv.2)))) hk1
      have hK := kd_new (H := G) (kd := k1) ec gc.nod
      generalize upd G k1 (.dK (mergeK [] ((as.map fun c => (c.2.1, V.str (kW c.2.2))).map fun kv => ((.inr kv.1 : L2.Key), kv.2)))) = G2 at s2 hK ⊢
      have h1' := s2 _ _ h1
      have lm : ps.length ≤ 100 := by
        have h : (ps.map (·.2)).length ≤ 100 := hdok.1
        rw [List.length_map] at h
        exact h
      let mN : MC → OC := fun m => (m.2.2, kindE (kfN e0.2.2) m.1)
      refine ⟨_, rfl, t, rfl, ⟨_, SqT.of h1'⟩, fun cl hcl => ?_⟩
      refine lc_tup (K := K) (a := t) (xs := ps.map fun p => .ref p.1) (fun i H' => Same G2 H' ∧ ∃ qs : List (Addr × OC), H' cl = some (.lst (qs.map fun c => .ref c.1)) ∧ PairsO H' qs ∧ qs.map (·.2) = ((ps.map (·.2)).take i).map mN) ⟨same_upd hcl, [], upd_same, fun x hx => absurd hx List.not_mem_nil, by simp⟩ (fun i H' _ h => SqT.of (h.1 _ _ h1')) ?_ ?_
      · rintro i x H' hx ⟨sm, qs, e, hpq, eq⟩
        rw [List.getElem?_map] at hx
        obtain ⟨p, hp', rfl⟩ := Option.map_eq_some_iff.mp hx
        have pm := List.mem_of_getElem? hp'
        obtain ⟨told, y1, y2⟩ := h2 p pm
        have tk : (ps.map (·.2)).take (i + 1) = (ps.map (·.2)).take i ++ [p.2] := by
          rw [List.take_add_one, List.getElem?_map, hp']
          rfl
        have lq : qs.length ≤ 100 := by
          have h := congrArg List.length eq
          rw [List.length_map, List.length_map, List.length_take, List.length_map] at h
          omega
        have st2 := s2.trans sm
        have ok := hdok.2 p.2 (List.mem_map.mpr ⟨p, pm, rfl⟩)
        refine ⟨p.1, _, rfl, SqT.of (st2 _ _ y1), rfl, _, _, rfl, _, _, rfl, rfl, rfl, _, rfl, _, rfl, _, rfl, told, k1, kfN e0.2.2, p.2.1, rfl, y2.keep (same_t st2), ok.1, ok.2, hK.keep sm, fun H2 s3 => ⟨z2, fun r hr' => ?_⟩⟩
        have e' := s3 _ _ e
        have e'' := same_upd (o := .tup [.str p.2.2.2, kV' (kindE (kfN e0.2.2) p.2.1)]) hr' _ _ e'
        refine ⟨_, e'', Nat.lt_of_le_of_lt (show _ ≤ 100 by rw [List.length_map]; exact lq) (by decide), fun x o' ex => ?_, qs ++ [(r, mN p.2)], by rw [upd_same, List.map_append]; rfl, pairsO_push (c := mN p.2) (H := H2) (l := qs.map fun c => .ref c.1) e' (fun x hx => s3 _ _ (hpq x hx)) hr', ?_⟩
        · rw [upd_ne (ne_of_none ex hcl)]
          exact same_upd hr' _ _ (s3 _ _ (sm _ _ ex))
        · rw [tk, List.map_append, List.map_append, eq]
          rfl
      rintro H8 ⟨s8, qs, ecl, hpq, eq⟩
      rw [List.length_map, List.take_of_length_le (by rw [List.length_map]; exact Nat.le_refl _)] at eq
      have lq : qs.length ≤ 100 := by
        have h := congrArg List.length eq
        rw [List.length_map, List.length_map, List.length_map] at h
        omega
      refine ⟨_, _, _, _, _, _, _, _, rfl, s2.trans s8, .inr ⟨cl, qs, rfl, ecl, hpq, by omega, ?_⟩⟩
      show (if _ then _ else _) = _
      unfold closeO
      rw [eq]
      simp only [List.all_map, List.map_map]
      rfl
    | fold ks fs =>
      obtain ⟨e0, rfl⟩ := i1 hle
      obtain ⟨as, tf, hp, ec⟩ := id (hcf' e0 List.mem_cons_self).1
      have gc := (hcf' e0 List.mem_cons_self).2
      have x3 := x3'
      obtain ⟨t, kt, ft, ps, rfl, h1, h2, h3, h4, h5⟩ := x3'
      refine ⟨_, rfl, rfl, _, rfl, iteF ⟨_, rfl, rfl, _, rfl, iteF ⟨_, rfl, rfl, _, rfl, iteT ?_⟩⟩⟩
      refine ⟨_, rfl, _, rfl, _, rfl, inp, _, 0, _, rfl, rfl, SqT.of x2', rfl, kn, _, rfl, gt (Same.refl _) List.mem_cons_self, e0.2.1, as.map (·.1), as.map fun c => (c.2.1, V.str (kW c.2.2)), rfl, by rw [List.map_map]; exact tf, paired_cols hp, fun k1 hk1 => ?_⟩
      have s2 := same_upd (o := .dK (mergeK [] ((as.map fun c => (c.2.1, V.str (kW c.2.2))).map fun kv => ((.inr kv.1 : L2.Key), kv.2)))) hk1
      have hK := kd_new (H := G) (kd := k1) ec gc.nod
      generalize upd G k1 (.dK (mergeK [] ((as.map fun c => (c.2.1, V.str (kW c.2.2))).map fun kv => ((.inr kv.1 : L2.Key), kv.2)))) = G2 at s2 hK ⊢
      let kf := kfN e0.2.2
      refine ⟨t, k1, ks, fs, kf, rfl, x3.keep (same_t s2) (same_f s2), hK, hdok, hcount ks fs rfl, fun hall f qs H' sm ef hpq eq => ?_, fun hall H' sm => ?_⟩
      · have lq : qs.length ≤ 200 := by
          have h := congrArg List.length eq
          have l1 : ks.length ≤ 100 := hdok.1
          have l2 : fs.length ≤ 100 := hdok.2.1
          rw [List.length_map, List.length_append, List.length_map, List.length_map] at h
          omega
        refine ⟨_, _, _, _, _, _, _, _, rfl, s2.trans sm, .inr ⟨f, qs, rfl, ef, hpq, by omega, ?_⟩⟩
        show (if _ then _ else _) = _
        unfold closeO
        rw [eq, List.all_append, List.all_map, List.all_map, List.map_append, List.map_map, List.map_map]
        rfl
      · refine ⟨_, _, _, _, _, _, _, _, rfl, s2.trans sm, .inl ⟨rfl, ?_⟩⟩
        show (if _ then _ else _) = _
        refine if_neg ?_
        rw [show (fs.all fun m => (foldK (kfN ([e0].map (·.2.2) |>.getD 0 [])) m).isSome) = false from hall, Bool.and_false]
        exact Bool.false_ne_true
    | join ks =>
      obtain ⟨e0, e1, rfl⟩ := i2 hle
      obtain ⟨hc0, gc0⟩ := hcf' e0 List.mem_cons_self
      obtain ⟨hc1, gc1⟩ := hcf' e1 (List.mem_cons_of_mem _ List.mem_cons_self)
      obtain ⟨t, rfl, h1⟩ := x3'
      refine ⟨_, rfl, rfl, _, rfl, iteF ⟨_, rfl, rfl, _, rfl, iteF ⟨_, rfl, rfl, _, rfl, iteF ⟨_, rfl, rfl, _, rfl, iteT ?_⟩⟩⟩⟩
      refine ⟨_, rfl, _, rfl, _, rfl, inp, _, 0, _, rfl, rfl, SqT.of x2', rfl, kn, _, rfl, gt (Same.refl _) List.mem_cons_self, _, rfl, _, rfl, inp, _, 1, _, rfl, rfl, SqT.of x2', rfl, kn, _, rfl, gt (Same.refl _) (List.mem_cons_of_mem _ List.mem_cons_self), t, e0.2.1, e1.2.1, ks, e0.2.2, e1.2.2, rfl, h1, hc0, hc1, gc0, gc1, hdok, fun hj f qs H' sm ef hpq eq => ?_, fun hj H' sm => ?_⟩
      · have lq : qs.length ≤ 300 := by
          have h := congrArg List.length eq
          have l1 : ks.length ≤ 100 := hdok
          have l2 := gc0.few
          have l3 := gc1.few
          have l4 := List.length_filter_le (fun x : NC => decide (x.1 ∉ ks.map (·.1))) e0.2.2
          have l5 := List.length_filter_le (fun x : NC => decide (x.1 ∉ ks.map (·.1))) e1.2.2
          rw [List.length_map, List.length_append, List.length_map, List.length_map, List.length_append] at h
          omega
        refine ⟨_, _, _, _, _, _, _, _, rfl, sm, .inr ⟨f, qs, rfl, ef, hpq, lq, ?_⟩⟩
        show (if joinOk e0.2.2 e1.2.2 ks = true then ndC _ else none) = _
        rw [if_pos hj]
        unfold closeO
        rw [eq, if_pos, List.map_append (l₁ := ks.map _), List.map_map, List.map_map]
        · congr 2
          exact (List.map_id _).symm
        · rw [List.all_append, List.all_map, List.all_map, Bool.and_eq_true_iff]
          refine ⟨List.all_eq_true.mpr fun k hk => ?_, List.all_eq_true.mpr fun k hk => rfl⟩
          exact (Bool.and_eq_true_iff.mp (List.all_eq_true.mp hj k hk)).1
      · refine ⟨_, _, _, _, _, _, _, _, rfl, sm, .inl ⟨rfl, ?_⟩⟩
        show (if joinOk e0.2.2 e1.2.2 ks = true then _ else _) = _
        exact if_neg (by rw [hj]; exact Bool.false_ne_true)
    | filter e =>
      obtain ⟨e0, rfl⟩ := i1 hle
      obtain ⟨as, tf, hp, ec⟩ := id (hcf' e0 List.mem_cons_self).1
      have gc := (hcf' e0 List.mem_cons_self).2
      have l1 : as.length ≤ 100 := by
        have h := gc.few
        rw [← ec, List.length_map] at h
        exact h
      refine ⟨_, rfl, rfl, _, rfl, iteF ⟨_, rfl, rfl, _, rfl, iteF ⟨_, rfl, rfl, _, rfl, iteF ⟨_, rfl, rfl, _, rfl, iteF ?_⟩⟩⟩⟩
      refine ⟨_, rfl, _, rfl, inp, _, 0, _, rfl, rfl, SqT.of x2', rfl, kn, _, rfl, gt (Same.refl _) List.mem_cons_self, e0.2.1, _, rfl, .inr tf.sq, fun l hl => ?_⟩
      have s1 := same_upd (o := .lst (as.map fun c => .ref c.1)) hl
      have el : upd G l (.lst (as.map fun c => .ref c.1)) l = some (.lst (as.map fun c => .ref c.1)) := upd_same
      generalize upd G l (.lst (as.map fun c => .ref c.1)) = G1 at s1 el ⊢
      have hp1 : PairsAt G1 as := fun x hx => s1 _ _ (hp x hx)
      refine ⟨_, rfl, l, as.map (·.1), as.map (fun c => ((.inr c.2.1 : L2.Key), V.str (kW c.2.2))), rfl, SqL.of (by rw [List.map_map]; exact el), pairedK hp1, fun k1 hk1 => ?_⟩
      have s2 := same_upd (o := .dK (mergeK [] (as.map fun c => ((.inr c.2.1 : L2.Key), V.str (kW c.2.2))))) hk1
      have hK : KdAt (upd G1 k1 (.dK (mergeK [] (as.map fun c => ((.inr c.2.1 : L2.Key), V.str (kW c.2.2)))))) k1 (kfN e0.2.2) := by
        have h := kd_new (H := G1) (kd := k1) ec gc.nod
        rw [List.map_map] at h
        exact h
      generalize upd G1 k1 (.dK (mergeK [] (as.map fun c => ((.inr c.2.1 : L2.Key), V.str (kW c.2.2))))) = G2 at s2 hK ⊢
      have s12 := s1.trans s2
      have fin : ∀ {y6 y9 y10 y11 y12 y13 : Option V} {G3 : Hp} {R : Option (List NC)}, Same G2 G3 → R = some e0.2.2 → MidC st kn inp s.name (Det.filter e).what dv R G [some (.ref st), some (.ref kn), some (.str s.name), some (.str (Det.filter e).what), some (.ref inp), some dv, y6, some (.ref l), some (.ref k1), y9, y10, y11, y12, y13] G3 := fun s3 hR => MidC.cols (s12.trans s3) (s3 _ _ (s2 _ _ el)) (fun x hx => s3 _ _ (s2 _ _ (hp1 x hx))) (by omega) (by rw [ec, ndC_good gc.nod]; exact hR)
      refine ⟨_, rfl, rfl, _, rfl, iteT ?_⟩
      refine ⟨_, rfl, _, rfl, dv, k1, kfN e0.2.2, e, rfl, ExAt.keep (same_t s12) x3', hdok.1, hdok.2, hK, fun H' sm => ?_⟩
      have sA := sG.trans (s12.trans sm)
      have eC : colsD ([e0].map (·.2.2)) (.filter e) = if kindE (kfN e0.2.2) e = some true then some e0.2.2 else none := rfl
      cases hk : kindE (kfN e0.2.2) e with
      | none => exact ⟨rfl, _, rfl, iteT (iteT (qn (by rw [eC, hk]; rfl) _ sA))⟩
      | some b =>
        cases b with
        | false => exact ⟨rfl, _, rfl, iteT (iteT (qn (by rw [eC, hk]; rfl) _ sA))⟩
        | true =>
          refine ⟨rfl, _, rfl, iteF ?_⟩
          refine ⟨_, rfl, rfl, _, rfl, iteF (iteF ?_)⟩
          refine ⟨_, rfl, rfl, _, rfl, iteF ?_⟩
          exact fin sm (by rw [eC, hk]; rfl)
    | union =>
      obtain ⟨t, rfl, h1⟩ := x3'
      obtain ⟨e0, e1, rfl⟩ := i2 hle
      obtain ⟨as, tf, hp, ec⟩ := id (hcf' e0 List.mem_cons_self).1
      have gc := (hcf' e0 List.mem_cons_self).2
      have l1 : as.length ≤ 100 := by
        have h := gc.few
        rw [← ec, List.length_map] at h
        exact h
      refine ⟨_, rfl, rfl, _, rfl, iteF ⟨_, rfl, rfl, _, rfl, iteF ⟨_, rfl, rfl, _, rfl, iteF ⟨_, rfl, rfl, _, rfl, iteF ?_⟩⟩⟩⟩
      refine ⟨_, rfl, _, rfl, inp, _, 0, _, rfl, rfl, SqT.of x2', rfl, kn, _, rfl, gt (Same.refl _) List.mem_cons_self, e0.2.1, _, rfl, .inr tf.sq, fun l hl => ?_⟩
      have s1 := same_upd (o := .lst (as.map fun c => .ref c.1)) hl
      have el : upd G l (.lst (as.map fun c => .ref c.1)) l = some (.lst (as.map fun c => .ref c.1)) := upd_same
      generalize upd G l (.lst (as.map fun c => .ref c.1)) = G1 at s1 el ⊢
      have hp1 : PairsAt G1 as := fun x hx => s1 _ _ (hp x hx)
      refine ⟨_, rfl, l, as.map (·.1), as.map (fun c => ((.inr c.2.1 : L2.Key), V.str (kW c.2.2))), rfl, SqL.of (by rw [List.map_map]; exact el), pairedK hp1, fun k1 hk1 => ?_⟩
      have s2 := same_upd (o := .dK (mergeK [] (as.map fun c => ((.inr c.2.1 : L2.Key), V.str (kW c.2.2))))) hk1
      have hK : KdAt (upd G1 k1 (.dK (mergeK [] (as.map fun c => ((.inr c.2.1 : L2.Key), V.str (kW c.2.2)))))) k1 (kfN e0.2.2) := by
        have h := kd_new (H := G1) (kd := k1) ec gc.nod
        rw [List.map_map] at h
        exact h
      generalize upd G1 k1 (.dK (mergeK [] (as.map fun c => ((.inr c.2.1 : L2.Key), V.str (kW c.2.2))))) = G2 at s2 hK ⊢
      have s12 := s1.trans s2
      have fin : ∀ {y6 y9 y10 y11 y12 y13 : Option V} {G3 : Hp} {R : Option (List NC)}, Same G2 G3 → R = some e0.2.2 → MidC st kn inp s.name Det.union.what (.ref t) R G [some (.ref st), some (.ref kn), some (.str s.name), some (.str Det.union.what), some (.ref inp), some (.ref t), y6, some (.ref l), some (.ref k1), y9, y10, y11, y12, y13] G3 := fun s3 hR => MidC.cols (s12.trans s3) (s3 _ _ (s2 _ _ el)) (fun x hx => s3 _ _ (s2 _ _ (hp1 x hx))) (by omega) (by rw [ec, ndC_good gc.nod]; exact hR)
      refine ⟨_, rfl, rfl, _, rfl, iteF ?_⟩
      refine ⟨_, rfl, rfl, _, rfl, iteT ?_⟩
      obtain ⟨bs, tf2, hp2, ec2⟩ := id (hcf' e1 (List.mem_cons_of_mem _ List.mem_cons_self)).1
      have gc2 := (hcf' e1 (List.mem_cons_of_mem _ List.mem_cons_self)).2
      refine ⟨_, rfl, _, rfl, inp, _, 1, _, rfl, rfl, SqT.of (s12 _ _ x2'), rfl, kn, _, rfl, gt s12 (List.mem_cons_of_mem _ List.mem_cons_self), e1.2.1, _, rfl, .inr (same_f s12 _ _ tf2).sq, fun l2 hl2 => ?_⟩
      have s3 := same_upd (o := .lst (bs.map fun c => .ref c.1)) hl2
      have el2 : upd G2 l2 (.lst (bs.map fun c => .ref c.1)) l2 = some (.lst (bs.map fun c => .ref c.1)) := upd_same
      generalize upd G2 l2 (.lst (bs.map fun c => .ref c.1)) = G3 at s3 el2 ⊢
      have hpb : PairsAt G3 bs := fun x hx => s3 _ _ (s12 _ _ (hp2 x hx))
      have hpa : PairsAt G3 as := fun x hx => s3 _ _ (s2 _ _ (hp1 x hx))
      refine ⟨_, rfl, _, _, cols_dp el2 hpb, cols_dp (s3 _ _ (s2 _ _ el)) hpa, colsD_sh (by rw [ec2]; exact gc2.lay), colsD_sh (by rw [ec]; exact gc.lay), _, rfl, ?_⟩
      rw [colsD_eqv, ec, ec2]
      have sA := sG.trans (s12.trans s3)
      have eC : colsD ([e0, e1].map (·.2.2)) .union = if e0.2.2 = e1.2.2 then some e0.2.2 else none := rfl
      by_cases hq : e1.2.2 = e0.2.2
      · rw [decide_eq_true hq]
        refine iteF ?_
        refine ⟨_, rfl, rfl, _, rfl, iteF ?_⟩
        exact fin s3 (by rw [eC, if_pos hq.symm])
      · rw [decide_eq_false hq]
        exact iteT (qn (by rw [eC, if_neg (fun z => hq z.symm)]) _ sA)
    | unlike =>
      obtain ⟨t, rfl, h1⟩ := x3'
      obtain ⟨e0, rfl⟩ := i1 hle
      obtain ⟨as, tf, hp, ec⟩ := id (hcf' e0 List.mem_cons_self).1
      have gc := (hcf' e0 List.mem_cons_self).2
      have l1 : as.length ≤ 100 := by
        have h := gc.few
        rw [← ec, List.length_map] at h
        exact h
      refine ⟨_, rfl, rfl, _, rfl, iteF ⟨_, rfl, rfl, _, rfl, iteF ⟨_, rfl, rfl, _, rfl, iteF ⟨_, rfl, rfl, _, rfl, iteF ?_⟩⟩⟩⟩
      refine ⟨_, rfl, _, rfl, inp, _, 0, _, rfl, rfl, SqT.of x2', rfl, kn, _, rfl, gt (Same.refl _) List.mem_cons_self, e0.2.1, _, rfl, .inr tf.sq, fun l hl => ?_⟩
      have s1 := same_upd (o := .lst (as.map fun c => .ref c.1)) hl
      have el : upd G l (.lst (as.map fun c => .ref c.1)) l = some (.lst (as.map fun c => .ref c.1)) := upd_same
      generalize upd G l (.lst (as.map fun c => .ref c.1)) = G1 at s1 el ⊢
      have hp1 : PairsAt G1 as := fun x hx => s1 _ _ (hp x hx)
      refine ⟨_, rfl, l, as.map (·.1), as.map (fun c => ((.inr c.2.1 : L2.Key), V.str (kW c.2.2))), rfl, SqL.of (by rw [List.map_map]; exact el), pairedK hp1, fun k1 hk1 => ?_⟩
      have s2 := same_upd (o := .dK (mergeK [] (as.map fun c => ((.inr c.2.1 : L2.Key), V.str (kW c.2.2))))) hk1
      have hK : KdAt (upd G1 k1 (.dK (mergeK [] (as.map fun c => ((.inr c.2.1 : L2.Key), V.str (kW c.2.2)))))) k1 (kfN e0.2.2) := by
        have h := kd_new (H := G1) (kd := k1) ec gc.nod
        rw [List.map_map] at h
        exact h
      generalize upd G1 k1 (.dK (mergeK [] (as.map fun c => ((.inr c.2.1 : L2.Key), V.str (kW c.2.2))))) = G2 at s2 hK ⊢
      have s12 := s1.trans s2
      have fin : ∀ {y6 y9 y10 y11 y12 y13 : Option V} {G3 : Hp} {R : Option (List NC)}, Same G2 G3 → R = some e0.2.2 → MidC st kn inp s.name Det.unlike.what (.ref t) R G [some (.ref st), some (.ref kn), some (.str s.name), some (.str Det.unlike.what), some (.ref inp), some (.ref t), y6, some (.ref l), some (.ref k1), y9, y10, y11, y12, y13] G3 := fun s3 hR => MidC.cols (s12.trans s3) (s3 _ _ (s2 _ _ el)) (fun x hx => s3 _ _ (s2 _ _ (hp1 x hx))) (by omega) (by rw [ec, ndC_good gc.nod]; exact hR)
      refine ⟨_, rfl, rfl, _, rfl, iteF ?_⟩
      refine ⟨_, rfl, rfl, _, rfl, iteF (iteF ?_)⟩
      refine ⟨_, rfl, rfl, _, rfl, iteF ?_⟩
      exact fin (Same.refl _) rfl
    | sort ws m =>
      obtain ⟨t, wt, ps, rfl, h1, h2, h3, h4⟩ := x3'
      obtain ⟨e0, rfl⟩ := i1 hle
      obtain ⟨as, tf, hp, ec⟩ := id (hcf' e0 List.mem_cons_self).1
      have gc := (hcf' e0 List.mem_cons_self).2
      have l1 : as.length ≤ 100 := by
        have h := gc.few
        rw [← ec, List.length_map] at h
        exact h
      refine ⟨_, rfl, rfl, _, rfl, iteF ⟨_, rfl, rfl, _, rfl, iteF ⟨_, rfl, rfl, _, rfl, iteF ⟨_, rfl, rfl, _, rfl, iteF ?_⟩⟩⟩⟩
      refine ⟨_, rfl, _, rfl, inp, _, 0, _, rfl, rfl, SqT.of x2', rfl, kn, _, rfl, gt (Same.refl _) List.mem_cons_self, e0.2.1, _, rfl, .inr tf.sq, fun l hl => ?_⟩
      have s1 := same_upd (o := .lst (as.map fun c => .ref c.1)) hl
      have el : upd G l (.lst (as.map fun c => .ref c.1)) l = some (.lst (as.map fun c => .ref c.1)) := upd_same
      generalize upd G l (.lst (as.map fun c => .ref c.1)) = G1 at s1 el ⊢
      have hp1 : PairsAt G1 as := fun x hx => s1 _ _ (hp x hx)
      refine ⟨_, rfl, l, as.map (·.1), as.map (fun c => ((.inr c.2.1 : L2.Key), V.str (kW c.2.2))), rfl, SqL.of (by rw [List.map_map]; exact el), pairedK hp1, fun k1 hk1 => ?_⟩
      have s2 := same_upd (o := .dK (mergeK [] (as.map fun c => ((.inr c.2.1 : L2.Key), V.str (kW c.2.2))))) hk1
      have hK : KdAt (upd G1 k1 (.dK (mergeK [] (as.map fun c => ((.inr c.2.1 : L2.Key), V.str (kW c.2.2)))))) k1 (kfN e0.2.2) := by
        have h := kd_new (H := G1) (kd := k1) ec gc.nod
        rw [List.map_map] at h
        exact h
      generalize upd G1 k1 (.dK (mergeK [] (as.map fun c => ((.inr c.2.1 : L2.Key), V.str (kW c.2.2))))) = G2 at s2 hK ⊢
      have s12 := s1.trans s2
      have fin : ∀ {y6 y9 y10 y11 y12 y13 : Option V} {G3 : Hp} {R : Option (List NC)}, Same G2 G3 → R = some e0.2.2 → MidC st kn inp s.name (Det.sort ws m).what (.ref t) R G [some (.ref st), some (.ref kn), some (.str s.name), some (.str (Det.sort ws m).what), some (.ref inp), some (.ref t), y6, some (.ref l), some (.ref k1), y9, y10, y11, y12, y13] G3 := fun s3 hR => MidC.cols (s12.trans s3) (s3 _ _ (s2 _ _ el)) (fun x hx => s3 _ _ (s2 _ _ (hp1 x hx))) (by omega) (by rw [ec, ndC_good gc.nod]; exact hR)
      refine ⟨_, rfl, rfl, _, rfl, iteF ?_⟩
      refine ⟨_, rfl, rfl, _, rfl, iteF (iteF ?_)⟩
      refine ⟨_, rfl, rfl, _, rfl, iteT ?_⟩
      have h1' := s12 _ _ h1
      have h2' := s12 _ _ h2
      obtain ⟨kvs, ek, gk⟩ := id hK
      have lw : ps.length ≤ 100 := by
        have h : ws.length ≤ 100 := hdok
        rw [← h4, List.length_map] at h
        exact h
      let wB : Str × Str → Bool := fun x => (kfN e0.2.2 x.1).isSome
      refine ⟨_, rfl, t, _, 0, _, rfl, rfl, SqT.of h1', rfl, wt, rfl, ⟨_, SqT.of h2'⟩, fun D hD => ?_⟩
      refine lc_tup (K := K) (a := wt) (xs := ps.map fun p => .ref p.1) (fun i G3 => Same G2 G3 ∧ G3 D = some (.lst ((((ps.map (·.2)).take i).map wB).map V.bl))) ⟨same_upd hD, upd_same⟩ (fun i G3 _ h => SqT.of (h.1 _ _ h2')) ?_ ?_
      · rintro i x G3 hx ⟨sm, e1⟩
        rw [List.getElem?_map] at hx
        obtain ⟨p, hp', rfl⟩ := Option.map_eq_some_iff.mp hx
        have ep := s12 _ _ (h3 p (List.mem_of_getElem? hp'))
        have tk : (ps.map (·.2)).take (i + 1) = (ps.map (·.2)).take i ++ [p.2] := by
          rw [List.take_add_one, List.getElem?_map, hp']
          rfl
        refine ⟨p.1, _, rfl, SqT.of (sm _ _ ep), rfl, _, _, rfl, _, _, rfl, rfl, rfl, _, rfl, _, rfl, k1, _, rfl, DGet.k (k := .inr p.2.1) (sm _ _ ek), _, e1, Nat.lt_of_le_of_lt (show _ ≤ 100 by rw [List.length_map, List.length_map, List.length_take, List.length_map]; omega) (by decide), fun b' o' ex => ?_, ?_⟩
        · rw [upd_ne (ne_of_none ex hD)]
          exact sm _ _ ex
        · have ev : (valV kvs (.inr p.2.1)).isSome = wB p.2 := by
            rw [gk, Option.isSome_map]
          rw [tk, List.map_append, List.map_append, ev]
          exact upd_same
      rintro G3 ⟨s3, eD⟩
      rw [List.length_map, List.take_of_length_le (by rw [List.length_map]; exact Nat.le_refl _)] at eD
      refine ⟨D, (ps.map (·.2)).map wB, rfl, SqL.of eD, _, rfl, ?_⟩
      have eall : ((ps.map (·.2)).map wB).all id = ws.all wB := by
        rw [List.all_map, h4]
        rfl
      rw [eall]
      have eC : colsD ([e0].map (·.2.2)) (.sort ws m) = if ws.all wB = true then some e0.2.2 else none := rfl
      cases hal : ws.all wB with
      | false => exact iteT (qn (by rw [eC, hal]; rfl) _ (sG.trans (s12.trans s3)))
      | true => exact iteF (fin s3 (by rw [eC, hal]; rfl))
  · rintro σ G' ⟨y6, y8, y9, y10, y11, y12, y13, y7, rfl, sg, h⟩
    rcases h with ⟨rfl, hn⟩ | ⟨fa, qs, rfl, ef, hp, hl, hc⟩
    · exact ⟨_, rfl, rfl, _, rfl, iteT (iteT (qn hn _ (sG.trans sg)))⟩
    have s300 : ∀ {n : Nat}, n ≤ 300 → n < sizeLine := fun h => Nat.lt_of_le_of_lt h (by decide)
    refine ⟨_, rfl, rfl, _, rfl, iteF ?_⟩
    refine ⟨_, rfl, fa, rfl, ⟨_, SqL.of ef⟩, fun D hD => ?_⟩
    let kB : OC → Bool := fun c => c.2.isSome
    refine lc_list (K := K) (a := fa) (xs := qs.map fun c => .ref c.1) (fun i G2 => Same G' G2 ∧ G2 D = some (.lst ((((qs.map (·.2)).take i).map kB).map V.bl))) ⟨same_upd hD, upd_same⟩ (fun i G2 _ h => SqL.of (h.1 _ _ ef)) ?_ ?_
    · rintro i x G2 hx ⟨sm, e1⟩
      rw [List.getElem?_map] at hx
      obtain ⟨c, hc', rfl⟩ := Option.map_eq_some_iff.mp hx
      have ec := hp c (List.mem_of_getElem? hc')
      have tk : (qs.map (·.2)).take (i + 1) = (qs.map (·.2)).take i ++ [c.2] := by
        rw [List.take_add_one, List.getElem?_map, hc']
        rfl
      refine ⟨c.1, _, rfl, SqT.of (sm _ _ ec), rfl, _, _, rfl, _, _, rfl, rfl, rfl, _, rfl, rfl, _, e1, s300 (by rw [List.length_map, List.length_map, List.length_take, List.length_map]; omega), fun b' o' ex => ?_, ?_⟩
      · rw [upd_ne (ne_of_none ex hD)]
        exact sm _ _ ex
      · have eb : (!decide (kV' c.2.2 = V.non)) = kB c.2 := by
          show (!decide (kV' c.2.2 = V.non)) = c.2.2.isSome
          cases c.2.2 <;> rfl
        rw [tk, List.map_append, List.map_append, eb]
        exact upd_same
    rintro G2 ⟨s2, eD⟩
    rw [List.length_map, List.take_of_length_le (by rw [List.length_map]; exact Nat.le_refl _)] at eD
    refine ⟨D, (qs.map (·.2)).map kB, rfl, SqL.of eD, _, rfl, ?_⟩
    have eall : ((qs.map (·.2)).map kB).all id = (qs.map (·.2)).all fun c => c.2.isSome := by
      rw [List.all_map]
      rfl
    rw [eall]
    cases hal : (qs.map (·.2)).all fun c => c.2.isSome with
    | false => exact iteT (qn (hc.trans (if_neg (by rw [hal]; exact Bool.false_ne_true))) _ ((sG.trans sg).trans s2))
    | true =>
    refine iteF ?_
    have hc2 : colsD (es.map (·.2.2)) s.det = ndC (qs.map fun c => (c.2.1, c.2.2.getD true)) := by
      rw [hc]
      unfold closeO
      rw [if_pos hal, List.map_map]
      rfl
    have enames : (qs.map fun c => ((c.2.1, c.2.2.getD true) : NC)).map (·.1) = qs.map fun c => c.2.1 := by
      rw [List.map_map]
      rfl
    replace ef := s2 _ _ ef
    replace hp : PairsO G2 qs := fun x hx => s2 _ _ (hp x hx)
    replace sG := (sG.trans sg).trans s2
    refine ⟨_, rfl, fa, rfl, ⟨_, SqL.of ef⟩, fun D1 hD1 => ?_⟩
    refine lc_list (K := K) (a := fa) (xs := qs.map fun c => .ref c.1) (fun i H' => Same G2 H' ∧ H' D1 = some (.lst (((qs.map fun c => c.2.1).take i).map V.str))) ⟨same_upd hD1, upd_same⟩ (fun i H' _ h => SqL.of (h.1 _ _ ef)) ?_ ?_
    · rintro i x H' hx ⟨sm, e⟩
      rw [List.getElem?_map] at hx
      obtain ⟨p, hp', rfl⟩ := Option.map_eq_some_iff.mp hx
      have eu := hp p (List.mem_of_getElem? hp')
      refine ⟨p.1, _, rfl, SqT.of (sm _ _ eu), rfl, _, _, rfl, _, _, rfl, rfl, rfl, _, rfl, _, e, ?_, fun b o' e' => ?_, ?_⟩
      · rw [List.length_map, List.length_take, List.length_map]
        exact s300 (by omega)
      · rw [upd_ne (ne_of_none e' hD1)]
        exact sm _ _ e'
      · have h1 : (qs.map fun c => c.2.1).take (i + 1) = (qs.map fun c => c.2.1).take i ++ [p.2.1] := by
          rw [List.take_add_one, List.getElem?_map, hp']
          rfl
        rw [h1, List.map_append]
        exact upd_same
    rintro H1 ⟨s3, e1⟩
    rw [List.length_map, List.take_of_length_le (by rw [List.length_map]; exact Nat.le_refl _)] at e1
    have ek : ((qs.map fun c => c.2.1).map (fun x => (Sum.inr x : L2.Key))).map kV = (qs.map fun c => c.2.1).map V.str := by
      rw [List.map_map]
      rfl
    refine ⟨D1, (qs.map fun c => c.2.1).map (fun x => (Sum.inr x : L2.Key)), rfl, .inl (SqL.of (by rw [ek]; exact e1)), (by rw [List.length_map, List.length_map]; omega), fun p M nM mM hpp => ?_⟩
    have s4 := same_upd (o := Yk.SetKO P w p M) hpp
    have iff : M.length = (qs.map fun c => c.2.1).length ↔ (qs.map fun c => c.2.1).Nodup := by
      constructor
      · intro e
        exact nodup_strs (len_nodup nM mM (by rw [List.length_map]; omega))
      · intro hn
        have hn' : ((qs.map fun c => c.2.1).map (fun x => (Sum.inr x : L2.Key))).Nodup := List.pairwise_map.mpr (hn.imp fun ne e => ne (Sum.inr.inj e))
        have h1 := nodup_len nM fun z hz => (mM z).mp hz
        have h2 := nodup_len hn' fun z hz => (mM z).mpr hz
        rw [List.length_map] at h1 h2
        omega
    have e2 := s4 _ _ (s3 _ _ ef)
    refine ⟨p, M, rfl, upd_same, _, rfl, fa, _, rfl, .inl (SqL.of e2), rfl, _, rfl, ite2 (fun c => ?_) (fun c => ?_)⟩
    · have hy : (qs.map fun c => c.2.1).Nodup := iff.mp (by
        have h := of_decide_eq_true c
        injection h with h
        rw [List.length_map] at h ⊢
        omega)
      refine ⟨_, rfl, fa, _, rfl, .inl ⟨SqL.of e2, fun l o hl ho => ?_⟩⟩
      have s5 := same_upd (o := .frz o (.tup (qs.map fun c => V.ref c.1))) hl
      refine q _ (hc2.trans (if_pos (by rw [enames]; exact hy))) l _ (((sG.trans s3).trans s4).trans s5) ⟨qs.map fun c => (c.1, c.2.1, c.2.2.getD true), ⟨o, ho, ?_⟩, fun x hx => ?_, ?_⟩
      · rw [upd_same, List.map_map]
        rfl
      · obtain ⟨y, hy', rfl⟩ := List.mem_map.mp hx
        have h := s5 _ _ (s4 _ _ (s3 _ _ (hp y hy')))
        have hs := List.all_eq_true.mp hal y.2 (List.mem_map.mpr ⟨y, hy', rfl⟩)
        rw [h]
        obtain ⟨a1, n1, k1⟩ := y
        cases k1 with
        | none => cases hs
        | some k1 => rfl
      · rw [List.map_map]
        rfl
    · have hn : ¬ (qs.map fun c => c.2.1).Nodup := fun z => by
        have h1 := iff.mpr z
        have h2 : ((qs.map fun c => V.ref c.1).length : Nat) = M.length := by rw [List.length_map, h1, List.length_map]
        apply c
        rw [h2]
        exact decide_eq_true rfl
      exact qn (hc2.trans (if_neg (by rw [enames]; exact hn))) _ ((sG.trans s3).trans s4)
end
end Kx

set_option maxHeartbeats 8000000
namespace Kx
open PySem PySem.Spec PyProof.Rows L2
abbrev s_law_due : Stmt := topS 42
theorem stepC_named {tg : Tg} (hN : ∀ e ∈ tg, NamedC e.2.2) (hnd : (tg.map (·.1)).Nodup) {s : Stp} (ok : StpOk s) {cs : List NC} (h : stepC (absT tg) s = some cs) : NamedC cs := by
  unfold stepC at h
  split at h
  · cases h
  · split at h
    · cases h
    · rename_i hn
      refine cols_named (fun c hc => ?_) ok.2.1 (by rw [List.length_map]; exact ok.2.2) h
      obtain ⟨x, hx, rfl⟩ := List.mem_map.mp hc
      have hx' : x ∈ (absT tg).map (·.1) := Classical.byContradiction fun z => hn ⟨x, hx, z⟩
      obtain ⟨e, he, rfl⟩ := List.mem_map.mp hx'
      obtain ⟨e', he', rfl⟩ := List.mem_map.mp he
      show NamedC (known (absT tg) e'.1)
      rw [known_in hnd he']
      exact hN e' he'
section
variable {P : Program} {w : World} {K : PySem.W.Frag} {mg : Str → Option Value} {base : Heap}
abbrev N_law_due : List Str := ["job", "known", "step", "found"]
/-- a job in the heap, its steps as data -/
def JobAt (H : Hp) (job : Addr) (as : List (Addr × Stp)) (answer : Str) : Prop := ∃ st : Addr, H job = some (.tup [.ref st, .str answer]) ∧ H st = some (.tup (as.map fun p => .ref p.1)) ∧ (∀ p ∈ as, StpAt H p.1 p.2 ∧ LawOk p.2) ∧ as.length ≤ 100
theorem JobAt.keep {H H' : Hp} {job : Addr} {as : List (Addr × Stp)} {an : Str} (h : KeepT H H') (hf : KeepF H H') : JobAt H job as an → JobAt H' job as an := fun ⟨st, h1, h2, h3, h4⟩ => ⟨st, h _ _ h1, h _ _ h2, fun p hp => ⟨(h3 p hp).1.keep h hf, (h3 p hp).2⟩, h4⟩
/-- the columns of a job's steps, or a name -/
def outJ (ss : List Stp) (an : Str) : Except Str (List (Str × List NC)) := match runC [] ss with
  | .error nm => .error nm
  | .ok kn => if an ∈ kn.map (·.1) then .ok kn else .error "answer"
def spDue : Sp := fun vs H Q _ => ∃ (job : Addr) (as : List (Addr × Stp)) (an : Str), vs = [.ref job] ∧ JobAt H job as an ∧
  (∀ kn, outJ (as.map (·.2)) an = .ok kn → ∀ (T : Addr) (tg : Tg) (H' : Hp), Same H H' → H' T = some (.dK (tg.map fun e => (.inr e.1, .ref e.2.1))) → absT tg = kn → (tg.map (·.1)).Nodup → (∀ e ∈ tg, CF H' e.2.1 e.2.2 ∧ NamedC e.2.2) → tg.length ≤ 100 → Q (.ref T) H') ∧
  ∀ nm, outJ (as.map (·.2)) an = .error nm → ∀ H', Same H H' → Q (.str nm) H'
theorem sc_ldue : FnScope N_law_due ["job"] (defScope s_law_due) := ⟨rfl, rfl, rfl, by decide +kernel, rfl, by decide +kernel, by decide +kernel⟩
theorem ok_ldue {f : Addr} {fd : FuncData} (F : Fun K "_law_due" "_law_due" s_law_due f fd) (G_law_columns : Ready P w K mg base 15 "_law_columns" ["step", "known"] spLCols) : FnOk P w K mg base CX0 16 f fd ["job"] spDue := by
  refine F.ok sc_ldue (fun vs H Q E h => ?_) (fun cdv A outer s H vs Q E hr h => ?_)
  · obtain ⟨job, as, an, rfl, _⟩ := h
    rfl
  obtain ⟨job, as, an, rfl, ⟨st, hj, hst, hs, la⟩, q, qe⟩ := h
  have nd := sc_ldue.nd
  have hr15 : Room 15 _ := hr
  have hu64 : _ + 64 < cLine := hr.units
  have hu1 : _ + 1 < cLine := Nat.lt_of_le_of_lt (Nat.add_le_add_left (by decide : 1 ≤ 64) _) hu64
  refine ⟨_, pss_cons (ps_set (i := 1) nd rfl (.inl rfl) pe_dnewK)
      (pss_cons (ps_for PassesOwn.never rfl (pi_tup (pe_ix ix_tup (pv 0) pe_int (fun _ _ => rfl))) (pg_name (i := 2) nd rfl (.inl rfl)) (pss_cons (ps_set (i := 3) nd rfl (.inl rfl) (pe_fn G_law_columns hr15 (pa_cons (pv 2) (pa_cons (pv 1) pa_nil))))
      (pss_cons (ps_if (pt_cmpR op_isN (pv 3) pe_non (nomark _)) (pss_one (ps_ret (pe_ix ix_tup (pv 2) pe_int (fun _ _ => rfl)))) (pss_nil))
      (pss_one (ps_dput hu1 (pv 1) (pe_ix ix_tup (pv 2) pe_int (fun _ _ => rfl)) (pv 3) rfl)))))
      (pss_one (ps_ret (pe_ifExp (pt_cmp (pc_din hu1 (pe_ix ix_tup (pv 0) pe_int (fun _ _ => rfl)) (pv 1)) rfl) (pv 1) pe_str)))), ?_⟩
  refine fun TT hTT => ?_
  have s1 := same_upd (o := .dK []) hTT
  have eT : upd H TT (.dK []) TT = some (.dK []) := upd_same
  generalize upd H TT (.dK []) = H1 at s1 eT ⊢
  have kT : ∀ {H' : Hp}, But TT H1 H' → KeepT H1 H' := fun b a xs e => b a _ (fun z => by rw [z, eT] at e; cases e) e
  have kF : ∀ {H' : Hp}, But TT H1 H' → KeepF H1 H' := fun b a xs ⟨o, dn, e⟩ => ⟨o, dn, b a _ (fun z => by rw [z, eT] at e; cases e) e⟩
  refine ⟨_, rfl, job, _, 0, _, rfl, rfl, SqT.of (s1 _ _ hj), rfl, st, rfl, ⟨_, SqT.of (s1 _ _ hst)⟩, ?_⟩
  refine for_tup (K := K) (a := st) (xs := as.map fun p => .ref p.1) (fun i σ H' => ∃ y2 y3 tg, σ = [some (.ref job), some (.ref TT), y2, y3] ∧ But TT H1 H' ∧ H' TT = some (.dK (tg.map fun e => (.inr e.1, .ref e.2.1))) ∧ runC [] ((as.map (·.2)).take i) = .ok (absT tg) ∧ (∀ e ∈ tg, CF H' e.2.1 e.2.2 ∧ NamedC e.2.2) ∧ (tg.map (·.1)).Nodup ∧ tg.length ≤ i)
    ⟨_, _, [], rfl, But.refl _ _, eT, rfl, fun e he => absurd he List.not_mem_nil, List.nodup_nil, Nat.le_refl _⟩ (fun i σ H' _ h => by
      obtain ⟨_, _, _, _, b, _⟩ := h
      exact SqT.of (kT b _ _ (s1 _ _ hst))) ?_ ?_
  · rintro i x σ H' hx ⟨y2, y3, tg, rfl, b, eT', hrun, hcf, hnd, hlen⟩
    rw [List.getElem?_map] at hx
    obtain ⟨⟨pa, s'⟩, hp', rfl⟩ := Option.map_eq_some_iff.mp hx
    have pm := List.mem_of_getElem? hp'
    have li : i < as.length := (List.getElem?_eq_some_iff.mp hp').1
    have hsi : (as.map (·.2))[i]? = some s' := by rw [List.getElem?_map, hp']; rfl
    obtain ⟨xat, slaw⟩ := hs _ pm
    have xat' := (xat.keep (same_t s1) (same_f s1)).keep (kT b) (kF b)
    dsimp only at xat' slaw
    have sm : Same H H' := fun a o e => b a o (ne_of_none e hTT) (s1 _ _ e)
    have names : (absT tg).map (·.1) = tg.map (·.1) := by
      unfold absT
      rw [List.map_map]
      rfl
    refine ⟨_, rfl, _, rfl, pa, TT, s', tg, rfl, xat', slaw, eT', hcf, hnd, fun cs hcs a H3 sm3 hCF => ?_, fun hn H3 sm3 => ?_⟩
    · obtain ⟨inp, dv, x1, x2, x3⟩ := xat'
      have hin : s'.name ∉ tg.map (·.1) := fun z => by
        unfold stepC at hcs
        rw [if_pos (by rw [names]; exact z)] at hcs
        cases hcs
      have eT3 := sm3 _ _ eT'
      refine ⟨_, rfl, rfl, _, rfl, iteF ?_⟩
      refine ⟨_, rfl, _, rfl, _, rfl, pa, _, 0, _, rfl, rfl, SqT.of (sm3 _ _ x1), rfl, TT, _, rfl, DPut.k (k := .inr s'.name) eT3 (Nat.lt_of_le_of_lt (show _ ≤ 100 by rw [List.length_map]; omega) (by decide)), ?_⟩
      have nT : ∀ {a : Addr} {xs : List V}, H3 a = some (.tup xs) → a ≠ TT := fun e z => by
        rw [z, eT3] at e
        cases e
      have kt3 : KeepT H3 (upd H3 TT (.dK (putK (tg.map fun e => ((.inr e.1 : L2.Key), V.ref e.2.1)) (.inr s'.name) (.ref a)))) := fun a' xs e => by
        rw [upd_ne (nT e)]
        exact e
      have kf3 : KeepF H3 (upd H3 TT (.dK (putK (tg.map fun e => ((.inr e.1 : L2.Key), V.ref e.2.1)) (.inr s'.name) (.ref a)))) := fun a' xs ⟨o, dn, e⟩ => ⟨o, dn, by
        rw [upd_ne (fun z => by rw [z, eT3] at e; cases e)]
        exact e⟩
      refine ⟨_, _, tg ++ [(s'.name, a, cs)], rfl, fun c o hc e => ?_, ?_, ?_, fun e he => ?_, ?_, ?_⟩
      · rw [upd_ne hc]
        exact sm3 _ _ (b c o hc e)
      · rw [upd_same, putK_new _ (val_out hin), List.map_append]
        rfl
      · rw [ok_at hsi hrun hcs]
        unfold absT
        rw [List.map_append]
        rfl
      · rcases List.mem_append.mp he with he | he
        · exact ⟨((hcf e he).1.keep (same_t sm3) (same_f sm3)).keep kt3 kf3, (hcf e he).2⟩
        · rw [List.mem_singleton.mp he]
          exact ⟨hCF.keep kt3 kf3, stepC_named (fun e he => (hcf e he).2) hnd slaw.1 hcs⟩
      · rw [List.map_append]
        exact List.nodup_append.mpr ⟨hnd, by simp, fun u hu v hv' e => hin (by
          have : v = s'.name := List.mem_singleton.mp hv'
          rw [← this, ← e]
          exact hu)⟩
      · rw [List.length_append]
        exact Nat.succ_le_succ hlen
    · obtain ⟨inp, dv, x1, x2, x3⟩ := xat'
      refine ⟨_, rfl, rfl, _, rfl, iteT ⟨_, rfl, pa, _, 0, _, rfl, rfl, SqT.of (sm3 _ _ x1), rfl, ?_⟩⟩
      exact qe _ (by
        unfold outJ
        rw [err_at hsi hrun hn]) _ (sm.trans sm3)
  · rintro σ H' ⟨y2, y3, tg, rfl, b, eT', hrun, hcf, hnd, hlen⟩
    rw [List.length_map, List.take_of_length_le (by rw [List.length_map]; exact Nat.le_refl _)] at hrun
    rw [List.length_map] at hlen
    have sm : Same H H' := fun a o e => b a o (ne_of_none e hTT) (s1 _ _ e)
    have names : (absT tg).map (·.1) = tg.map (·.1) := by
      unfold absT
      rw [List.map_map]
      rfl
    refine ⟨_, rfl, job, _, 1, _, rfl, rfl, SqT.of (sm _ _ hj), rfl, _, rfl, TT, _, rfl, DGet.k (k := .inr an) eT', _, rfl, ?_⟩
    rw [val_is hnd]
    by_cases hin : an ∈ tg.map (·.1)
    · refine ite2 (fun c => ⟨_, rfl, ?_⟩) (fun c => absurd (decide_eq_true hin) c)
      exact q _ (by
        unfold outJ
        rw [hrun]
        exact if_pos (by rw [names]; exact hin)) TT tg H' sm eT' rfl hnd hcf (by omega)
    · refine ite2 (fun c => absurd (of_decide_eq_true c) hin) (fun c => ?_)
      exact qe _ (by
        unfold outJ
        rw [hrun]
        exact if_neg (by rw [names]; exact hin)) _ sm
end
end Kx

namespace Kx
open PySem PySem.Spec PyProof.Rows L2
/-! ### try: .. except C as n: .. else: .., every error of the body being C's -/
/-- behind the suite the name is gone -/
def bare (D : Ends) (i : Nat) : Ends := { nx := fun τ G => D.nx (τ.set i none) G, rt := D.rt, bk := fun τ G => D.bk (τ.set i none) G, ct := fun τ G => D.ct (τ.set i none) G }
def wAll (K : PySem.W.Frag) (c : Value) (i : Nat) (ts : Addr → Value → Option Addr → TS) (D : Ends) : WX := fun cls d σ H => PySem.W.exmOne K cls c = some true ∧ ∀ a, H a = none → ts a cls d (bare D i) (σ.set i (some (.ref a))) H
section
variable {X : Cx} {x n : Str} {c : Value} {i : Nat} {body suite orelse : List Stmt} {b₀ : Stmt} {np pos pos' : Pos} {tb : WX → TS} {ts : Addr → Value → Option Addr → TS} {u : TS}
/-- an object of an exception is no frame's -/
theorem no_frame {B h : Heap} {l : List Env} {a : Addr} {o : Obj} {vs : Array Value} (F : h.FunFrames B l) (e : h.get? a = some o) (k : o.data = .fields vs) : a ∉ frs l := fun m => by
  obtain ⟨_, o2, e2, no⟩ := F.mem m
  rw [e] at e2
  cases e2
  exact no _ k
theorem ps_try_asE (ho : PSs X orelse u) (hst : X.stack = X.env :: X.outer) (hfl : X.env.frame = some X.env.locals) (hnd : X.N.Nodup) (hix : X.N[i]? = some n) (hlc : X.env.kindOf n = some .local) (hnm : Names X x c)
    (hbd : ∀ (W : WX) (pn : List (Addr × Obj)) (xe : Value → Shared → Prop), Takes (X.tr pn xe) W → PassesOwn (model X.prog X.w) X.A X.env xe → PSs (X.tr pn xe) body (tb W))
    (hsu : ∀ (a : Addr) (oe : Obj) (cls : Value) (d : Option Addr) (pn : List (Addr × Obj)), Zc cls d oe → (∃ vs, oe.data = .fields vs) → PSs (X.suite a ((a, oe) :: pn)) (b₀ :: suite) (ts a cls d)) :
    PS X (.Try body [.ExceptHandler (some (.Name x np)) (some n) (b₀ :: suite) pos'] orelse [] pos) (fun D σ H => tb (wAll X.K c i ts D) { D with nx := u D } σ H) := by
  constructor
  intro pins s σ H D I h
  have okX := I.ok
  have frames : X.A.frames = some (X.env :: X.outer) := okX.frames.trans (congrArg some hst)
  -- what is done with an error of the body
  let land : Value → Shared → Prop := fun e t1 => wpAny (model X.prog X.w) X.A (noteFrame e X.env) (fun _ t2 => wpAny (model X.prog X.w) X.A (setFlight e none) (fun _ t3 =>
    wpAny (model X.prog X.w) X.A (handleBy e X.env [.ExceptHandler (some (.Name x np)) (some n) (b₀ :: suite) pos']) (SP X pins D) X.xe t3) X.xe t2) X.xe t1
  have caught : Takes (X.tr (X.pn ++ pins) land) (wAll X.K c i ts D) := by
    rintro e t ⟨a, B, sI, ps, τ, G, cls, d, rfl, J0, nb, up, sky, na, os, ag, isC, go⟩
    have J := J0.ofTry okX
    have sky2 : Sky B (X.env :: X.outer) a (Zc cls d) X.env.locals t.heap := hst ▸ sky
    refine Sky.land Zc.steady frames hfl sky2 fun g1 f1 u1 => ?_
    have J1 : Inv X pins τ G { t with heap := g1 } := J.landed nb f1.1 (up.trans u1) os ag
    obtain ⟨o1, v1, e1, z1', d1⟩ := f1.there
    have far := no_frame f1.2.2.1 e1 d1
    have farL : a ≠ X.env.locals := fun z => far (List.mem_filterMap.mpr ⟨X.env, List.mem_cons_self, hfl.trans (congrArg some z.symm)⟩)
    have farF : a ∉ X.fs := fun m => by
      obtain ⟨y, hy, k⟩ := List.mem_filterMap.mp m
      exact far (List.mem_filterMap.mpr ⟨y, List.mem_cons_of_mem _ hy, k⟩)
    have S1 := J1.suite e1 d1 na farL farF
    have kind : PySem.W.Looks (model X.prog X.w) g1 (typeOf (.ref a)) cls := fun A Q E t' k q => wpAny_typeOf_ref (k _ _ e1) (z1'.1 ▸ q)
    have named : ∀ {Q E : Value → Shared → Prop}, Q c { t with heap := g1 } → wpAny (model X.prog X.w) (X.A.mark (some (.ref a))) (eval (.Name x np) X.env) Q E { t with heap := g1 } := fun {Q E} q => by
      rcases hnm with ⟨gl, nod, own | ⟨non, bt, nn⟩⟩
      · exact ld_glob (X := X.suite a ((a, o1) :: (X.pn ++ pins))) S1 gl own q nod
      · exact ld_blt (X := X.suite a ((a, o1) :: (X.pn ++ pins))) S1 gl non bt q nn nod
    refine wpAny_handleBy_cons (codeAny_handlers_test (named ((PySem.W.exm_one (M := model X.prog X.w) J1.kIn kind isC).here ?_))) (by intro z; cases z)
    refine codeAny_handlers_suite_as (HandSPX.lands_againZ f1 fun g2 f2 u2 => ?_)
    have J2 : Inv X pins τ G { t with heap := g2 } := J.landed nb f2.1 ((up.trans u1).trans u2) os ag
    obtain ⟨o2, v2, e2, z2', d2⟩ := f2.there
    refine store_ok (X := X.suite a ((a, o2) :: (X.pn ++ pins))) (v := .ref a) (J2.suite e2 d2 na farL farF) hnd hix (.inl hlc) rfl (fun t5 I5 => ?_) (.inr hlc)
    refine wpAny_mono ((hsu a o2 cls d (X.pn ++ pins) z2' ⟨_, d2⟩).run [] t5 _ G _ I5 (go a na)) (fun fl t6 r => ?_) fun _ _ z => z.elim
    have drop : ∀ {τ6 : L2.St} {G6 : Hp} {Q : Shared → Prop}, Inv (X.suite a ((a, o2) :: (X.pn ++ pins))) [] τ6 G6 t6 → (∀ t7, Inv X pins (τ6.set i none) G6 t7 → Q t7) →
        wpAny (model X.prog X.w) X.A (do bindName X.env n .none; unbindBehindTheSuite X.env n pos') (fun _ t7 => Q t7) X.xe t6 := fun k q => gone_ok (k.unsuite okX) hnd hix hlc q
    rcases fl with _ | _ | _ | v
    · obtain ⟨τ6, G6, K6, r⟩ := r
      exact drop K6 fun t7 J7 => ⟨_, _, J7, r⟩
    · obtain ⟨τ6, G6, K6, r⟩ := r
      exact drop K6 fun t7 J7 => ⟨_, _, J7, r⟩
    · obtain ⟨τ6, G6, K6, r⟩ := r
      exact drop K6 fun t7 J7 => ⟨_, _, J7, r⟩
    · obtain ⟨w6, τ6, G6, K6, r6, r⟩ := r
      exact drop K6 fun t7 J7 => ⟨_, _, _, J7, r6, r⟩
  refine wpAny_Try_except (wpAny_mono ((hbd _ _ land caught PassesOwn.looking).run [] s σ H { D with nx := u D } (I.toTry _) h) (fun fl t1 r => ?_) fun _ _ z => z)
  rcases fl with _ | _ | _ | v
  · obtain ⟨τ, G, J, r⟩ := r
    exact ho.run pins t1 τ G D (J.ofTry okX) r
  · obtain ⟨τ, G, J, r⟩ := r
    exact ⟨τ, G, J.ofTry okX, r⟩
  · obtain ⟨τ, G, J, r⟩ := r
    exact ⟨τ, G, J.ofTry okX, r⟩
  · obtain ⟨v1, τ, G, J, r1, r⟩ := r
    exact ⟨v1, τ, G, J.ofTry okX, r1, r⟩
end
end Kx

set_option maxHeartbeats 8000000
namespace Kx
open PySem PySem.Spec PyProof.Rows L2
abbrev s_law_told : Stmt := topS 40
theorem merge_app : ∀ {more acc : List (L2.Key × V)}, ((acc ++ more).map (·.1)).Nodup → mergeK acc more = acc ++ more
  | [], acc, _ => by
    rw [List.append_nil]
    rfl
  | kv :: more, acc, h => by
    show mergeK (putK acc kv.1 kv.2) more = _
    have hn : valV acc kv.1 = none := by
      unfold valV
      rw [List.find?_eq_none.mpr]
      · rfl
      · intro p hp z
        rw [List.map_append] at h
        exact (List.nodup_append.mp h).2.2 _ (List.mem_map.mpr ⟨p, hp, rfl⟩) _ (List.mem_map.mpr ⟨kv, List.mem_cons_self, rfl⟩) (of_decide_eq_true z)
    rw [putK_new _ hn, merge_app (by rw [List.append_assoc]; exact h), List.append_assoc]
    rfl
theorem merge_tg {tg : Tg} (h : (tg.map (·.1)).Nodup) : mergeK [] (tg.map fun e => ((.inr e.1 : L2.Key), V.ref e.2.1)) = tg.map fun e => (.inr e.1, .ref e.2.1) := by
  rw [merge_app]
  · rfl
  · rw [List.nil_append, List.map_map]
    have h2 : (tg.map ((fun x : L2.Key × V => x.1) ∘ fun e => ((.inr e.1 : L2.Key), V.ref e.2.1))) = (tg.map (·.1)).map (fun x => (Sum.inr x : L2.Key)) := by
      rw [List.map_map]
      rfl
    rw [h2]
    exact List.pairwise_map.mpr (h.imp fun ne e => ne (Sum.inr.inj e))
theorem paired_snoc {α β : Type} {F : α → β → Prop} : ∀ {l : List α} {m : List β} {a : α} {b : β}, Paired F l m → F a b → Paired F (l ++ [a]) (m ++ [b])
  | _, _, _, _, .nil, h => .cons h .nil
  | _, _, _, _, .cons g t, h => .cons g (paired_snoc t h)
theorem unlockD {H H' : Hp} {b : Addr} {u : HO} {od : Obj} (e : H b = some u) (h : Same (upd H b (.frz od u)) H') : Same H (upd H' b u) := fun a v k => by
  by_cases z : a = b
  · subst z
    rw [e] at k
    rw [upd_same]
    exact k
  · rw [upd_ne z]
    refine h _ _ ?_
    rw [upd_ne z]
    exact k
/-- the keys are unlike -/
theorem run_nodup : ∀ {ss : List Stp} {k kn : List (Str × List NC)}, (k.map (·.1)).Nodup → runC k ss = .ok kn → (kn.map (·.1)).Nodup
  | [], k, kn, h, e => by
    cases e
    exact h
  | s :: ss, k, kn, h, e => by
    change (match stepC k s with | none => Except.error s.name | some cs => runC (k ++ [(s.name, cs)]) ss) = _ at e
    cases hs : stepC k s with
    | none =>
      rw [hs] at e
      cases e
    | some cs =>
      rw [hs] at e
      refine run_nodup ?_ e
      have hin : s.name ∉ k.map (·.1) := fun z => by
        unfold stepC at hs
        rw [if_pos z] at hs
        cases hs
      rw [List.map_append]
      exact List.nodup_append.mpr ⟨h, by simp, fun u hu v hv' e => hin (by
        have : v = s.name := List.mem_singleton.mp hv'
        rw [← this, ← e]
        exact hu)⟩
theorem run_len : ∀ {ss : List Stp} {k kn : List (Str × List NC)}, runC k ss = .ok kn → kn.length = k.length + ss.length
  | [], k, kn, e => by
    cases e
    rfl
  | s :: ss, k, kn, e => by
    change (match stepC k s with | none => Except.error s.name | some cs => runC (k ++ [(s.name, cs)]) ss) = _ at e
    cases hs : stepC k s with
    | none =>
      rw [hs] at e
      cases e
    | some cs =>
      rw [hs] at e
      have h := run_len (show runC (k ++ [(s.name, cs)]) ss = .ok kn from e)
      rw [h]
      simp only [List.length_append, List.length_cons, List.length_nil]
      omega
section
variable {P : Program} {w : World} {K : PySem.W.Frag} {mg : Str → Option Value} {base : Heap}
abbrev N_law_told : List Str := ["job", "found", "error", "name"]
/-- what is told: a name, where the columns are none -/
def spTold : Sp := fun vs H Q _ => ∃ (job : Addr) (as : List (Addr × Stp)) (an : Str), vs = [.ref job] ∧ JobAt H job as an ∧
  (∀ kn, outJ (as.map (·.2)) an = .ok kn → ∀ (T : Addr) (tg : Tg) (H' : Hp), Same H H' → H' T = some (.dK (tg.map fun e => (.inr e.1, .ref e.2.1))) → absT tg = kn → (tg.map (·.1)).Nodup → (∀ e ∈ tg, CF H' e.2.1 e.2.2) → Q (.ref T) H') ∧
  (∀ nm, runC [] (as.map (·.2)) = .error nm → ∀ H', Same H H' → Q (.str nm) H') ∧
  ∀ kn, runC [] (as.map (·.2)) = .ok kn → an ∉ kn.map (·.1) → ∀ H', Same H H' → Q (.str an) H'
theorem sc_ltold : FnScope N_law_told ["job"] (defScope s_law_told) := ⟨rfl, rfl, rfl, by decide +kernel, rfl, by decide +kernel, by decide +kernel⟩
theorem ok_ltold {f C fI : Addr} {fd : FuncData} (F : Fun K "_law_told" "_law_told" s_law_told f fd) (T : PySem.BadY.BadTxt K mg C fI) (m_dict : mg "dict" = none) (m_tuple : mg "tuple" = none) (G_cols : ReadyX P w K mg base 16 "columns_of" ["job"] (spColsJ K C)) : FnOk P w K mg base CX0 17 f fd ["job"] spTold := by
  refine F.ok sc_ltold (fun vs H Q E h => ?_) (fun cdv A outer s H vs Q E hr h => ?_)
  · obtain ⟨job, as, an, rfl, _⟩ := h
    rfl
  obtain ⟨job, as, an, rfl, ⟨st, hj, hst, hs, la⟩, q, qe, qa⟩ := h
  have nd := sc_ltold.nd
  have hu64 : _ + 64 < cLine := hr.units
  have hu1 : _ + 1 < cLine := Nat.lt_of_le_of_lt (Nat.add_le_add_left (by decide : 1 ≤ 64) _) hu64
  refine ⟨_, pss_one (ps_try_asE (i := 2) (tb := fun W => tAsg (tCallS (spColsJ K C) (WE W) (tCons (tVar 0) tNil)) (gName 1)) (ts := fun a cls d => tRet (tByName C a cls d (tVar 2))) (pss_one (ps_ret (pe_callTy (call_dictP rfl) (by rfl) m_dict PyProof.Rows.boot_dict (pa_cons (pe_lock (pe_lc (own := [("name", 3)]) (g := gName 3) (tt := tYes) (te := tTup (tCons (tVar 3) (tCons (tCB (rTupleF K) (tCons (tDGet (tVar 1) (tVar 3)) tNil)) tNil))) rfl nd (pi_keys (pv 1)) (blkOk_by (N := N_law_told) (sc := defScope s_law_told) (by decide +kernel)) (fun _ _ _ _ _ => pg_name (i := 3) nd rfl (Or.inl rfl)) (fun _ _ _ _ _ => pts_nil) (fun _ _ _ _ _ => (pe_tup (pa_cons (pv 3) (pa_cons (pe_callTy cr_tupleF (by rfl) m_tuple PyProof.Rows.boot_tuple (pa_cons (pe_dget hu1 (pv 1) (pv 3) (fun _ _ => rfl)) pa_nil)) pa_nil)))))) pa_nil)))) rfl rfl nd rfl rfl ⟨rfl, by decide, .inl T.gC⟩
      (fun W pn xe tk _ => pss_one (ps_set (i := 1) nd rfl (.inr rfl) (pe_fnX (W := W) G_cols hr tk (pa_cons (pv 0) pa_nil))))
      (fun a oe cls d pn hz hf => pss_one (ps_ret (pe_byName T hz hf (pv 2))))), ?_⟩
  have z2 : 2 ≤ sizeLine := by decide
  refine ⟨_, rfl, job, st, an, as, rfl, hj, hst, fun p hp => ⟨(hs p hp).1, (hs p hp).2.1⟩, la, fun kn hrun hin TT tg H1 s1 eT eabs hcf => ?_, fun kn hrun hin H1 u d s1 nd' => ?_, fun nm hrun H1 u d s1 nd' => ?_⟩
  · have hnd : (tg.map (·.1)).Nodup := by
      have h := run_nodup (k := []) List.nodup_nil hrun
      rw [← eabs] at h
      unfold absT at h
      rw [List.map_map] at h
      exact h
    have hlen : tg.length ≤ 100 := by
      have h := run_len hrun
      rw [← eabs] at h
      unfold absT at h
      rw [List.length_map, List.length_map] at h
      rw [h]
      show 0 + as.length ≤ 100
      omega
    let kvs : List (L2.Key × V) := tg.map fun e => (.inr e.1, .ref e.2.1)
    refine ⟨TT, .dK kvs, eT, trivial, fun od => ?_⟩
    have kt : KeepT H1 (upd H1 TT (.frz od (.dK kvs))) := fun a xs e => by
      rw [upd_ne (fun z => by rw [z, eT] at e; cases e)]
      exact e
    have kf : KeepF H1 (upd H1 TT (.frz od (.dK kvs))) := fun a xs ⟨o, dn, e⟩ => ⟨o, dn, by
      rw [upd_ne (fun z => by rw [z, eT] at e; cases e)]
      exact e⟩
    refine ⟨_, rfl, TT, od, rfl, .inl ⟨kvs, upd_same, fun D nD => ?_⟩⟩
    have nDT : D ≠ TT := (ne_of_none upd_same nD).symm
    refine lc_it (walk_keys (d := TT) (o := od) (kvs := kvs)) (fun i H2 => Same (upd H1 TT (.frz od (.dK kvs))) H2 ∧ ∃ ps : List Addr, H2 D = some (.lst (ps.map V.ref)) ∧ Paired (fun p kv => H2 p = some (.tup [kV kv.1, kv.2])) ps (kvs.take i))
        ⟨same_upd nD, [], upd_same, .nil⟩ (fun i H2 _ z => z.1 _ _ upd_same) ?_ ?_
    · rintro i x H2 H3 hi ⟨sm, ps, eD, hp⟩ ⟨rfl, k, v, e1, rfl⟩
      rw [List.getElem?_map] at e1
      obtain ⟨e, he, ee⟩ := Option.map_eq_some_iff.mp e1
      cases ee
      have em := List.mem_of_getElem? he
      obtain ⟨cs, tf, hpc, ec⟩ := id (hcf e em)
      have gt : DGet H3 TT (.str e.1) (some (.ref e.2.1)) := .inl ⟨_, .inr e.1, .inr ⟨od, sm _ _ upd_same⟩, rfl, (val_in hnd em).symm⟩
      refine ⟨rfl, _, rfl, _, rfl, _, rfl, TT, _, rfl, gt, e.2.1, _, rfl, .inr ⟨(same_f sm _ _ (kf _ _ tf)).sq, ?_⟩⟩
      refine ⟨z2, fun p np => ?_⟩
      have u := same_upd (o := .tup [.str e.1, .ref e.2.1]) np
      have eD4 := u _ _ eD
      have lps : ps.length ≤ 100 := by
        have h := Paired.length hp
        rw [List.length_take, List.length_map] at h
        omega
      refine ⟨_, eD4, Nat.lt_of_le_of_lt (show _ ≤ 100 by rw [List.length_map]; exact lps) (by decide), fun b o e => ?_, ps ++ [p], ?_, ?_⟩
      · rw [upd_ne (ne_of_none e nD)]
        exact u _ _ (sm _ _ e)
      · rw [upd_same, List.map_append]
        rfl
      · have tk : kvs.take (i + 1) = kvs.take i ++ [(.inr e.1, .ref e.2.1)] := by
          rw [List.take_add_one, List.getElem?_map, he]
          rfl
        rw [tk]
        have keep : ∀ {a : Addr} {xs : List V}, (upd H3 p (.tup [.str e.1, .ref e.2.1])) a = some (.tup xs) → (upd (upd H3 p (.tup [.str e.1, .ref e.2.1])) D (.lst (ps.map V.ref ++ [.ref p]))) a = some (.tup xs) := fun e => by
          rw [upd_ne (fun z => by rw [z, eD4] at e; cases e)]
          exact e
        exact paired_snoc (Paired.mapP hp fun p kv h => keep (u _ _ h)) (keep upd_same)
    rintro H2 ⟨sm, ps, eD, hp⟩
    rw [List.take_length] at hp
    have eF := sm _ _ upd_same
    have s2 := unlockD eT sm
    refine ⟨eF, D, ps, kvs, rfl, SqL.of (by rw [upd_ne nDT]; exact eD), ?_, fun R nR => ?_⟩
    · exact Paired.mapP hp (fun p kv h => SqT.of (by
        rw [upd_ne (fun z => by rw [z, eF] at h; cases h)]
        exact h))
    rw [merge_tg hnd]
    have s3 := s2.trans (same_upd (o := .dK kvs) nR)
    refine q kn ?_ R tg _ (s1.trans s3) upd_same eabs hnd fun e he => (hcf e he).keep (same_t s3) (same_f s3)
    unfold outJ
    rw [hrun]
    exact if_pos hin
  · exact ⟨T.te, fun a na => ⟨_, rfl, rfl, rfl, d, _, _, rfl, upd_same, qa kn hrun hin _ (s1.trans (same_upd nd'))⟩⟩
  · exact ⟨T.te, fun a na => ⟨_, rfl, rfl, rfl, d, _, _, rfl, upd_same, qe nm hrun _ (s1.trans (same_upd nd'))⟩⟩
end
end Kx

set_option maxHeartbeats 8000000
namespace Kx
open PySem PySem.Spec PyProof.Rows L2 MeetsSeq
/-! ### a dict against a text; dicts compared whose values are data -/
section
variable {prog : Program} {w : World} {A : Around} {E : Value → Shared → Prop} {s : Shared}
open AutoSeq1 (wpAny_loadPart') in
theorem str_eq_declines_dict (b : Str) (u : Tok) (l : Addr) (c : Value) (es : Array DictEntry) (n : Nat) (dd : Option Addr) (sl : Array (Option Value)) :
    Meets (Builtin.«str.__eq__» ⟨[.str b u, .ref l], []⟩) (fun _ R s => s.heap.get? l = some { cls := c, dict := dd, data := .dict es n, slots := sl } ∧ R (.ok (.ret .notImplemented)) s) :=
  .of_wp fun prog w A R s h => by obtain ⟨hp, g, d, tk, os⟩ := s; obtain ⟨hl, h⟩ := h; wp_walk using wpAny_loadPart' hl, wpAny_load hl; exact ⟨_, rfl, h⟩
theorem dict_eq_str {a : Addr} {o : Obj} {es : Array DictEntry} {n : Nat} {b : Str} {u : Tok} {Q : Value → Shared → Prop} (ho : s.heap.get? a = some o) (hc : o.cls = .type "dict") (hd : o.data = .dict es n) (hu : A.units < cLine) (h : Q (.bool false) s) :
    wpAny (model prog w) A (compareOp .Eq (.ref a) (.str b u)) Q E s := by
  obtain ⟨cls, dd, data, sl⟩ := o
  simp only at hc hd
  subst hc hd
  have ty : s.TypeIs (.ref a) "dict" := ⟨_, ho, rfl⟩
  exact SeqAt.rc_eq_decline_or (k := false) ty (typeIs_str s b u) (by decide) F.sub_str_dict F.slot_dict_eq F.slot_str_eq_refl
    (fun Q' hq => wpAny_call_entry F.slot_dict_eq ty F.entry_dict_eq (by
      show wpAny _ _ (Builtin.Dict.dictSlotArgs "__eq__" ⟨[.ref a, .str b u], []⟩ >>= _) _ _ s
      refine wpAny_bind ?_
      unfold Builtin.Dict.dictSlotArgs
      refine wpAny_bind (wpAny_notOrdered_dict ty ?_)
      show wpAny _ _ (pure (Value.ref a, Value.str b u)) _ _ s
      refine wpAny_pure ?_
      refine wpAny_bind (wpAny_isInstance (T := "str") (typeIs_str s b u) F.sub_str_dict ?_)
      simp only [Bool.not_false, if_true]
      refine wpAny_bind (wpAny_rule ?_)
      refine wpAny_bind (wpAny_pure ?_)
      exact wpAny_pure ⟨_, rfl, hq⟩) (F.args_dict_eq_2 _ _))
    (fun _ hq => call_meets F.slot_str_eq_refl (typeIs_str s b u) F.entry_str_eq (F.args_str_eq_2 _ _) (str_eq_declines_dict b u a (.type "dict") es n dd sl) ⟨ho, hq⟩)
    (fun _ hq => wpAny_of_eq (rfl : isSame (.ref a) (.str b u) = pure false) hq) (.inr hu) h
end
end Kx

set_option maxHeartbeats 8000000
namespace Kx
open PySem PySem.Spec PyProof.Rows L2
abbrev s_law_is_due : Stmt := topS 41
theorem Dp.reads' {X : Cx} {pins : List (Addr × Obj)} {σ : L2.St} {H : Hp} {s : Shared} (I : Inv X pins σ H s) {d : PyData} {v : V} {u : Value} (h : Dp X.K H v d) (r : RelV v u) : ∃ as, Reads s.heap u d as := L2.Dp.reads I d v u h r
theorem hits_data {X : Cx} {pins : List (Addr × Obj)} {σ : L2.St} {H : Hp} {s : Shared} (I : Inv X pins σ H s) {A : Around} (hu : A.in1.units + 64 < cLine) {ls : List (L2.Key × V)} {vb : List (L2.Key × Value)} (rb : KV ls vb) {ks : List (L2.Key × V)} {va : List (L2.Key × Value)} (ra : KV ks va) :
    (∀ p ∈ ks, ∃ u d e, valV ls p.1 = some u ∧ Dp X.K H p.2 d ∧ Dp X.K H u e ∧ SeqAt.shaped d = true ∧ SeqAt.shaped e = true ∧ PyData.eqv d e = true) → PySem.W.KeqHits A.in1 s vb va true := by
  unfold KV at ra
  induction ra with
  | nil => intro _; exact .nil
  | @cons p q ps qs h t ih =>
    intro hp
    obtain ⟨h1, h2⟩ := h
    obtain ⟨u, d, e, e1, dp1, dp2, sd, se, eq⟩ := hp p List.mem_cons_self
    have rr : RelO (some u) (valueAt vb p.1) := by rw [← e1]; exact rb.val p.1
    obtain ⟨y, hy, ry⟩ := rr.some_of
    obtain ⟨k, v⟩ := q
    have h1' : p.1 = k := h1
    rw [h1'] at hy
    obtain ⟨as, r1⟩ := Dp.reads' I dp1 h2
    obtain ⟨bs, r2⟩ := Dp.reads' I dp2 ry
    have z := PySem.W.keq_at (A := A) r1 r2 sd se hu
    rw [eq] at z
    show PySem.W.KeqHits A.in1 s vb ((k, v) :: qs) (true && true)
    exact .hit hy z (ih fun p' hm => hp p' (List.mem_cons_of_mem _ hm))
/-- scalars, a dict against a text, two dicts that are equal as data -/
def rEqX (K : PySem.W.Frag) : R2 := fun x y H Q => rEq x y H Q ∨ (∃ a kvs z, x = .ref a ∧ y = .str z ∧ H a = some (.dK kvs) ∧ Q (.bl false) H) ∨
  ∃ a b ks ls, x = .ref a ∧ y = .ref b ∧ H a = some (.dK ks) ∧ H b = some (.dK ls) ∧ ks.length = ls.length ∧ (∀ p ∈ ks, ∃ u d e, valV ls p.1 = some u ∧ Dp K H p.2 d ∧ Dp K H u e ∧ SeqAt.shaped d = true ∧ SeqAt.shaped e = true ∧ PyData.eqv d e = true) ∧ Q (.bl true) H
theorem op_eqX {X : Cx} (hu : X.A.in1.units + 64 < cLine) (hu' : X.A.units < cLine) : OpR X (compareOp .Eq) (rEqX X.K) := by
  intro pins s σ H x y v u Q I rx ry h
  rcases h with h | ⟨a, kvs, z, rfl, rfl, ea, q⟩ | ⟨a, b, ks, ls, rfl, rfl, ea, eb, hlen, hp, q⟩
  · exact op_eq pins s σ H x y v u Q I rx ry h
  · obtain rfl : v = Value.ref a := rx
    obtain ⟨t, rfl⟩ : ∃ t, u = Value.str z t := ry
    obtain ⟨_, ya, va, ra, da⟩ := (show ObjOk X.prog X.w H s.heap a (.dK kvs) from I.hok a _ ea)
    obtain ⟨oa, es, ep, hoa, hca, hda, _⟩ := da
    exact dict_eq_str hoa hca.1 hda hu' ⟨.bl false, H, I, rfl, q⟩
  · obtain rfl : v = Value.ref a := rx
    obtain rfl : u = Value.ref b := ry
    obtain ⟨_, ya, va, ra, da⟩ := (show ObjOk X.prog X.w H s.heap a (.dK ks) from I.hok a _ ea)
    obtain ⟨_, yb, vb, rb, db⟩ := (show ObjOk X.prog X.w H s.heap b (.dK ls) from I.hok b _ eb)
    have hl : va.length = vb.length := by rw [← ra.length, ← rb.length]; exact hlen
    exact PySem.W.keq_eq (knd := mixKind X.prog X.w) (r := true) ya yb da db hu' (fun _ => hits_data I hu rb ra hp) ⟨.bl true, H, I, by simp [hl]; rfl, q⟩
section
variable {P : Program} {w : World} {K : PySem.W.Frag} {mg : Str → Option Value} {base : Heap}
abbrev N_law_is_due : List Str := ["job", "due", "told"]
def spIsDue : Sp := fun vs H Q _ => ∃ (job : Addr) (as : List (Addr × Stp)) (an : Str), vs = [.ref job] ∧ JobAt H job as an ∧ ∀ H', Same H H' → Q (.bl true) H'
theorem sc_isdue : FnScope N_law_is_due ["job"] (defScope s_law_is_due) := ⟨rfl, rfl, rfl, by decide +kernel, rfl, by decide +kernel, by decide +kernel⟩
theorem ok_isdue {f : Addr} {fd : FuncData} (F : Fun K "_law_is_due" "_law_is_due" s_law_is_due f fd) (m_isinstance : mg "isinstance" = none) (m_str : mg "str" = none) (G_law_due : Ready P w K mg base 16 "_law_due" ["job"] spDue) (G_law_told : Ready P w K mg base 17 "_law_told" ["job"] spTold) : FnOk P w K mg base CX0 18 f fd ["job"] spIsDue := by
  refine F.ok sc_isdue (fun vs H Q E h => ?_) (fun cdv A outer s H vs Q E hr h => ?_)
  · obtain ⟨job, as, an, rfl, _⟩ := h
    rfl
  obtain ⟨job, as, an, rfl, hJ, q⟩ := h
  have nd := sc_isdue.nd
  have hr17 : Room 17 _ := hr
  have hr16 : Room 16 _ := hr.mono (by decide)
  have hu64 : _ + 64 < cLine := hr.units
  have hu0 : _ < cLine := Nat.lt_of_le_of_lt (Nat.le_add_right _ 64) hu64
  have hin1 : (A.deeper (envOfC "_law_is_due" (defScope s_law_is_due) s.heap.objs.size f cdv)).in1.units + 64 < cLine := (show Room 17 _ from hr).in1.units
  refine ⟨_, pss_cons (ps_par (i := 1) (j := 2) rfl nd rfl rfl (by decide) rfl rfl (pa_cons (pe_fn G_law_due hr16 (pa_cons (pv 0) pa_nil)) (pa_cons (pe_fn G_law_told hr17 (pa_cons (pv 0) pa_nil)) pa_nil)) rfl)
      (pss_one (ps_ret (pe_ifExp (pt_cmpR (op_eqX hin1 hu0) (pv 1) pe_str (nomark _)) (pe_callB call_isi (by rfl) m_isinstance PyProof.Rows.boot_isinstance (pa_cons (pv 2) (pa_cons (pe_bltn (v := .ty "str") (by rfl) m_str PyProof.Rows.boot_str rfl) pa_nil))) (pe_cmpR (op_eqX hin1 hu0) (pv 2) (pv 1) (nomark _))))), ?_⟩
  refine ⟨_, rfl, job, as, an, rfl, hJ, fun kn hk T1 t1 H1 s1 eT1 ea1 hn1 hc1 hl1 => ?_, fun nm hk H1 s1 => ?_⟩
  · refine ⟨_, rfl, job, as, an, rfl, hJ.keep (same_t s1) (same_f s1), fun kn2 hk2 T2 t2 H2 s2 eT2 ea2 hn2 hc2 => ?_, fun nm hr2 H2 s2 => ?_, fun kn2 hr2 hi2 H2 s2 => ?_⟩
    · rw [hk] at hk2
      cases hk2
      refine ⟨_, _, rfl, _, rfl, .inr (.inl ⟨T1, _, _, rfl, rfl, s2 _ _ eT1, _, rfl, iteF ?_⟩)⟩
      have len2 : t2.length = t1.length := by
        have h := congrArg List.length (ea2.trans ea1.symm)
        unfold absT at h
        rw [List.length_map, List.length_map] at h
        exact h
      refine ⟨_, rfl, _, rfl, .inr (.inr ⟨T2, T1, _, _, rfl, rfl, eT2, s2 _ _ eT1, by rw [List.length_map, List.length_map]; exact len2, fun p hp => ?_, q _ (s1.trans s2)⟩)⟩
      obtain ⟨e2, h2, rfl⟩ := List.mem_map.mp hp
      have hm : (e2.1, e2.2.2) ∈ absT t1 := by
        rw [ea1, ← ea2]
        exact List.mem_map.mpr ⟨e2, h2, rfl⟩
      obtain ⟨e1, h1, ee⟩ := List.mem_map.mp hm
      have n12 : e1.1 = e2.1 := (Prod.mk.injEq .. ▸ ee).1
      have c12 : e1.2.2 = e2.2.2 := (Prod.mk.injEq .. ▸ ee).2
      have g1 := (hc1 e1 h1).2.good
      refine ⟨.ref e1.2.1, _, _, ?_, (hc2 e2 h2).dp, ((hc1 e1 h1).1.keep (same_t s2) (same_f s2)).dp, colsT_sh (by rw [← c12]; exact g1.lay), colsT_sh g1.lay, ?_⟩
      · show valV (t1.map fun e => ((.inr e.1 : L2.Key), V.ref e.2.1)) (.inr e2.1) = _
        rw [← n12]
        exact val_in hn1 h1
      · rw [colsT_eqv]
        exact decide_eq_true c12.symm
    · unfold outJ at hk
      rw [hr2] at hk
      cases hk
    · unfold outJ at hk
      rw [hr2] at hk
      change (if _ then _ else _) = _ at hk
      rw [if_neg hi2] at hk
      cases hk
  · refine ⟨_, rfl, job, as, an, rfl, hJ.keep (same_t s1) (same_f s1), fun kn2 hk2 T2 t2 H2 s2 eT2 ea2 hn2 hc2 => ?_, fun nm2 hr2 H2 s2 => ?_, fun kn2 hr2 hi2 H2 s2 => ?_⟩
    · rw [hk] at hk2
      cases hk2
    · have e : nm = nm2 := by
        unfold outJ at hk
        rw [hr2] at hk
        cases hk
        rfl
      refine ⟨_, _, rfl, _, rfl, .inl ⟨rfl, _, rfl, ite2 (fun c => ?_) (fun c => ?_)⟩⟩
      · exact ⟨_, rfl, _, _, _, _, _, rfl, .ty _, .base (.str _), rfl, q _ (s1.trans s2)⟩
      · refine ⟨_, rfl, _, rfl, .inl ⟨rfl, ?_⟩⟩
        rw [decide_eq_true (by rw [e])]
        exact q _ (s1.trans s2)
    · have e : nm = "answer" := by
        unfold outJ at hk
        rw [hr2] at hk
        change (if _ then _ else _) = _ at hk
        rw [if_neg hi2] at hk
        cases hk
        rfl
      refine ⟨_, _, rfl, _, rfl, .inl ⟨rfl, _, rfl, ite2 (fun c => ?_) (fun c => ?_)⟩⟩
      · exact ⟨_, rfl, _, _, _, _, _, rfl, .ty _, .base (.str _), rfl, q _ (s1.trans s2)⟩
      · exact absurd (decide_eq_true (by rw [e])) c
end
end Kx

set_option maxHeartbeats 8000000
namespace Kx
open PySem PySem.Spec PyProof.Rows L2
/-! ### a drawn job is right -/
/-- what a change leaves room for -/
def SmallS (s : Stp) : Prop := (∀ x ∈ s.ins, x ∈ bigN) ∧ match s.det with
  | .filter e => e.dep ≤ 11
  | .map ms => ms.length ≤ 99
  | .fold _ fs => fs.length ≤ 99
  | _ => True

theorem kind_some {c : Str → Option Bool} {e : Ex} {b : Bool} (k : Kind c e b) : kindE c e = some b := by
  induction k with
  | num h => rfl
  | quo h => rfl
  | col h => exact h
  | arith h ha hb iha ihb =>
    show twoK _ (kindE c _) (kindE c _) = _
    rw [iha, ihb]
    rfl
  | @text op a b h ha hb iha ihb =>
    show twoK _ (kindE c _) (kindE c _) = _
    rw [iha, ihb]
    show (if false = false then (if (false = true ∨ op ∈ cmps) then some true else none) else none) = _
    rw [if_pos rfl, if_pos (.inr (cmpsT_sub _ h))]
  | nt ha ih =>
    show oneK true (kindE c _) = _
    rw [ih]
    rfl
  | mn ha ih =>
    show oneK true (kindE c _) = _
    rw [ih]
    rfl
  | ln ha ih =>
    show oneK false (kindE c _) = _
    rw [ih]
    rfl
theorem kind_ops {c : Str → Option Bool} {e : Ex} {b : Bool} (k : Kind c e b) : OpsOk e := by
  induction k with
  | num h => trivial
  | quo h => trivial
  | col h => trivial
  | arith h ha hb iha ihb =>
    refine ⟨?_, iha, ihb⟩
    rcases h with h | h | h | h
    · exact .inr (List.mem_append_left _ h)
    · exact .inl h
    · rw [h]
      exact .inr (by decide +kernel)
    · rw [h]
      exact .inr (by decide +kernel)
  | text h ha hb iha ihb => exact ⟨.inl (cmpsT_sub _ h), iha, ihb⟩
  | nt ha ih => exact ih
  | mn ha ih => exact ih
  | ln ha ih => exact ih
theorem known_mem : ∀ {kn : List (Str × List NC)}, (kn.map (·.1)).Nodup → ∀ {e : Str × List NC}, e ∈ kn → known kn e.1 = e.2
  | [], _, e, h => absurd h List.not_mem_nil
  | x :: kn, hn, e, h => by
    unfold known
    rw [List.find?_cons]
    by_cases hx : x.1 = e.1
    · have hxe : x = e := by
        rcases List.mem_cons.mp h with rfl | h
        · rfl
        · exact absurd (by show x.1 ∈ _; rw [hx]; exact List.mem_map.mpr ⟨e, h, rfl⟩) (List.nodup_cons.mp hn).1
      rw [decide_eq_true hx, hxe]
      rfl
    · rw [decide_eq_false hx]
      have hl : e ∈ kn := by
        rcases List.mem_cons.mp h with rfl | h
        · exact absurd rfl hx
        · exact h
      exact known_mem (List.nodup_cons.mp hn).2 hl
theorem all_big : ∀ x ∈ allNames, x ∈ bigN := fun x h => List.mem_append_left _ h
theorem nms_big : ∀ x ∈ stepNms, x ∈ bigN := by decide +kernel
theorem nodup_inj {cs : List NC} (h : (cs.map (·.1)).Nodup) {a b : NC} (ha : a ∈ cs) (hb : b ∈ cs) (e : a.1 = b.1) : a = b := by
  have h1 := kfN_of h ha
  have h2 := kfN_of h hb
  rw [e, h2] at h1
  obtain ⟨a1, a2⟩ := a
  obtain ⟨b1, b2⟩ := b
  cases Option.some.inj h1
  cases e
  rfl
theorem filt_names {f k : List NC} (hf : (f.map (·.1)).Nodup) (hk : ∀ x ∈ k, x ∈ f) : f.filter (fun c => decide (c ∉ k)) = f.filter fun c => decide (c.1 ∉ k.map (·.1)) := by
  refine List.filter_congr fun c hc => ?_
  refine decide_eq_decide.mpr (not_congr ⟨fun h => List.mem_map.mpr ⟨c, h, rfl⟩, fun h => ?_⟩)
  obtain ⟨x, hx, e⟩ := List.mem_map.mp h
  rw [← nodup_inj hf (hk x hx) hc e]
  exact hx
theorem step_ok {kn : List (Str × List NC)} {ins : List Str} {det : Det} {cs : List NC} {nm : Str} (hn : (kn.map (·.1)).Nodup) (hcs : ∀ e ∈ kn, (e.2.map (·.1)).Nodup) (O : StepOk kn ins det cs) (nd : (cs.map (·.1)).Nodup) (hnm : nm ∉ kn.map (·.1)) : stepC kn ⟨nm, ins, det⟩ = some cs := by
  have mem : ∀ {x : Str} {c : List NC}, (x, c) ∈ kn → x ∈ kn.map (·.1) := fun h => List.mem_map.mpr ⟨_, h, rfl⟩
  have kno : ∀ {x : Str} {c : List NC}, (x, c) ∈ kn → known kn x = c := fun h => known_mem hn h
  have go : ∀ {r : Option (List NC)}, (∀ x ∈ ins, x ∈ kn.map (·.1)) → colsD (ins.map (known kn)) det = r → stepC kn ⟨nm, ins, det⟩ = r := fun h1 h2 => by
    unfold stepC
    rw [if_neg hnm, if_neg (fun z => by
      obtain ⟨x, hx, hy⟩ := z
      exact hy (h1 x hx))]
    exact h2
  have one : ∀ {x : Str} {c : List NC}, (x, c) ∈ kn → ∀ y ∈ [x], y ∈ kn.map (·.1) := fun h y hy => by
    rw [List.mem_singleton.mp hy]
    exact mem h
  have two : ∀ {x y : Str} {c e : List NC}, (x, c) ∈ kn → (y, e) ∈ kn → ∀ z ∈ [x, y], z ∈ kn.map (·.1) := fun h h' z hz => by
    rcases List.mem_cons.mp hz with rfl | hz
    · exact mem h
    · rw [List.mem_singleton.mp hz]
      exact mem h'
  cases O with
  | @filter one' _ e h k d =>
    refine go (one h) ?_
    show (if kindE (kfN (known kn one')) e = some true then some (known kn one') else none) = _
    rw [kno h, if_pos (kind_some k)]
  | @map one' c ms h k nd' ne l =>
    refine go (one h) ?_
    show (if ms.all (fun m => (kindE (kfN (known kn one')) m.1).isSome) = true then ndC (ms.map fun m => (m.2.2, (kindE (kfN (known kn one')) m.1).getD true)) else none) = _
    rw [kno h, if_pos (List.all_eq_true.mpr fun m hm => by rw [kind_some (k m hm).1]; rfl)]
    have e : (ms.map fun m => (m.2.2, (kindE (kfN c) m.1).getD true)) = ms.map fun m => (m.2.2, m.2.1) := List.map_congr_left fun m hm => by
      rw [kind_some (k m hm).1]
      rfl
    rw [e]
    exact ndC_good nd
  | @fold one' c ks fs h hk hf nd' ne l =>
    refine go (one h) ?_
    show (if (ks.all (fun k => (kfN (known kn one') k.1).isSome) && fs.all fun m => (foldK (kfN (known kn one')) m).isSome) = true then ndC ((ks.map fun k => (k.1, (kfN (known kn one') k.1).getD true)) ++ fs.map fun m => (m.2.2.2, (foldK (kfN (known kn one')) m).getD true)) else none) = _
    rw [kno h]
    have ek : ∀ k ∈ ks, kfN c k.1 = some k.2 := fun k hk' => kfN_of (hcs _ h) (hk k hk')
    have ef : ∀ m ∈ fs, foldK (kfN c) m = some (lateK m.1 m.2.2.1) := fun m hm => by
      obtain ⟨h6, ho⟩ := hf m hm
      obtain ⟨m1, m2, m3, m4⟩ := m
      unfold foldK
      cases m2 with
      | none =>
        obtain ⟨a, b⟩ := ho
        rw [if_pos a]
        dsimp only at a b ⊢
        rw [b, lateK_true]
      | some e =>
        obtain ⟨a, b, _, g⟩ := ho
        rw [if_neg a]
        dsimp only at a b g ⊢
        rw [kind_some b]
        dsimp only
        refine if_neg fun z => ?_
        have : m3 = true := g fun y => by
          have hs := z.1
          simp only [List.mem_cons, List.not_mem_nil, or_false] at hs y
          rcases hs with rfl | rfl
          · rcases y with y | y | y <;> exact absurd y (by decide +kernel)
          · rcases y with y | y | y <;> exact absurd y (by decide +kernel)
        rw [z.2] at this
        cases this
    rw [if_pos (Bool.and_eq_true_iff.mpr ⟨List.all_eq_true.mpr fun k hk' => by rw [ek k hk']; rfl, List.all_eq_true.mpr fun m hm => by rw [ef m hm]; rfl⟩)]
    have e1 : (ks.map fun k => (k.1, (kfN c k.1).getD true)) = ks := by
      conv => rhs; rw [← List.map_id ks]
      exact List.map_congr_left fun k hk' => by rw [ek k hk']; rfl
    have e2 : (fs.map fun m => (m.2.2.2, (foldK (kfN c) m).getD true)) = fs.map fun m => (m.2.2.2, lateK m.1 m.2.2.1) := List.map_congr_left fun m hm => by rw [ef m hm]; rfl
    rw [e1, e2]
    exact ndC_good nd
  | @join one' other f s ks h1 h2 ne hk nd' =>
    refine go (two h1 h2) ?_
    show (if joinOk (known kn one') (known kn other) ks = true then ndC ((ks.map fun k => (k.1, (kfN (known kn one') k.1).getD true)) ++ ((known kn one').filter (fun c => decide (c.1 ∉ ks.map (·.1))) ++ (known kn other).filter fun c => decide (c.1 ∉ ks.map (·.1)))) else none) = _
    rw [kno h1, kno h2]
    have ek : ∀ k ∈ ks, kfN f k.1 = some k.2 := fun k hk' => kfN_of (hcs _ h1) (hk k hk').1
    have ek2 : ∀ k ∈ ks, kfN s k.1 = some k.2 := fun k hk' => kfN_of (hcs _ h2) (hk k hk').2
    rw [if_pos (show joinOk f s ks = true from List.all_eq_true.mpr fun k hk' => by
      show ((kfN f k.1).isSome && decide (kfN s k.1 = kfN f k.1)) = true
      rw [ek k hk', ek2 k hk', decide_eq_true rfl]
      rfl)]
    have e1 : (ks.map fun k => (k.1, (kfN f k.1).getD true)) = ks := by
      conv => rhs; rw [← List.map_id ks]
      exact List.map_congr_left fun k hk' => by rw [ek k hk']; rfl
    rw [e1, ← filt_names (hcs _ h1) fun x hx => (hk x hx).1, ← filt_names (hcs _ h2) fun x hx => (hk x hx).2]
    exact ndC_good nd
  | @union one' other c h1 h2 =>
    refine go (two h1 h2) ?_
    show (if known kn one' = known kn other then some (known kn one') else none) = _
    rw [kno h1, kno h2, if_pos rfl]
  | @unlike one' c h =>
    refine go (one h) ?_
    show some (known kn one') = _
    rw [kno h]
  | @sort one' c ws m h ne hw l m1 m5 =>
    refine go (one h) ?_
    show (if ws.all (fun x => (kfN (known kn one') x.1).isSome) = true then some (known kn one') else none) = _
    rw [kno h, if_pos (List.all_eq_true.mpr fun x hx => by
      obtain ⟨k, hk⟩ := (hw x hx).1
      rw [show kfN cs x.1 = some k from kfN_of (hcs _ h) hk]
      rfl)]
theorem law_step {kn : List (Str × List NC)} {ins : List Str} {det : Det} {cs : List NC} {nm : Str} (hb : ∀ x ∈ kn.map (·.1), x ∈ bigN) (O : StepOk kn ins det cs) (inn : ∀ c ∈ cs, c.1 ∈ allNames) : LawOk ⟨nm, ins, det⟩ ∧ SmallS ⟨nm, ins, det⟩ := by
  have mem : ∀ {x : Str} {c : List NC}, (x, c) ∈ kn → x ∈ bigN := fun h => hb _ (List.mem_map.mpr ⟨_, h, rfl⟩)
  have one : ∀ {x : Str} {c : List NC}, (x, c) ∈ kn → ∀ y ∈ [x], y ∈ bigN := fun h y hy => by
    rw [List.mem_singleton.mp hy]
    exact mem h
  have two : ∀ {x y : Str} {c e : List NC}, (x, c) ∈ kn → (y, e) ∈ kn → ∀ z ∈ [x, y], z ∈ bigN := fun h h' z hz => by
    rcases List.mem_cons.mp hz with rfl | hz
    · exact mem h
    · rw [List.mem_singleton.mp hz]
      exact mem h'
  cases O with
  | filter h k d => exact ⟨⟨⟨⟨kind_ops k, by omega⟩, trivial, rfl⟩, fun ks fs z => by cases z⟩, one h, by show _ ≤ 11; omega⟩
  | @map one' c ms h k nd' ne l =>
    refine ⟨⟨⟨⟨by omega, fun m hm => ⟨kind_ops (k m hm).1, by have := (k m hm).2; omega⟩⟩, fun m hm => all_big _ (inn _ (List.mem_map.mpr ⟨m, hm, rfl⟩)), rfl⟩, fun ks fs z => by cases z⟩, one h, by show _ ≤ 99; omega⟩
  | @fold one' c ks fs h hk hf nd' ne l =>
    have lk : ks.length ≤ 24 := by
      have h := few_names (List.nodup_append.mp nd').1 fun x hx => by
        obtain ⟨k, hk', rfl⟩ := List.mem_map.mp hx
        exact inn _ (List.mem_append_left _ hk')
      rw [List.length_map] at h
      exact h
    refine ⟨⟨⟨⟨by omega, by omega, fun m hm hn => ?_⟩, fun m hm => all_big _ (inn (m.2.2.2, lateK m.1 m.2.2.1) (List.mem_append_right _ (List.mem_map.mpr ⟨m, hm, rfl⟩))), rfl⟩, fun ks2 fs2 z m hm hn => ?_⟩, one h, by show _ ≤ 99; omega⟩
    · obtain ⟨_, ho⟩ := hf m hm
      obtain ⟨m1, m2, m3, m4⟩ := m
      cases m2 with
      | none => exact absurd ho.1 hn
      | some e => exact ⟨e, rfl, kind_ops ho.2.1, by have := ho.2.2.1; omega⟩
    · cases z
      obtain ⟨_, ho⟩ := hf m hm
      obtain ⟨m1, m2, m3, m4⟩ := m
      cases m2 with
      | none => rfl
      | some e => exact absurd hn ho.1
  | @join one' other f s ks h1 h2 ne hk nd' =>
    have lk : ks.length ≤ 24 := by
      have hh : (ks.map (·.1)).Nodup := by
        unfold joinC at nd'
        rw [List.map_append] at nd'
        exact (List.nodup_append.mp nd').1
      have h := few_names hh fun x hx => by
        obtain ⟨k, hk', rfl⟩ := List.mem_map.mp hx
        exact inn _ (List.mem_append_left _ hk')
      rw [List.length_map] at h
      exact h
    exact ⟨⟨⟨by show _ ≤ 100; omega, trivial, rfl⟩, fun ks fs z => by cases z⟩, two h1 h2, trivial⟩
  | union h1 h2 => exact ⟨⟨⟨trivial, trivial, rfl⟩, fun ks fs z => by cases z⟩, two h1 h2, trivial⟩
  | unlike h => exact ⟨⟨⟨trivial, trivial, rfl⟩, fun ks fs z => by cases z⟩, one h, trivial⟩
  | sort h ne hw l m1 m5 => exact ⟨⟨⟨by show _ ≤ 100; omega, trivial, rfl⟩, fun ks fs z => by cases z⟩, one h, trivial⟩
theorem job_ok {ss : List Stp} {kn : List (Str × List NC)} (J : JobOk ss kn) : runC [] ss = .ok kn ∧ (kn.map (·.1)).Nodup ∧ (∀ e ∈ kn, (e.2.map (·.1)).Nodup) ∧ ss.length = kn.length ∧ ((∀ e ∈ kn, e.1 ∈ stepNms) → ∀ s ∈ ss, LawOk s ∧ SmallS s) := by
  induction J with
  | base =>
    refine ⟨by rfl, by decide +kernel, by decide +kernel, rfl, fun _ s hs => ?_⟩
    rcases List.mem_cons.mp hs with rfl | hs
    · exact ⟨⟨⟨by show (3 : Nat) ≤ 100; decide, by show ∀ c ∈ colsA, c.1 ∈ bigN; decide +kernel, rfl⟩, fun ks fs z => by cases z⟩, fun x hx => absurd hx List.not_mem_nil, trivial⟩
    · rw [List.mem_singleton.mp hs]
      exact ⟨⟨⟨by show (2 : Nat) ≤ 100; decide, by show ∀ c ∈ colsB, c.1 ∈ bigN; decide +kernel, rfl⟩, fun ks fs z => by cases z⟩, fun x hx => absurd hx List.not_mem_nil, trivial⟩
  | @step ss kn nm ins det cs h n k nd inn ne ih =>
    obtain ⟨h1, h2, h3, h4, h5⟩ := ih
    refine ⟨?_, ?_, fun e he => ?_, by rw [List.length_append, List.length_append, h4]; rfl, fun hb s hs => ?_⟩
    · rw [runC_append, h1]
      show (match stepC kn ⟨nm, ins, det⟩ with | none => Except.error nm | some cs => Except.ok (kn ++ [(nm, cs)])) = _
      rw [step_ok h2 h3 k nd n]
    · rw [List.map_append]
      exact List.nodup_append.mpr ⟨h2, by simp, fun u hu v hv e => n (by
        have : v = nm := List.mem_singleton.mp hv
        rw [← this, ← e]
        exact hu)⟩
    · rcases List.mem_append.mp he with he | he
      · exact h3 e he
      · rw [List.mem_singleton.mp he]
        exact nd
    · rcases List.mem_append.mp hs with hs | hs
      · exact h5 (fun e he => hb e (List.mem_append_left _ he)) s hs
      · rw [List.mem_singleton.mp hs]
        exact law_step (fun x hx => by
          obtain ⟨e, he, rfl⟩ := List.mem_map.mp hx
          exact nms_big _ (hb e (List.mem_append_left _ he))) k inn
end Kx

set_option maxHeartbeats 8000000
namespace Kx
open PySem PySem.Spec PyProof.Rows L2
abbrev s_law_changed : Stmt := topS 39
theorem dp_names {K : PySem.W.Frag} {H : Hp} : ∀ xs : List Str, DpAll K H (xs.map V.str) (xs.map PyData.str)
  | [] => .nil
  | x :: xs => .cons (.str x) (dp_names xs)
theorem lay_names : ∀ xs : List Str, (∀ x ∈ xs, PyData.canLay0 (.str x) = true) → PyData.canLayAll0 (xs.map PyData.str) = true
  | [], _ => rfl
  | x :: xs, h => by
    show (PyData.canLay0 (.str x) && PyData.canLayAll0 (xs.map PyData.str)) = true
    rw [h x List.mem_cons_self, lay_names xs fun y hy => h y (List.mem_cons_of_mem _ hy)]
    rfl
theorem dep_names : ∀ xs : List Str, PyData.depthAll (xs.map PyData.str) ≤ 0
  | [] => Nat.le_refl _
  | x :: xs => by
    show max (PyData.depth (.str x)) (PyData.depthAll (xs.map PyData.str)) ≤ 0
    have := dep_names xs
    have h2 : PyData.depth (.str x) = 0 := rfl
    omega
theorem sh_names {xs : List Str} (h : ∀ x ∈ xs, PyData.canLay0 (.str x) = true) : SeqAt.shaped (.tuple (xs.map PyData.str)) = true := by
  show (PyData.canLayAll0 (xs.map PyData.str) && decide (PyData.depthAll (xs.map PyData.str) + 1 ≤ 64)) = true
  have := dep_names xs
  rw [lay_names xs h, decide_eq_true (by omega)]
  rfl
theorem drop_cutJ (xs : List V) (k : Nat) : cutV xs (some (k : Int)) none = xs.drop k := by
  unfold cutV
  rw [HT.sIx_nat, HT.sIx_none]
  rcases Nat.le_total k xs.length with h | h
  · rw [Nat.min_eq_left h, List.take_of_length_le (by rw [List.length_drop]; exact Nat.le_refl _)]
  · rw [Nat.min_eq_right h, List.drop_of_length_le (Nat.le_refl _), List.drop_of_length_le h, List.take_nil]
theorem ixN_nat {n i : Nat} (h : i < n) : ixN n (i : Int) = some i := by
  unfold ixN
  rw [if_pos (Int.natCast_nonneg i), if_pos (by omega)]
  rfl
structure RunC (H G : Hp) (d s L : Addr) (ns : List Int) (tl : List V) (xs : List V) : Prop where
  b : But d H G
  dr : ∃ n', DrawAt G d s ns tl n'
  eL : G L = some (.lst xs)
  nLd : L ≠ d
  hL : H L = none
theorem RunC.new {H G : Hp} {d s L p : Addr} {ns : List Int} {tl xs : List V} {o : HO} (R : RunC H G d s L ns tl xs) (h : G p = none) : RunC H (upd G p o) d s L ns tl xs :=
  ⟨R.b.trans (same_but (same_upd h)), let ⟨n, D⟩ := R.dr; ⟨n, D.keep (same_upd h)⟩, same_upd h _ _ R.eL, R.nLd, R.hL⟩
theorem RunC.go {H G G' : Hp} {d s L : Addr} {ns : List Int} {tl xs : List V} {n' : Int} (R : RunC H G d s L ns tl xs) (b : But d G G') (D : DrawAt G' d s ns tl n') : RunC H G' d s L ns tl xs :=
  ⟨R.b.trans b, ⟨n', D⟩, b _ _ R.nLd R.eL, R.nLd, R.hL⟩
def MidH (H : Hp) (d s job : Addr) (ns : List Int) (tl : List V) (σ : L2.St) (G : Hp) : Prop := ∃ (L : Addr) (as' : List (Addr × Stp)) (y2 y4 y5 y6 y7 y8 y9 y10 : Option V), σ = [some (.ref d), some (.ref job), y2, some (.ref L), y4, y5, y6, y7, y8, y9, y10] ∧
  RunC H G d s L ns tl (as'.map fun p => .ref p.1) ∧ (∀ p ∈ as', StpAt G p.1 p.2 ∧ LawOk p.2) ∧ as'.length ≤ 100
theorem MidH.put {H G : Hp} {d s job L T : Addr} {ns : List Int} {tl : List V} {n : Int} {as : List (Addr × Stp)} {s' : Stp} {i : Nat} {y2 y4 y5 y6 y7 y8 y9 y10 : Option V} (R : RunC H G d s L ns tl (as.map fun p => .ref p.1)) (D : DrawAt H d s ns tl n) (hs : ∀ p ∈ as, StpAt H p.1 p.2 ∧ LawOk p.2) (la : as.length ≤ 100) (X : StpAt G T s') (hl : LawOk s') :
    MidH H d s job ns tl [some (.ref d), some (.ref job), y2, some (.ref L), y4, y5, y6, y7, y8, y9, y10] (upd G L (.lst ((as.map fun p => V.ref p.1).set i (.ref T)))) := by
  have kt : KeepT H G := fun a xs e => R.b a _ (fun z => by rw [z, D.at_d] at e; cases e) e
  have kf : KeepF H G := fun a xs ⟨o, dn, e⟩ => ⟨o, dn, R.b a _ (fun z => by rw [z, D.at_d] at e; cases e) e⟩
  have kt2 : KeepT G (upd G L (.lst ((as.map fun p => V.ref p.1).set i (.ref T)))) := fun a xs e => by
    rw [upd_ne (fun z => by rw [z, R.eL] at e; cases e)]
    exact e
  have kf2 : KeepF G (upd G L (.lst ((as.map fun p => V.ref p.1).set i (.ref T)))) := fun a xs ⟨o, dn, e⟩ => ⟨o, dn, by
    rw [upd_ne (fun z => by rw [z, R.eL] at e; cases e)]
    exact e⟩
  refine ⟨L, as.set i (T, s'), _, _, _, _, _, _, _, _, rfl, ⟨fun a o ha e => ?_, ?_, ?_, R.nLd, R.hL⟩, fun p hp => ?_, by rw [List.length_set]; exact la⟩
  · rw [upd_ne (fun z => by rw [z, R.hL] at e; cases e)]
    exact R.b a o ha e
  · obtain ⟨n', D'⟩ := R.dr
    refine ⟨n', ⟨?_, ?_, D'.n0⟩⟩
    · rw [upd_ne R.nLd.symm]
      exact D'.at_d
    · rw [upd_ne (fun z => by
        have e := D.at_s
        rw [z, R.hL] at e
        cases e)]
      exact D'.at_s
  · rw [upd_same, List.map_set]
  · rcases List.mem_or_eq_of_mem_set hp with hp | rfl
    · exact ⟨((hs p hp).1.keep kt kf).keep kt2 kf2, (hs p hp).2⟩
    · exact ⟨X.keep kt2 kf2, hl⟩
section
variable {P : Program} {w : World} {K : PySem.W.Frag} {mg : Str → Option Value} {base : Heap}
abbrev N_law_changed : List Str := ["draw", "job", "at", "steps", "name", "what", "inputs", "details", "other", "kind", "late"]
def spChanged : Sp := fun vs H Q _ => ∃ (d s job : Addr) (ns : List Int) (tl : List V) (n : Int) (as : List (Addr × Stp)) (an : Str), vs = [.ref d, .ref job] ∧ DrawAt H d s ns tl n ∧ JobAt H job as an ∧ as ≠ [] ∧ (∀ p ∈ as, SmallS p.2) ∧
  ∀ (r : Addr) (as' : List (Addr × Stp)) (an' : Str) (n' : Int) (H' : Hp), JobAt H' r as' an' → But d H H' → DrawAt H' d s ns tl n' → Q (.ref r) H'
theorem sc_changed : FnScope N_law_changed ["draw", "job"] (defScope s_law_changed) := ⟨rfl, rfl, rfl, by decide +kernel, rfl, by decide +kernel, by decide +kernel⟩
theorem ok_changed {f : Addr} {fd : FuncData} (F : Fun K "_law_changed" "_law_changed" s_law_changed f fd) (m_len : mg "len" = none) (m_list : mg "list" = none) (m_tuple : mg "tuple" = none) (G_law_next : Ready P w K mg base 3 "_law_next" ["draw", "bound"] spNext) (G_law_pick : Ready P w K mg base 4 "_law_pick" ["draw", "things"] (spPick K)) :
    FnOk P w K mg base CX0 5 f fd ["draw", "job"] spChanged := by
  refine F.ok sc_changed (fun vs H Q E h => ?_) (fun cdv A outer s0 H vs Q E hr h => ?_)
  · obtain ⟨d, s, job, ns, tl, n, as, an, rfl, _⟩ := h
    rfl
  obtain ⟨d, s, job, ns, tl, n, as, an, rfl, D, ⟨st, hj, hst, hs, la⟩, ne, hsm, q⟩ := h
  have nd := sc_changed.nd
  have hr4 : Room 4 _ := hr
  have hr3 : Room 3 _ := hr.mono (by decide)
  have hu64 : _ + 64 < cLine := hr.units
  refine ⟨_, pss_cons (ps_par (i := 2) (j := 3) rfl nd rfl rfl (by decide) rfl rfl (pa_cons (pe_fn G_law_next hr3 (pa_cons (pv 0) (pa_cons (pe_callB call_len_seq (by rfl) m_len PySem.boot_len (pa_cons (pe_ix ix_tup (pv 1) pe_int (fun _ _ => rfl)) pa_nil)) pa_nil))) (pa_cons (pe_callTy call_list_of (by rfl) m_list PyProof.Rows.boot_list (pa_cons (pe_ix ix_tup (pv 1) pe_int (fun _ _ => rfl)) pa_nil)) pa_nil)) rfl)
      (pss_cons (ps_asg (pe_ix (show IxR _ (rIxL K) from ix_list) (pv 3) (pv 2) (fun _ _ => rfl)) (pg_tup rfl (pgs_cons (pg_name (i := 4) nd rfl (.inl rfl)) (pgs_cons (pg_name (i := 5) nd rfl (.inl rfl)) (pgs_cons (pg_name (i := 6) nd rfl (.inl rfl)) (pgs_cons (pg_name (i := 7) nd rfl (.inl rfl)) pgs_nil))))))
      (pss_cons (ps_set (i := 8) nd rfl (.inl rfl) (pe_fn G_law_pick hr4 (pa_cons (pv 0) (pa_cons (pe_lst (pa_cons pe_str (pa_cons pe_str (pa_cons pe_str (pa_cons pe_str (pa_cons pe_str (pa_cons pe_str pa_nil))))))) pa_nil))))
      (pss_cons (ps_set (i := 9) nd rfl (.inl rfl) (pe_fn G_law_next hr3 (pa_cons (pv 0) (pa_cons pe_int pa_nil))))
      (C8.pss_cut (ps_if (pt_cmpR op_eq (pv 9) pe_int (nomark _)) (pss_one (ps_asg (pe_tup (pa_cons (pv 8) (pa_cons (pv 5) (pa_cons (pv 6) (pa_cons (pv 7) pa_nil))))) (pg_sub (pv 3) (pv 2) set_list))) (pss_one (ps_if (PW.pt (pw_and (pt_cmpR op_eq (pv 9) pe_int (nomark _)) (pw_and1 (pt_cmpR (op_neD hu64) (pv 6) (pe_tup pa_nil) (nomark _))))) (pss_cons (ps_set (i := 10) nd rfl (.inl rfl) (pe_ifExp (PW.pt (pw_or (pt_cmpR op_eq (pe_callB call_len_seq (by rfl) m_len PySem.boot_len (pa_cons (pv 6) pa_nil)) pe_int (nomark _)) (pw_or1 (pt_cmpR op_eq (pe_fn G_law_next hr3 (pa_cons (pv 0) (pa_cons pe_int pa_nil))) pe_int (nomark _))))) (pe_op op_catA (pe_tup (pa_cons (pv 8) pa_nil)) (pe_slice sl_tupA (pv 6) (po_some pe_int) po_none)) (pe_op op_catA (pe_slice sl_tupA (pv 6) po_none (po_some pe_int)) (pe_tup (pa_cons (pv 8) pa_nil)))))
      (pss_one (ps_asg (pe_tup (pa_cons (pv 4) (pa_cons (pv 5) (pa_cons (pv 10) (pa_cons (pv 7) pa_nil))))) (pg_sub (pv 3) (pv 2) set_list)))) (pss_one (ps_if (pt_cmpR op_eq (pv 9) pe_int (nomark _)) (pss_one (ps_ret (pe_tup (pa_cons (pe_callTy call_tuple_of (by rfl) m_tuple PyProof.Rows.boot_tuple (pa_cons (pv 3) pa_nil)) (pa_cons (pv 8) pa_nil))))) (pss_one (ps_if (PW.pt (pw_and (pt_cmpR op_eq (pv 9) pe_int (nomark _)) (pw_and1 (pt_cmpR op_eq (pv 5) pe_str (nomark _))))) (pss_one (ps_asg (pe_tup (pa_cons (pv 4) (pa_cons (pv 5) (pa_cons (pv 6) (pa_cons (pe_tup (pa_cons pe_str (pa_cons (pe_fn G_law_pick hr4 (pa_cons (pv 0) (pa_cons (pe_lst (pa_cons pe_str (pa_cons pe_str (pa_cons pe_str pa_nil)))) pa_nil))) (pa_cons (pe_tup (pa_cons pe_str (pa_cons (pe_fn G_law_pick hr4 (pa_cons (pv 0) (pa_cons (pe_lst (pa_cons pe_str (pa_cons pe_str pa_nil))) pa_nil))) pa_nil))) (pa_cons (pv 7) pa_nil))))) pa_nil))))) (pg_sub (pv 3) (pv 2) set_list))) (pss_one (ps_if (pt_cmpR op_eq (pv 9) pe_int (nomark _)) (pss_one (ps_set (i := 3) nd rfl (.inl rfl) (pe_op op_cat (pe_slice (show SlR _ (rSlL K) from sl_list) (pv 3) po_none (po_some (pv 2))) (pe_slice (show SlR _ (rSlL K) from sl_list) (pv 3) (po_some (pe_op op_add (pv 2) pe_int)) po_none)))) (pss_one (ps_if (pt_cmpR op_eq (pv 5) pe_str (nomark _)) (pss_one (ps_asg (pe_tup (pa_cons (pv 4) (pa_cons (pv 5) (pa_cons (pv 6) (pa_cons (pe_op op_catA (pv 7) (pe_tup (pa_cons (pe_tup (pa_cons (pe_tup (pa_cons pe_str (pa_cons (pv 8) pa_nil))) (pa_cons (pe_fn G_law_pick hr4 (pa_cons (pv 0) (pa_cons (pe_lst (pa_cons pe_str (pa_cons pe_str pa_nil))) pa_nil))) pa_nil))) pa_nil))) pa_nil))))) (pg_sub (pv 3) (pv 2) set_list))) (pss_one (ps_if (pt_cmpR op_eq (pv 5) pe_str (nomark _)) (pss_one (ps_asg (pe_tup (pa_cons (pv 4) (pa_cons (pv 5) (pa_cons (pv 6) (pa_cons (pe_tup (pa_cons (pe_ix ix_tup (pv 7) pe_int (fun _ _ => rfl)) (pa_cons (pe_op op_catA (pe_ix ix_tup (pv 7) pe_int (fun _ _ => rfl)) (pe_tup (pa_cons (pe_tup (pa_cons (pe_fn G_law_pick hr4 (pa_cons (pv 0) (pa_cons (pe_lst (pa_cons pe_str (pa_cons pe_str pa_nil))) pa_nil))) (pa_cons (pe_tup (pa_cons pe_str (pa_cons pe_str pa_nil))) (pa_cons pe_str pa_nil)))) pa_nil))) pa_nil))) pa_nil))))) (pg_sub (pv 3) (pv 2) set_list))) (pss_nil))))))))))))))
      (pss_one (ps_ret (pe_tup (pa_cons (pe_callTy call_tuple_of (by rfl) m_tuple PyProof.Rows.boot_tuple (pa_cons (pv 3) pa_nil)) (pa_cons (pe_ix ix_tup (pv 1) pe_int (fun _ _ => rfl)) pa_nil))))))))), ?_⟩
  have z4 : 4 ≤ sizeLine := by decide
  have z2 : 2 ≤ sizeLine := by decide
  have kT : ∀ {G : Hp}, But d H G → KeepT H G := fun b a xs e => b a _ (fun z => by rw [z, D.at_d] at e; cases e) e
  have kF : ∀ {G : Hp}, But d H G → KeepF H G := fun b a xs ⟨o, dn, e⟩ => ⟨o, dn, b a _ (fun z => by rw [z, D.at_d] at e; cases e) e⟩
  have lpos : 0 < as.length := List.length_pos_iff.mpr ne
  refine ⟨_, rfl, _, rfl, job, _, 0, _, rfl, rfl, SqT.of hj, rfl, st, _, rfl, .inr (SqT.of hst), d, s, ns, tl, n, ((as.map fun p => V.ref p.1).length : Nat), rfl, D, by rw [List.length_map]; omega, fun r H1 r0 r1 b1 D1 => ?_⟩
  obtain ⟨i, rfl⟩ : ∃ i : Nat, r = i := ⟨r.toNat, (Int.toNat_of_nonneg r0).symm⟩
  have hi : i < as.length := by
    rw [List.length_map] at r1
    omega
  obtain ⟨pa, hpi⟩ : ∃ pa, as[i]? = some pa := ⟨as[i], List.getElem?_eq_getElem hi⟩
  obtain ⟨pa, s'⟩ := pa
  have pm := List.mem_of_getElem? hpi
  refine ⟨_, rfl, job, _, 0, _, rfl, rfl, SqT.of (kT b1 _ _ hj), rfl, st, _, rfl, .inr (SqT.of (kT b1 _ _ hst)), fun L hL => ?_⟩
  have nLd : L ≠ d := fun z => by
    rw [z, D1.at_d] at hL
    cases hL
  have hLH : H L = none := by
    cases e : H L with
    | none => rfl
    | some o =>
      rw [b1 _ _ nLd e] at hL
      cases hL
  have eL : upd H1 L (.lst (as.map fun p => .ref p.1)) L = some (.lst (as.map fun p => .ref p.1)) := upd_same
  have b2 := b1.trans (same_but (d := d) (same_upd (o := .lst (as.map fun p => .ref p.1)) hL))
  have D2 := D1.keep (same_upd (o := .lst (as.map fun p => .ref p.1)) hL)
  generalize upd H1 L (.lst (as.map fun p => .ref p.1)) = H2 at eL b2 D2 ⊢
  clear b1 D1
  obtain ⟨inp, dv, x1, x2, x3⟩ := id (hs _ pm).1
  obtain ⟨hlaw, hcount⟩ := (hs _ pm).2
  obtain ⟨hins, hsmall⟩ := hsm _ pm
  obtain ⟨nm', ins', det'⟩ := s'
  dsimp only at x1 x2 x3 hlaw hcount hins hsmall
  refine ⟨_, _, rfl, _, rfl, _, rfl, L, _, i, _, rfl, rfl, SqL.of eL, atI_nat (by rw [List.getElem?_map, hpi]; rfl), pa, _, rfl, SqT.of (kT b2 _ _ x1), rfl, _, _, rfl, _, _, rfl, _, _, rfl, _, _, rfl, rfl, ?_⟩
  refine ⟨_, rfl, by show 6 ≤ sizeLine; decide, fun pl hpl => ?_⟩
  have u3 := same_upd (o := .lst [.str "a", .str "b", .str "s0", .str "s1", .str "s9", .str "k"]) hpl
  have D3 := D2.keep u3
  refine ⟨d, s, pl, ns, tl, _, _, rfl, D3, (ne_of_none D2.at_d hpl).symm, .inl (SqL.of upd_same), (by intro z; cases z), fun v H4 hv b4 D4 => ?_⟩
  obtain ⟨o, rfl⟩ : ∃ o : Str, v = .str o := by
    simp only [List.mem_cons, List.not_mem_nil, or_false] at hv
    rcases hv with rfl | rfl | rfl | rfl | rfl | rfl <;> exact ⟨_, rfl⟩
  have eL4 := b4 _ _ nLd (u3 _ _ eL)
  have b04 := (b2.trans (same_but u3)).trans b4
  clear D3 b4
  refine ⟨_, rfl, d, s, ns, tl, _, 6, rfl, D4, by decide, fun kd H5 kd0 kd6 b5 D5 => ?_⟩
  have eL5 := b5 _ _ nLd eL4
  have b05 := b04.trans b5
  clear u3 hpl hv D4 b5 eL4 D2 eL b04 b2
  generalize n + 1 + 1 + 1 = n5 at D5
  have R5 : RunC H H5 d s L ns tl (as.map fun p => .ref p.1) := ⟨b05, ⟨_, D5⟩, eL5, nLd, hLH⟩
  have X5 : H5 pa = some (.tup [.str nm', .str det'.what, .ref inp, dv]) ∧ H5 inp = some (.tup (ins'.map V.str)) ∧ DetAt H5 dv det' := ⟨kT b05 _ _ x1, kT b05 _ _ x2, x3.keep (kT b05) (kF b05)⟩
  clear b05 D5 eL5
  refine ⟨MidH H d s job ns tl, ?_, ?_⟩
  · refine ⟨_, rfl, rfl, _, rfl, ite2 (fun c => ?_) (fun c0 => ?_)⟩
    · refine ⟨_, rfl, _, rfl, _, rfl, _, rfl, z4, fun T hT => ?_⟩
      have u := same_upd (o := .tup [.str o, .str det'.what, .ref inp, dv]) hT
      refine ⟨_, rfl, _, rfl, L, _, _, i, rfl, rfl, (R5.new hT).eL, ixN_nat (by rw [List.length_map]; exact hi), ?_⟩
      exact MidH.put (s' := ⟨o, ins', det'⟩) (R5.new hT) D hs la ⟨inp, dv, upd_same, u _ _ X5.2.1, X5.2.2.keep (same_t u) (same_f u)⟩ ⟨hlaw, hcount⟩
    refine ⟨_, rfl, rfl, _, rfl, ite2 (fun c1 => ?_) (fun c1 => ?_)⟩
    · refine ⟨_, rfl, by show 0 ≤ sizeLine; decide, fun tp htp => ?_⟩
      have R6 := R5.new (o := .tup []) htp
      have u6 := same_upd (o := .tup []) htp
      have sh := sh_names (xs := ins') fun x hx => big_ok _ (hins x hx)
      refine ⟨.tuple (ins'.map .str), .tuple [], .tup (SqT.of (u6 _ _ X5.2.1)) (dp_names _), .tup (SqT.of upd_same) .nil, sh, by decide, _, rfl, ?_⟩
      have X6 : upd H5 tp (.tup []) inp = some (.tup (ins'.map V.str)) ∧ DetAt (upd H5 tp (.tup [])) dv det' := ⟨u6 _ _ X5.2.1, X5.2.2.keep (same_t u6) (same_f u6)⟩
      have X6a := u6 _ _ X5.1
      generalize upd H5 tp (.tup []) = H6 at R6 X6 X6a ⊢
      have l2 : ins'.length ≤ 2 := by
        have h := hlaw.2.2
        dsimp only at h
        rw [h]
        cases det' <;> first | exact Nat.le_refl 2 | exact Nat.le_succ 1 | exact Nat.zero_le 2
      match ins', hins, hlaw, X6, sh, l2 with
      | [], hins, hlaw, X6, sh, l2 =>
        refine iteF ?_
        have k1 : kd = 1 := by
          have h := of_decide_eq_true c1
          injection h
        subst k1
        cases det' with
        | read cs =>
          refine ⟨_, rfl, rfl, _, rfl, iteF ⟨_, rfl, rfl, _, rfl, iteF ⟨_, rfl, rfl, _, rfl, iteF ⟨_, rfl, rfl, _, rfl, iteF ⟨_, rfl, rfl, _, rfl, iteF ?_⟩⟩⟩⟩⟩
          exact ⟨L, as, _, _, _, _, _, _, _, _, rfl, R6, fun p hp => ⟨(hs p hp).1.keep (kT R6.b) (kF R6.b), (hs p hp).2⟩, la⟩
        | _ => exact absurd hlaw.2.2 (by intro z; cases z)
      | [x], hins, hlaw, X6, sh, l2 =>
        refine iteT ?_
        refine ⟨_, rfl, inp, _, rfl, .inr (SqT.of X6.1), rfl, _, rfl, iteT ?_⟩
        refine ⟨_, rfl, by show 1 ≤ sizeLine; decide, fun p1 hp1 => ?_⟩
        have R7 := R6.new (o := .tup [.str o]) hp1
        have u7 := same_upd (o := .tup [.str o]) hp1
        refine ⟨_, rfl, _, rfl, inp, _, rfl, SqT.of (u7 _ _ X6.1), fun z => absurd z.1 (show ¬ HT.sIx 1 0 (some 1) = 0 by decide +kernel), fun _ p2 hp2 => ?_⟩
        have R8 := R7.new (o := .tup (cutV [V.str x] (some 1) none)) hp2
        have u8 := same_upd (o := .tup (cutV [V.str x] (some 1) none)) hp2
        refine ⟨p1, p2, _, _, rfl, rfl, SqT.of (u8 _ _ upd_same), SqT.of upd_same, by show 1 ≤ sizeLine; decide, fun z => (by cases z), fun _ _ => ?_, fun _ z => absurd rfl z⟩
        have u78 := u7.trans u8
        refine ⟨_, rfl, _, rfl, _, rfl, _, rfl, z4, fun T hT => ?_⟩
        have uT := same_upd (o := .tup [.str nm', .str det'.what, .ref p1, dv]) hT
        refine ⟨_, rfl, _, rfl, L, _, _, i, rfl, rfl, (R8.new hT).eL, ixN_nat (by rw [List.length_map]; exact hi), ?_⟩
        exact MidH.put (s' := ⟨nm', [o], det'⟩) (R8.new hT) D hs la ⟨p1, dv, upd_same, uT _ _ (u8 _ _ upd_same), (X6.2.keep (same_t u78) (same_f u78)).keep (same_t uT) (same_f uT)⟩ ⟨⟨hlaw.1, hlaw.2.1, hlaw.2.2⟩, hcount⟩
      | [x, y], hins, hlaw, X6, sh, l2 =>
        refine iteT ?_
        refine ⟨_, rfl, inp, _, rfl, .inr (SqT.of X6.1), rfl, _, rfl, iteF ?_⟩
        obtain ⟨n6, D6⟩ := R6.dr
        refine ⟨_, rfl, d, s, ns, tl, _, 2, rfl, D6, by decide, fun r7 H7 q0 q1 b7 D7 => ?_⟩
        have R7 := R6.go b7 D7
        have k7 := b7.tup D6.at_d
        have k7f := b7.tupF D6.at_d
        refine ⟨rfl, _, rfl, ite2 (fun cc => ?_) (fun cc => ?_)⟩
        · refine ⟨_, rfl, by show 1 ≤ sizeLine; decide, fun p1 hp1 => ?_⟩
          have R8 := R7.new (o := .tup [.str o]) hp1
          have u8 := same_upd (o := .tup [.str o]) hp1
          refine ⟨_, rfl, _, rfl, inp, _, rfl, SqT.of (u8 _ _ (k7 _ _ X6.1)), fun z => absurd z.1 (show ¬ HT.sIx 2 0 (some 1) = 0 by decide +kernel), fun _ p2 hp2 => ?_⟩
          have R9 := R8.new (o := .tup (cutV [V.str x, V.str y] (some 1) none)) hp2
          have u9 := same_upd (o := .tup (cutV [V.str x, V.str y] (some 1) none)) hp2
          refine ⟨p1, p2, _, _, rfl, rfl, SqT.of (u9 _ _ upd_same), SqT.of upd_same, by show 2 ≤ sizeLine; decide, fun z => (by cases z), fun _ z => (by cases z), fun _ _ p3 hp3 => ?_⟩
          have R10 := R9.new (o := .tup [.str o, .str y]) hp3
          have u10 := same_upd (o := .tup [.str o, .str y]) hp3
          have u810 := (u8.trans u9).trans u10
          refine ⟨_, rfl, _, rfl, _, rfl, _, rfl, z4, fun T hT => ?_⟩
          have uT := same_upd (o := .tup [.str nm', .str det'.what, .ref p3, dv]) hT
          refine ⟨_, rfl, _, rfl, L, _, _, i, rfl, rfl, (R10.new hT).eL, ixN_nat (by rw [List.length_map]; exact hi), ?_⟩
          exact MidH.put (s' := ⟨nm', [o, y], det'⟩) (R10.new hT) D hs la ⟨p3, dv, upd_same, uT _ _ (upd_same), ((X6.2.keep k7 k7f).keep (same_t u810) (same_f u810)).keep (same_t uT) (same_f uT)⟩ ⟨⟨hlaw.1, hlaw.2.1, hlaw.2.2⟩, hcount⟩
        · refine ⟨_, rfl, _, rfl, inp, _, rfl, SqT.of (k7 _ _ X6.1), fun z => absurd z.2 (show ¬ HT.sIx 2 2 (some 1) = 2 by decide +kernel), fun _ p2 hp2 => ?_⟩
          have R8 := R7.new (o := .tup (cutV [V.str x, V.str y] none (some 1))) hp2
          have u8 := same_upd (o := .tup (cutV [V.str x, V.str y] none (some 1))) hp2
          refine ⟨_, rfl, by show 1 ≤ sizeLine; decide, fun p1 hp1 => ?_⟩
          have R9 := R8.new (o := .tup [.str o]) hp1
          have u9 := same_upd (o := .tup [.str o]) hp1
          refine ⟨p2, p1, _, _, rfl, rfl, SqT.of (u9 _ _ upd_same), SqT.of upd_same, by show 2 ≤ sizeLine; decide, fun z => (by cases z), fun _ z => (by cases z), fun _ _ p3 hp3 => ?_⟩
          have R10 := R9.new (o := .tup [.str x, .str o]) hp3
          have u10 := same_upd (o := .tup [.str x, .str o]) hp3
          have u810 := (u8.trans u9).trans u10
          refine ⟨_, rfl, _, rfl, _, rfl, _, rfl, z4, fun T hT => ?_⟩
          have uT := same_upd (o := .tup [.str nm', .str det'.what, .ref p3, dv]) hT
          refine ⟨_, rfl, _, rfl, L, _, _, i, rfl, rfl, (R10.new hT).eL, ixN_nat (by rw [List.length_map]; exact hi), ?_⟩
          exact MidH.put (s' := ⟨nm', [x, o], det'⟩) (R10.new hT) D hs la ⟨p3, dv, upd_same, uT _ _ (upd_same), ((X6.2.keep k7 k7f).keep (same_t u810) (same_f u810)).keep (same_t uT) (same_f uT)⟩ ⟨⟨hlaw.1, hlaw.2.1, hlaw.2.2⟩, hcount⟩
    refine ⟨_, rfl, rfl, _, rfl, ite2 (fun c2 => ?_) (fun c2 => ?_)⟩
    · refine ⟨_, rfl, L, _, rfl, .inl ⟨SqL.of R5.eL, fun t ht => ?_⟩⟩
      have R6 := R5.new (o := .tup (as.map fun p => .ref p.1)) ht
      refine ⟨_, rfl, z2, fun r hr => ?_⟩
      have R7 := R6.new (o := .tup [.ref t, .str o]) hr
      have u2 := same_upd (o := .tup [.ref t, .str o]) hr
      obtain ⟨n', D'⟩ := R7.dr
      exact q r as o n' _ ⟨t, upd_same, u2 _ _ upd_same, fun p hp => ⟨(hs p hp).1.keep (kT R7.b) (kF R7.b), (hs p hp).2⟩, la⟩ R7.b D'
    by_cases k4 : kd = 4
    · subst k4
      refine ⟨_, rfl, rfl, _, rfl, iteF ⟨_, rfl, rfl, _, rfl, iteT ?_⟩⟩
      refine ⟨_, rfl, _, rfl, _, rfl, L, _, rfl, SqL.of R5.eL, fun p1 hp1 => ?_⟩
      have R6 := R5.new (o := .lst (cutV (as.map fun p => V.ref p.1) none (some (i : Int)))) hp1
      have v6 : upd H5 p1 (.lst (cutV (as.map fun p => V.ref p.1) none (some (i : Int)))) p1 = some (.lst ((as.take i).map fun p => V.ref p.1)) := by
        rw [upd_same, cut_nat, List.map_take]
      generalize upd H5 p1 (.lst (cutV (as.map fun p => V.ref p.1) none (some (i : Int)))) = H6 at R6 v6 ⊢
      refine ⟨_, rfl, _, rfl, _, _, rfl, rfl, _, rfl, L, _, rfl, SqL.of R6.eL, fun p2 hp2 => ?_⟩
      have R7 := R6.new (o := .lst (cutV (as.map fun p => V.ref p.1) (some ((i : Int) + 1)) none)) hp2
      have v7 : upd H6 p2 (.lst (cutV (as.map fun p => V.ref p.1) (some ((i : Int) + 1)) none)) p2 = some (.lst ((as.drop (i + 1)).map fun p => V.ref p.1)) := by
        have e : ((i : Int) + 1) = ((i + 1 : Nat) : Int) := rfl
        rw [upd_same, e, drop_cutJ, List.map_drop]
      have v6' := same_upd (o := .lst (cutV (as.map fun p => V.ref p.1) (some ((i : Int) + 1)) none)) hp2 _ _ v6
      generalize upd H6 p2 (.lst (cutV (as.map fun p => V.ref p.1) (some ((i : Int) + 1)) none)) = H7 at R7 v6' v7 ⊢
      refine ⟨p1, p2, _, _, rfl, rfl, v6', v7, Nat.le_trans (show _ ≤ 200 by rw [List.length_map, List.length_map, List.length_take, List.length_drop]; omega) (by decide), fun p hp => ?_⟩
      have R8 := R7.new (o := .lst ((as.take i).map (fun p => V.ref p.1) ++ (as.drop (i + 1)).map fun p => V.ref p.1)) hp
      have hpH : H p = none := by
        cases e : H p with
        | none => rfl
        | some o =>
          by_cases z : p = d
          · obtain ⟨_, D'⟩ := R7.dr
            rw [z, D'.at_d] at hp
            cases hp
          · rw [R7.b _ _ z e] at hp
            cases hp
      have npd : p ≠ d := fun z => by
        obtain ⟨_, D'⟩ := R7.dr
        rw [z, D'.at_d] at hp
        cases hp
      have sub : ∀ x ∈ as.take i ++ as.drop (i + 1), x ∈ as := fun x hx => by
        rcases List.mem_append.mp hx with hx | hx
        · exact List.mem_of_mem_take hx
        · exact List.mem_of_mem_drop hx
      exact ⟨p, as.take i ++ as.drop (i + 1), _, _, _, _, _, _, _, _, rfl, ⟨R8.b, R8.dr, by rw [upd_same, List.map_append], npd, hpH⟩, fun x hx => ⟨(hs x (sub x hx)).1.keep (kT R8.b) (kF R8.b), (hs x (sub x hx)).2⟩, by rw [List.length_append, List.length_take, List.length_drop]; omega⟩
    have n4 : ¬ V.int kd = V.int 4 := fun z => k4 (by injection z)
    cases det' with
    | read cs =>
      refine ⟨_, rfl, rfl, _, rfl, ite2 (fun c3 => ⟨_, rfl, rfl, _, rfl, iteF ?_⟩) (fun c3 => ?_)⟩
      all_goals
        refine ⟨_, rfl, rfl, _, rfl, ite2 (fun c => absurd (of_decide_eq_true c) n4) (fun _ => ?_)⟩
        refine ⟨_, rfl, rfl, _, rfl, iteF ⟨_, rfl, rfl, _, rfl, iteF ?_⟩⟩
        exact ⟨L, as, _, _, _, _, _, _, _, _, rfl, R5, fun p hp => ⟨(hs p hp).1.keep (kT R5.b) (kF R5.b), (hs p hp).2⟩, la⟩
    | join ks =>
      refine ⟨_, rfl, rfl, _, rfl, ite2 (fun c3 => ⟨_, rfl, rfl, _, rfl, iteF ?_⟩) (fun c3 => ?_)⟩
      all_goals
        refine ⟨_, rfl, rfl, _, rfl, ite2 (fun c => absurd (of_decide_eq_true c) n4) (fun _ => ?_)⟩
        refine ⟨_, rfl, rfl, _, rfl, iteF ⟨_, rfl, rfl, _, rfl, iteF ?_⟩⟩
        exact ⟨L, as, _, _, _, _, _, _, _, _, rfl, R5, fun p hp => ⟨(hs p hp).1.keep (kT R5.b) (kF R5.b), (hs p hp).2⟩, la⟩
    | union =>
      refine ⟨_, rfl, rfl, _, rfl, ite2 (fun c3 => ⟨_, rfl, rfl, _, rfl, iteF ?_⟩) (fun c3 => ?_)⟩
      all_goals
        refine ⟨_, rfl, rfl, _, rfl, ite2 (fun c => absurd (of_decide_eq_true c) n4) (fun _ => ?_)⟩
        refine ⟨_, rfl, rfl, _, rfl, iteF ⟨_, rfl, rfl, _, rfl, iteF ?_⟩⟩
        exact ⟨L, as, _, _, _, _, _, _, _, _, rfl, R5, fun p hp => ⟨(hs p hp).1.keep (kT R5.b) (kF R5.b), (hs p hp).2⟩, la⟩
    | unlike =>
      refine ⟨_, rfl, rfl, _, rfl, ite2 (fun c3 => ⟨_, rfl, rfl, _, rfl, iteF ?_⟩) (fun c3 => ?_)⟩
      all_goals
        refine ⟨_, rfl, rfl, _, rfl, ite2 (fun c => absurd (of_decide_eq_true c) n4) (fun _ => ?_)⟩
        refine ⟨_, rfl, rfl, _, rfl, iteF ⟨_, rfl, rfl, _, rfl, iteF ?_⟩⟩
        exact ⟨L, as, _, _, _, _, _, _, _, _, rfl, R5, fun p hp => ⟨(hs p hp).1.keep (kT R5.b) (kF R5.b), (hs p hp).2⟩, la⟩
    | sort ws m =>
      refine ⟨_, rfl, rfl, _, rfl, ite2 (fun c3 => ⟨_, rfl, rfl, _, rfl, iteF ?_⟩) (fun c3 => ?_)⟩
      all_goals
        refine ⟨_, rfl, rfl, _, rfl, ite2 (fun c => absurd (of_decide_eq_true c) n4) (fun _ => ?_)⟩
        refine ⟨_, rfl, rfl, _, rfl, iteF ⟨_, rfl, rfl, _, rfl, iteF ?_⟩⟩
        exact ⟨L, as, _, _, _, _, _, _, _, _, rfl, R5, fun p hp => ⟨(hs p hp).1.keep (kT R5.b) (kF R5.b), (hs p hp).2⟩, la⟩
    | filter e =>
      refine ⟨_, rfl, rfl, _, rfl, ite2 (fun c3 => ⟨_, rfl, rfl, _, rfl, iteT ?_⟩) (fun c3 => ?_)⟩
      · obtain ⟨n6, D6⟩ := R5.dr
        have de : e.dep ≤ 11 := hsmall
        refine ⟨_, rfl, _, rfl, _, rfl, _, rfl, by show 3 ≤ sizeLine; decide, fun pl hpl => ?_⟩
        have upl := same_upd (o := .lst [.str "=", .str "+", .str "and"]) hpl
        refine ⟨d, s, pl, ns, tl, _, _, rfl, D6.keep upl, (ne_of_none D6.at_d hpl).symm, .inl (SqL.of upd_same), (by intro z; cases z), fun v H7 hv b7 D7 => ?_⟩
        have R7 := (R5.new (o := .lst [.str "=", .str "+", .str "and"]) hpl).go b7 D7
        have kR7 : KeepT H5 H7 := fun a xs e => b7.tup (D6.keep upl).at_d _ _ (upl _ _ e)
        have fR7 : KeepF H5 H7 := fun a xs e => b7.tupF (D6.keep upl).at_d _ _ (same_f upl _ _ e)
        obtain ⟨op, rfl, hop⟩ : ∃ op : Str, v = .str op ∧ (op ∈ cmps ∨ op ∈ ops2) := by
          simp only [List.mem_cons, List.not_mem_nil, or_false] at hv
          rcases hv with rfl | rfl | rfl
          · exact ⟨_, rfl, .inl (by decide +kernel)⟩
          · exact ⟨_, rfl, .inr (by decide +kernel)⟩
          · exact ⟨_, rfl, .inr (by decide +kernel)⟩
        refine ⟨_, rfl, z2, fun pm2 hpm2 => ?_⟩
        have upm2 := same_upd (o := .lst [.str "k", .str "t"]) hpm2
        refine ⟨d, s, pm2, ns, tl, _, _, rfl, D7.keep upm2, (ne_of_none D7.at_d hpm2).symm, .inl (SqL.of upd_same), (by intro z; cases z), fun v2 H9 hv2 b9 D9 => ?_⟩
        have R9 := (R7.new (o := .lst [.str "k", .str "t"]) hpm2).go b9 D9
        have kR9 : KeepT H7 H9 := fun a xs e => b9.tup (D7.keep upm2).at_d _ _ (upm2 _ _ e)
        have fR9 : KeepF H7 H9 := fun a xs e => b9.tupF (D7.keep upm2).at_d _ _ (same_f upm2 _ _ e)
        obtain ⟨x, rfl⟩ : ∃ x : Str, v2 = .str x := by
          simp only [List.mem_cons, List.not_mem_nil, or_false] at hv2
          rcases hv2 with rfl | rfl <;> exact ⟨_, rfl⟩
        refine ⟨z2, fun ct hct => ?_⟩
        have R10 := R9.new (o := .tup [.str "column", .str x]) hct
        have u10 := same_upd (o := .tup [.str "column", .str x]) hct
        refine ⟨_, rfl, z4, fun t2 ht2 => ?_⟩
        have R11 := R10.new (o := .tup [.str "two", .str op, .ref ct, dv]) ht2
        have u11 := same_upd (o := .tup [.str "two", .str op, .ref ct, dv]) ht2
        refine ⟨z4, fun T hT => ?_⟩
        have uT := same_upd (o := .tup [.str nm', .str (Det.filter e).what, .ref inp, .ref t2]) hT
        have u911 := (u10.trans u11).trans uT
        have kA : KeepT H5 _ := fun a xs z => u911 a _ (kR9 a xs (kR7 a xs z))
        refine ⟨_, rfl, _, rfl, L, _, _, i, rfl, rfl, (R11.new hT).eL, ixN_nat (by rw [List.length_map]; exact hi), ?_⟩
        exact MidH.put (s' := ⟨nm', ins', .filter (.two op (.col x) e)⟩) (R11.new hT) D hs la ⟨inp, _, upd_same, uT _ _ (u11 _ _ (u10 _ _ (kR9 _ _ (kR7 _ _ X5.2.1)))), ⟨t2, .ref ct, dv, rfl, uT _ _ upd_same, ⟨ct, rfl, uT _ _ (u11 _ _ upd_same)⟩, ExAt.keep kA X5.2.2⟩⟩ ⟨⟨⟨⟨hop, trivial, hlaw.1.1⟩, by show max 1 e.dep + 1 ≤ 12; omega⟩, trivial, hlaw.2.2⟩, fun ks fs z => by cases z⟩
      · refine ⟨_, rfl, rfl, _, rfl, ite2 (fun c => absurd (of_decide_eq_true c) n4) (fun _ => ?_)⟩
        refine ⟨_, rfl, rfl, _, rfl, iteF ⟨_, rfl, rfl, _, rfl, iteF ?_⟩⟩
        exact ⟨L, as, _, _, _, _, _, _, _, _, rfl, R5, fun p hp => ⟨(hs p hp).1.keep (kT R5.b) (kF R5.b), (hs p hp).2⟩, la⟩
    | map ms =>
      refine ⟨_, rfl, rfl, _, rfl, ite2 (fun c3 => ⟨_, rfl, rfl, _, rfl, iteF ?_⟩) (fun c3 => ?_)⟩
      all_goals
        refine ⟨_, rfl, rfl, _, rfl, ite2 (fun c => absurd (of_decide_eq_true c) n4) (fun _ => ?_)⟩
        refine ⟨_, rfl, rfl, _, rfl, iteT ?_⟩
        obtain ⟨t, ps, rfl, h1, h2, rfl⟩ := id X5.2.2
        have lm : ps.length ≤ 99 := by
          have h : (ps.map (·.2)).length ≤ 99 := hsmall
          rw [List.length_map] at h
          exact h
        refine ⟨_, rfl, _, rfl, _, rfl, _, rfl, _, rfl, z2, fun c1 hc1 => ?_⟩
        have R6 := R5.new (o := .tup [.str "column", .str o]) hc1
        have u6 := same_upd (o := .tup [.str "column", .str o]) hc1
        have e6 : upd H5 c1 (.tup [.str "column", .str o]) c1 = some (.tup [.str "column", .str o]) := upd_same
        generalize upd H5 c1 (.tup [.str "column", .str o]) = H6 at R6 u6 e6 ⊢
        obtain ⟨n6, D6⟩ := R6.dr
        refine ⟨_, rfl, z2, fun pl hpl => ?_⟩
        have upl := same_upd (o := .lst [.str "k", .str "z"]) hpl
        refine ⟨d, s, pl, ns, tl, _, _, rfl, D6.keep upl, (ne_of_none D6.at_d hpl).symm, .inl (SqL.of upd_same), (by intro z; cases z), fun v H7 hv b7 D7 => ?_⟩
        have R7 := (R6.new (o := .lst [.str "k", .str "z"]) hpl).go b7 D7
        have kR7 : KeepT H6 H7 := fun a xs e => b7.tup (D6.keep upl).at_d _ _ (upl _ _ e)
        have fR7 : KeepF H6 H7 := fun a xs e => b7.tupF (D6.keep upl).at_d _ _ (same_f upl _ _ e)
        obtain ⟨z, rfl, hz⟩ : ∃ z : Str, v = .str z ∧ z ∈ bigN := by
          simp only [List.mem_cons, List.not_mem_nil, or_false] at hv
          rcases hv with rfl | rfl
          · exact ⟨_, rfl, by decide +kernel⟩
          · exact ⟨_, rfl, by decide +kernel⟩
        refine ⟨z2, fun c2 hc2 => ?_⟩
        have R8 := R7.new (o := .tup [.ref c1, .str z]) hc2
        have u8 := same_upd (o := .tup [.ref c1, .str z]) hc2
        refine ⟨by show 1 ≤ sizeLine; decide, fun c3 hc3 => ?_⟩
        have R9 := R8.new (o := .tup [.ref c2]) hc3
        have u9 := same_upd (o := .tup [.ref c2]) hc3
        have e9 : upd (upd H7 c2 (.tup [.ref c1, .str z])) c3 (.tup [.ref c2]) c3 = some (.tup [.ref c2]) := upd_same
        have e8 := u9 _ _ (upd_same (H := H7) (a := c2) (o := .tup [.ref c1, .str z]))
        have k9 : KeepT H5 (upd (upd H7 c2 (.tup [.ref c1, .str z])) c3 (.tup [.ref c2])) := fun a xs e => u9 _ _ (u8 _ _ (kR7 _ _ (u6 _ _ e)))
        have e1 := u9 _ _ (u8 _ _ (kR7 _ _ e6))
        generalize upd (upd H7 c2 (.tup [.ref c1, .str z])) c3 (.tup [.ref c2]) = H9 at R9 e9 e8 k9 e1 ⊢
        have ok : LawOk ⟨nm', ins', .map (ps.map (·.2) ++ [(.col o, true, z)])⟩ := by
          refine ⟨⟨⟨by rw [List.length_append, List.length_map]; exact Nat.succ_le_succ lm, fun m hm => ?_⟩, fun m hm => ?_, hlaw.2.2⟩, fun ks fs z => by cases z⟩
          · rcases List.mem_append.mp hm with hm | hm
            · exact hlaw.1.2 m hm
            · rw [List.mem_singleton.mp hm]
              exact ⟨trivial, by show (1 : Nat) ≤ 12; decide⟩
          · rcases List.mem_append.mp hm with hm | hm
            · exact hlaw.2.1 m hm
            · rw [List.mem_singleton.mp hm]
              exact hz
        have dat : ∀ (G : Hp) (q : Addr), KeepT H9 G → G q = some (.tup ((ps.map fun p => V.ref p.1) ++ [.ref c2])) → DetAt G (.ref q) (.map (ps.map (·.2) ++ [(.col o, true, z)])) := fun G q k e => by
          refine ⟨q, ps ++ [(c2, (.col o, true, z))], rfl, by rw [e, List.map_append]; rfl, fun p hp => ?_, by rw [List.map_append]; rfl⟩
          rcases List.mem_append.mp hp with hp | hp
          · obtain ⟨told, a, b⟩ := h2 p hp
            exact ⟨told, k _ _ (k9 _ _ a), ExAt.keep (fun a xs e => k _ _ (k9 _ _ e)) b⟩
          · rw [List.mem_singleton.mp hp]
            exact ⟨.ref c1, k _ _ e8, c1, rfl, k _ _ e1⟩
        refine ⟨t, c3, _, _, rfl, rfl, SqT.of (k9 _ _ h1), SqT.of e9, Nat.le_trans (show _ ≤ 100 by rw [List.length_map]; exact Nat.succ_le_succ lm) (by decide), fun zz => ?_, fun _ z => (by cases z), fun _ _ p hp => ?_⟩
        · have ep : ps = [] := List.map_eq_nil_iff.mp zz
          refine ⟨z4, fun T hT => ?_⟩
          have uT := same_upd (o := .tup [.str nm', .str (Det.map (ps.map (·.2))).what, .ref inp, .ref c3]) hT
          refine ⟨_, rfl, _, rfl, L, _, _, i, rfl, rfl, (R9.new hT).eL, ixN_nat (by rw [List.length_map]; exact hi), ?_⟩
          exact MidH.put (s' := ⟨nm', ins', .map (ps.map (·.2) ++ [(.col o, true, z)])⟩) (R9.new hT) D hs la ⟨inp, _, upd_same, uT _ _ (k9 _ _ X5.2.1), dat _ c3 (same_t uT) (by rw [ep]; exact uT _ _ e9)⟩ ⟨ok.1, ok.2⟩
        · have R10 := R9.new (o := .tup ((ps.map fun p => V.ref p.1) ++ [.ref c2])) hp
          have u10 := same_upd (o := .tup ((ps.map fun p => V.ref p.1) ++ [.ref c2])) hp
          refine ⟨z4, fun T hT => ?_⟩
          have uT := same_upd (o := .tup [.str nm', .str (Det.map (ps.map (·.2))).what, .ref inp, .ref p]) hT
          refine ⟨_, rfl, _, rfl, L, _, _, i, rfl, rfl, (R10.new hT).eL, ixN_nat (by rw [List.length_map]; exact hi), ?_⟩
          exact MidH.put (s' := ⟨nm', ins', .map (ps.map (·.2) ++ [(.col o, true, z)])⟩) (R10.new hT) D hs la ⟨inp, _, upd_same, uT _ _ (u10 _ _ (k9 _ _ X5.2.1)), dat _ p (same_t (u10.trans uT)) (uT _ _ upd_same)⟩ ⟨ok.1, ok.2⟩
    | fold ks fs =>
      refine ⟨_, rfl, rfl, _, rfl, ite2 (fun c3 => ⟨_, rfl, rfl, _, rfl, iteF ?_⟩) (fun c3 => ?_)⟩
      all_goals
        refine ⟨_, rfl, rfl, _, rfl, ite2 (fun c => absurd (of_decide_eq_true c) n4) (fun _ => ?_)⟩
        refine ⟨_, rfl, rfl, _, rfl, iteF ⟨_, rfl, rfl, _, rfl, iteT ?_⟩⟩
        obtain ⟨t, kt, ft, ps, rfl, h1, h2, h3, h4, rfl⟩ := id X5.2.2
        have lm : ps.length ≤ 99 := by
          have h : (ps.map (·.2)).length ≤ 99 := hsmall
          rw [List.length_map] at h
          exact h
        obtain ⟨n6, D6⟩ := R5.dr
        refine ⟨_, rfl, _, rfl, _, rfl, _, rfl, t, _, 0, _, rfl, rfl, SqT.of h1, rfl, _, rfl, t, _, 1, _, rfl, rfl, SqT.of h1, rfl, _, rfl, z2, fun pl hpl => ?_⟩
        have upl := same_upd (o := .lst [.str "sum", .str "least"]) hpl
        refine ⟨d, s, pl, ns, tl, _, _, rfl, D6.keep upl, (ne_of_none D6.at_d hpl).symm, .inl (SqL.of upd_same), (by intro z; cases z), fun v H7 hv b7 D7 => ?_⟩
        have R7 := (R5.new (o := .lst [.str "sum", .str "least"]) hpl).go b7 D7
        have kR7 : KeepT H5 H7 := fun a xs e => b7.tup (D6.keep upl).at_d _ _ (upl _ _ e)
        have fR7 : KeepF H5 H7 := fun a xs e => b7.tupF (D6.keep upl).at_d _ _ (same_f upl _ _ e)
        obtain ⟨z, rfl, hz⟩ : ∃ z : Str, v = .str z ∧ z ≠ "count" := by
          simp only [List.mem_cons, List.not_mem_nil, or_false] at hv
          rcases hv with rfl | rfl
          · exact ⟨_, rfl, by decide +kernel⟩
          · exact ⟨_, rfl, by decide +kernel⟩
        refine ⟨z2, fun c1 hc1 => ?_⟩
        have R8 := R7.new (o := .tup [.str "column", .str "t"]) hc1
        have u8 := same_upd (o := .tup [.str "column", .str "t"]) hc1
        have e1' : upd H7 c1 (.tup [.str "column", .str "t"]) c1 = some (.tup [.str "column", .str "t"]) := upd_same
        generalize upd H7 c1 (.tup [.str "column", .str "t"]) = H8 at R8 u8 e1' ⊢
        refine ⟨by show 3 ≤ sizeLine; decide, fun c2 hc2 => ?_⟩
        have R9 := R8.new (o := .tup [.str z, .ref c1, .str "z"]) hc2
        have u9 := same_upd (o := .tup [.str z, .ref c1, .str "z"]) hc2
        refine ⟨by show 1 ≤ sizeLine; decide, fun c3 hc3 => ?_⟩
        have R10 := R9.new (o := .tup [.ref c2]) hc3
        have u10 := same_upd (o := .tup [.ref c2]) hc3
        have e9 : upd (upd H8 c2 (.tup [.str z, .ref c1, .str "z"])) c3 (.tup [.ref c2]) c3 = some (.tup [.ref c2]) := upd_same
        have e8 := u10 _ _ (upd_same (H := H8) (a := c2) (o := .tup [.str z, .ref c1, .str "z"]))
        have k9 : KeepT H5 (upd (upd H8 c2 (.tup [.str z, .ref c1, .str "z"])) c3 (.tup [.ref c2])) := fun a xs e => u10 _ _ (u9 _ _ (u8 _ _ (kR7 _ _ e)))
        have e1 := u10 _ _ (u9 _ _ e1')
        generalize upd (upd H8 c2 (.tup [.str z, .ref c1, .str "z"])) c3 (.tup [.ref c2]) = H9 at R10 e9 e8 k9 e1 ⊢
        have ok : LawOk ⟨nm', ins', .fold ks (ps.map (·.2) ++ [((z, some (Ex.col "t"), true, "z") : FC)])⟩ := by
          refine ⟨⟨⟨hlaw.1.1, by rw [List.length_append, List.length_map]; exact Nat.succ_le_succ lm, fun m hm hn => ?_⟩, fun m hm => ?_, hlaw.2.2⟩, fun ks2 fs2 zz m hm hn => ?_⟩
          · rcases List.mem_append.mp hm with hm | hm
            · exact hlaw.1.2.2 m hm hn
            · rw [List.mem_singleton.mp hm]
              exact ⟨_, rfl, trivial, by show (1 : Nat) ≤ 12; decide⟩
          · rcases List.mem_append.mp hm with hm | hm
            · exact hlaw.2.1 m hm
            · rw [List.mem_singleton.mp hm]
              show ("z" : Str) ∈ bigN
              decide +kernel
          · cases zz
            rcases List.mem_append.mp hm with hm | hm
            · exact hcount _ _ rfl m hm hn
            · rw [List.mem_singleton.mp hm] at hn
              exact absurd hn hz
        have dat : ∀ (G : Hp) (q f' : Addr), KeepT H9 G → G q = some (.tup [.ref kt, .ref f']) → G f' = some (.tup ((ps.map fun p => V.ref p.1) ++ [.ref c2])) → DetAt G (.ref q) (.fold ks (ps.map (·.2) ++ [((z, some (Ex.col "t"), true, "z") : FC)])) := fun G q f' k e ef => by
          refine ⟨q, kt, f', ps ++ [(c2, ((z, some (Ex.col "t"), true, "z") : FC))], rfl, e, k _ _ (k9 _ _ h2), by rw [ef, List.map_append]; rfl, fun p hp => ?_, by rw [List.map_append]; rfl⟩
          rcases List.mem_append.mp hp with hp | hp
          · obtain ⟨told, a, b⟩ := h4 p hp
            exact ⟨told, k _ _ (k9 _ _ a), FTo.keep (fun a xs e => k _ _ (k9 _ _ e)) b⟩
          · rw [List.mem_singleton.mp hp]
            exact ⟨.ref c1, k _ _ e8, c1, rfl, k _ _ e1⟩
        refine ⟨ft, c3, _, _, rfl, rfl, SqT.of (k9 _ _ h3), SqT.of e9, Nat.le_trans (show _ ≤ 100 by rw [List.length_map]; exact Nat.succ_le_succ lm) (by decide), fun zz => ?_, fun _ z => (by cases z), fun _ _ p hp => ?_⟩
        · have ep : ps = [] := List.map_eq_nil_iff.mp zz
          refine ⟨z2, fun q5 hq5 => ?_⟩
          have R11 := R10.new (o := .tup [.ref kt, .ref c3]) hq5
          have u11 := same_upd (o := .tup [.ref kt, .ref c3]) hq5
          refine ⟨z4, fun T hT => ?_⟩
          have uT := same_upd (o := .tup [.str nm', .str (Det.fold ks (ps.map (·.2))).what, .ref inp, .ref q5]) hT
          refine ⟨_, rfl, _, rfl, L, _, _, i, rfl, rfl, (R11.new hT).eL, ixN_nat (by rw [List.length_map]; exact hi), ?_⟩
          exact MidH.put (s' := ⟨nm', ins', .fold ks (ps.map (·.2) ++ [((z, some (Ex.col "t"), true, "z") : FC)])⟩) (R11.new hT) D hs la ⟨inp, _, upd_same, uT _ _ (u11 _ _ (k9 _ _ X5.2.1)), dat _ q5 c3 (same_t (u11.trans uT)) (uT _ _ upd_same) (by rw [ep]; exact uT _ _ (u11 _ _ e9))⟩ ⟨ok.1, ok.2⟩
        · have R11 := R10.new (o := .tup ((ps.map fun p => V.ref p.1) ++ [.ref c2])) hp
          have u11 := same_upd (o := .tup ((ps.map fun p => V.ref p.1) ++ [.ref c2])) hp
          refine ⟨z2, fun q5 hq5 => ?_⟩
          have R12 := R11.new (o := .tup [.ref kt, .ref p]) hq5
          have u12 := same_upd (o := .tup [.ref kt, .ref p]) hq5
          refine ⟨z4, fun T hT => ?_⟩
          have uT := same_upd (o := .tup [.str nm', .str (Det.fold ks (ps.map (·.2))).what, .ref inp, .ref q5]) hT
          refine ⟨_, rfl, _, rfl, L, _, _, i, rfl, rfl, (R12.new hT).eL, ixN_nat (by rw [List.length_map]; exact hi), ?_⟩
          exact MidH.put (s' := ⟨nm', ins', .fold ks (ps.map (·.2) ++ [((z, some (Ex.col "t"), true, "z") : FC)])⟩) (R12.new hT) D hs la ⟨inp, _, upd_same, uT _ _ (u12 _ _ (u11 _ _ (k9 _ _ X5.2.1))), dat _ q5 p (same_t ((u11.trans u12).trans uT)) (uT _ _ upd_same) (uT _ _ (u12 _ _ upd_same))⟩ ⟨ok.1, ok.2⟩
  · rintro σ G ⟨L', as', y2, y4, y5, y6, y7, y8, y9, y10, rfl, R, hs', la'⟩
    refine ⟨_, rfl, L', _, rfl, .inl ⟨SqL.of R.eL, fun t ht => ?_⟩⟩
    have R2 := R.new (o := .tup (as'.map fun p => .ref p.1)) ht
    have u := same_upd (o := .tup (as'.map fun p => .ref p.1)) ht
    refine ⟨_, rfl, job, _, 1, _, rfl, rfl, SqT.of (kT R2.b _ _ hj), rfl, z2, fun r hr => ?_⟩
    have R3 := R2.new (o := .tup [.ref t, .str an]) hr
    have u2 := same_upd (o := .tup [.ref t, .str an]) hr
    obtain ⟨n', D'⟩ := R3.dr
    exact q r as' an n' _ ⟨t, upd_same, u2 _ _ upd_same, fun p hp => ⟨((hs' p hp).1.keep (same_t u) (same_f u)).keep (same_t u2) (same_f u2), (hs' p hp).2⟩, la'⟩ R3.b D'
end
end Kx

set_option maxHeartbeats 8000000
namespace Kx
open PySem PySem.Spec PyProof.Rows L2
abbrev s_law : Stmt := topS 43
theorem cut_mapJ (xs : List Int) (lo hi : Option Int) : ∃ ys : List Int, cutV (xs.map V.int) lo hi = ys.map V.int := by
  unfold cutV
  rw [← List.map_drop, ← List.map_take]
  exact ⟨_, rfl⟩
theorem job_more {G : Hp} {p wd Tc Td : Addr} {as : List (Addr × Stp)} {c e : Stp} {an : Str} (hs : ∀ x ∈ as, StpAt G x.1 x.2 ∧ LawOk x.2) (la : as.length ≤ 90) (hp : G p = some (.tup ((as.map fun x => V.ref x.1) ++ [.ref Tc, .ref Td]))) (hw : G wd = some (.tup [.ref p, .str an])) (hc : StpAt G Tc c) (oc : LawOk c) (he : StpAt G Td e) (oe : LawOk e) : JobAt G wd (as ++ [(Tc, c), (Td, e)]) an := by
  refine ⟨p, hw, by rw [hp, List.map_append]; rfl, fun x hx => ?_, by rw [List.length_append]; show as.length + 2 ≤ 100; omega⟩
  rcases List.mem_append.mp hx with hx | hx
  · exact hs x hx
  · rcases List.mem_cons.mp hx with rfl | hx
    · exact ⟨hc, oc⟩
    · rw [List.mem_singleton.mp hx]
      exact ⟨he, oe⟩
/-- the draw's state -/
structure LwS (H1 G : Hp) (d s : Addr) (ns : List Int) (tl : List V) : Prop where
  b : But d H1 G
  dr : ∃ n, DrawAt G d s ns tl n
theorem LwS.new {H1 G : Hp} {d s p : Addr} {ns : List Int} {tl : List V} {o : HO} (R : LwS H1 G d s ns tl) (h : G p = none) : LwS H1 (upd G p o) d s ns tl :=
  ⟨R.b.trans (same_but (same_upd h)), let ⟨n, D⟩ := R.dr; ⟨n, D.keep (same_upd h)⟩⟩
theorem LwS.same {H1 G G' : Hp} {d s : Addr} {ns : List Int} {tl : List V} (R : LwS H1 G d s ns tl) (h : Same G G') : LwS H1 G' d s ns tl :=
  ⟨R.b.trans (same_but h), let ⟨n, D⟩ := R.dr; ⟨n, D.keep h⟩⟩
theorem LwS.go {H1 G G' : Hp} {d s : Addr} {ns : List Int} {tl : List V} {n' : Int} (R : LwS H1 G d s ns tl) (b : But d G G') (D : DrawAt G' d s ns tl n') : LwS H1 G' d s ns tl := ⟨R.b.trans b, ⟨n', D⟩⟩
section
variable {P : Program} {w : World} {K : PySem.W.Frag} {mg : Str → Option Value} {base : Heap}
abbrev N_law : List Str := ["script", "draw", "turn", "job", "more", "wide", "columns", "by", "late"]
def spLaw (K : PySem.W.Frag) : Sp := fun vs H Q _ => ∃ (a : Addr) (xs : List Int), vs = [.ref a] ∧ SqL K H a (xs.map V.int) ∧ ∀ H', Q (.bl true) H'
theorem sc_law : FnScope N_law ["script"] (defScope s_law) := ⟨rfl, rfl, rfl, by decide +kernel, rfl, by decide +kernel, by decide +kernel⟩
theorem ok_law {f : Addr} {fd : FuncData} (F : Fun K "law" "law" s_law f fd) (m_range : mg "range" = none) (m_isinstance : mg "isinstance" = none) (m_dict : mg "dict" = none) (G_law_job : Ready P w K mg base 10 "_law_job" ["draw", "many"] spJob) (G_law_is_due : Ready P w K mg base 18 "_law_is_due" ["job"] spIsDue) (G_law_due : Ready P w K mg base 16 "_law_due" ["job"] spDue) (G_law_pick : Ready P w K mg base 4 "_law_pick" ["draw", "things"] (spPick K)) (G_law_changed : Ready P w K mg base 5 "_law_changed" ["draw", "job"] spChanged) :
    FnOk P w K mg base CX0 19 f fd ["script"] (spLaw K) := by
  refine F.ok sc_law (fun vs H Q E h => ?_) (fun cdv A outer s0 H vs Q E hr h => ?_)
  · obtain ⟨a, xs, rfl, _⟩ := h
    rfl
  obtain ⟨a, xs, rfl, hS, q⟩ := h
  have nd := sc_law.nd
  have hr18 : Room 18 _ := hr
  have hr16 : Room 16 _ := hr.mono (by decide)
  have hr10 : Room 10 _ := hr.mono (by decide)
  have hr5 : Room 5 _ := hr.mono (by decide)
  have hr4 : Room 4 _ := hr.mono (by decide)
  refine ⟨_, pss_cons (ps_set (i := 1) nd rfl (.inl rfl) (pe_lst (pa_cons (pe_slice sl_list (pv 0) po_none (po_some pe_int)) (pa_cons pe_int (pa_cons pe_int pa_nil)))))
      (pss_cons (ps_for PassesOwn.never rfl (pi_range1 rfl m_range (pa_cons pe_int pa_nil)) (pg_name (i := 2) nd rfl (.inl rfl)) (pss_cons (ps_set (i := 3) nd rfl (.inl rfl) (pe_fn G_law_job hr10 (pa_cons (pv 1) (pa_cons pe_int pa_nil))))
      (pss_cons (ps_if (PW.pt (pw_or (pt_not (pt_val (pe_fn G_law_is_due hr18 (pa_cons (pv 3) pa_nil)))) (pw_or1 (pt_not (pt_val (pe_callB call_isi (by rfl) m_isinstance PyProof.Rows.boot_isinstance (pa_cons (pe_fn G_law_due hr16 (pa_cons (pv 3) pa_nil)) (pa_cons (pe_bltn (v := .ty "dict") (by rfl) m_dict PyProof.Rows.boot_dict rfl) pa_nil)))))))) (pss_one (ps_ret pe_bl)) (pss_nil))
      (pss_cons (ps_set (i := 4) nd rfl (.inl rfl) (pe_tup (pa_cons (pe_tup (pa_cons pe_str (pa_cons pe_str (pa_cons (pe_tup pa_nil) (pa_cons (pe_tupF (pa_cons (pe_tup (pa_cons pe_str (pa_cons (pe_fn G_law_pick hr4 (pa_cons (pv 1) (pa_cons (pe_lst (pa_cons pe_str (pa_cons pe_str pa_nil))) pa_nil))) pa_nil))) (pa_cons (pe_tup (pa_cons pe_str (pa_cons pe_str pa_nil))) pa_nil))) pa_nil))))) (pa_cons (pe_tup (pa_cons pe_str (pa_cons pe_str (pa_cons (pe_tup (pa_cons pe_str (pa_cons pe_str pa_nil))) (pa_cons (pe_tup (pa_cons pe_str pa_nil)) pa_nil))))) pa_nil))))
      (pss_cons (ps_set (i := 5) nd rfl (.inl rfl) (pe_tup (pa_cons (pe_op op_catA (pe_ix ix_tup (pv 3) pe_int (fun _ _ => rfl)) (pv 4)) (pa_cons pe_str pa_nil))))
      (pss_cons (ps_if (pt_not (pt_val (pe_fn G_law_is_due hr18 (pa_cons (pv 5) pa_nil)))) (pss_one (ps_ret pe_bl)) (pss_nil))
      (pss_cons (ps_set (i := 6) nd rfl (.inl rfl) (pe_tupF (pa_cons (pe_tup (pa_cons pe_str (pa_cons pe_str pa_nil))) (pa_cons (pe_tup (pa_cons pe_str (pa_cons (pe_fn G_law_pick hr4 (pa_cons (pv 1) (pa_cons (pe_lst (pa_cons pe_str (pa_cons pe_str pa_nil))) pa_nil))) pa_nil))) (pa_cons (pe_tup (pa_cons (pe_fn G_law_pick hr4 (pa_cons (pv 1) (pa_cons (pe_lst (pa_cons pe_str (pa_cons pe_str (pa_cons pe_str pa_nil)))) pa_nil))) (pa_cons pe_str pa_nil))) pa_nil)))))
      (pss_cons (ps_set (i := 5) nd rfl (.inl rfl) (pe_tup (pa_cons (pe_op op_catA (pe_ix ix_tup (pv 3) pe_int (fun _ _ => rfl)) (pe_tup (pa_cons (pe_tup (pa_cons pe_str (pa_cons pe_str (pa_cons (pe_tup pa_nil) (pa_cons (pv 6) pa_nil))))) (pa_cons (pe_tup (pa_cons pe_str (pa_cons pe_str (pa_cons (pe_tup (pa_cons pe_str (pa_cons pe_str pa_nil))) (pa_cons (pe_tup pa_nil) pa_nil))))) pa_nil)))) (pa_cons pe_str pa_nil))))
      (pss_cons (ps_if (pt_not (pt_val (pe_fn G_law_is_due hr18 (pa_cons (pv 5) pa_nil)))) (pss_one (ps_ret pe_bl)) (pss_nil))
      (pss_one (ps_for PassesOwn.never rfl (pi_range1 rfl m_range (pa_cons pe_int pa_nil)) (pg_name (i := 7) nd rfl (.inl rfl)) (pss_cons (ps_set (i := 8) nd rfl (.inl rfl) (pe_fn G_law_changed hr5 (pa_cons (pv 1) (pa_cons (pv 3) pa_nil))))
      (pss_one (ps_if (pt_not (pt_val (pe_fn G_law_is_due hr18 (pa_cons (pv 8) pa_nil)))) (pss_one (ps_ret pe_bl)) (pss_nil)))))))))))))))
      (pss_one (ps_ret pe_bl))), ?_⟩
  have z0 : 0 ≤ sizeLine := by decide
  have z1 : 1 ≤ sizeLine := by decide
  have z2 : 2 ≤ sizeLine := by decide
  have z3 : 3 ≤ sizeLine := by decide
  have z4 : 4 ≤ sizeLine := by decide
  obtain ⟨ns, ens⟩ := cut_mapJ xs none (some 63)
  refine ⟨_, rfl, _, rfl, a, _, rfl, hS, fun s ns0 => ⟨z3, fun d nd0 => ?_⟩⟩
  rw [ens] at nd0 ⊢
  have D0 : DrawAt (upd (upd H s (.lst (ns.map V.int))) d (.lst [.ref s, .int 0, .int 0])) d s ns [] 0 := ⟨upd_same, by rw [upd_ne (ne_of_none upd_same nd0)]; exact upd_same, Int.le_refl 0⟩
  generalize upd (upd H s (.lst (ns.map V.int))) d (.lst [.ref s, .int 0, .int 0]) = H0 at D0 ⊢
  refine ⟨4, rfl, by decide, by decide, for_range (n := 4) (fun i σ H' => ∃ n tl y2 y3 y4 y5 y6 y7 y8, σ = [some (.ref a), some (.ref d), y2, y3, y4, y5, y6, y7, y8] ∧ DrawAt H' d s ns tl n ∧ (tl = [] ∨ ∃ x, tl = [x]))
    ⟨0, [], none, none, none, none, none, none, none, rfl, D0, .inl rfl⟩ ?_ ?_⟩
  · rintro i σ H' hi ⟨n, tl, y2, y3, y4, y5, y6, y7, y8, rfl, D, htl⟩
    refine ⟨_, rfl, d, s, ns, tl, n, 6, rfl, D, htl, by decide, by decide, fun r st g as kn last n1 H1 hr1 hst hstp hJ hlast hlen hnms b1 D1 => ?_⟩
    obtain ⟨hrun, hnd, _, hll, hlawS⟩ := job_ok hJ
    have lenA : as.length ≤ 10 := by
      rw [List.length_map] at hll
      omega
    have hs1 : ∀ p ∈ as, StpAt H1 p.1 p.2 ∧ LawOk p.2 := fun p hp => ⟨hstp p hp, (hlawS hnms p.2 (List.mem_map.mpr ⟨p, hp, rfl⟩)).1⟩
    have hsm : ∀ p ∈ as, SmallS p.2 := fun p hp => (hlawS hnms p.2 (List.mem_map.mpr ⟨p, hp, rfl⟩)).2
    have hne : as ≠ [] := fun z => by
      rw [z] at hll
      cases kn with
      | nil => exact absurd hlast List.not_mem_nil
      | cons _ _ => cases hll
    have ho : outJ (as.map (·.2)) last = .ok kn := by
      unfold outJ
      rw [hrun]
      exact if_pos hlast
    have J1 : JobAt H1 r as last := ⟨st, hr1, hst, hs1, by omega⟩
    have R1 : LwS H1 H1 d s ns [.ref g] := ⟨But.refl _ _, ⟨_, D1⟩⟩
    have kt : ∀ {G : Hp}, LwS H1 G d s ns [.ref g] → KeepT H1 G := fun R a xs e => R.b.tup D1.at_d a xs e
    have kf : ∀ {G : Hp}, LwS H1 G d s ns [.ref g] → KeepF H1 G := fun R a xs e => R.b.tupF D1.at_d a xs e
    have jat : ∀ {G : Hp}, LwS H1 G d s ns [.ref g] → JobAt G r as last := fun R => J1.keep (kt R) (kf R)
    have sat : ∀ {G : Hp}, LwS H1 G d s ns [.ref g] → ∀ x ∈ as, StpAt G x.1 x.2 ∧ LawOk x.2 := fun R x hx => ⟨(hs1 x hx).1.keep (kt R) (kf R), (hs1 x hx).2⟩
    have nea : (as.map fun p => V.ref p.1) ≠ [] := fun z => hne (List.map_eq_nil_iff.mp z)
    refine ⟨_, rfl, r, as, last, rfl, J1, fun H2 s2 => ⟨_, rfl, iteF ?_⟩⟩
    refine ⟨_, rfl, r, as, last, rfl, jat (R1.same s2), fun kn' hk T tg H3 s3 eT _ _ _ _ => ⟨_, _, _, _, _, rfl, .ty _, .base (.dK eT), rfl, _, rfl, iteF ?_⟩, fun nm hk => by
      rw [ho] at hk
      cases hk⟩
    have R3 := (R1.same s2).same s3
    clear s2 s3 eT
    -- more
    refine ⟨z0, fun e1 he1 => ?_⟩
    have R4 := R3.new (o := .tup []) he1
    have x1 : upd H3 e1 (.tup []) e1 = some (.tup []) := upd_same
    generalize upd H3 e1 (.tup []) = H4 at R4 x1 ⊢
    obtain ⟨n4, D4⟩ := R4.dr
    refine ⟨_, rfl, z2, fun pl hpl => ?_⟩
    have upl := same_upd (o := .lst [.str "int", .str "text"]) hpl
    refine ⟨d, s, pl, ns, _, _, _, rfl, D4.keep upl, (ne_of_none D4.at_d hpl).symm, .inl (SqL.of upd_same), (by intro z; cases z), fun v H5 hv b5 D5 => ?_⟩
    have R5 := (R4.new (o := .lst [.str "int", .str "text"]) hpl).go b5 D5
    replace x1 := b5.tup (D4.keep upl).at_d _ _ (upl _ _ x1)
    obtain ⟨vb, rfl⟩ : ∃ vb : Bool, v = .str (kW vb) := by
      simp only [List.mem_cons, List.not_mem_nil, or_false] at hv
      rcases hv with rfl | rfl
      · exact ⟨true, rfl⟩
      · exact ⟨false, rfl⟩
    refine ⟨z2, fun k1 hk1 => ?_⟩
    have R6 := R5.new (o := .tup [.str "k", .str (kW vb)]) hk1
    have uu := same_upd (o := .tup [.str "k", .str (kW vb)]) hk1
    replace x1 := uu _ _ x1
    have xk1 : upd H5 k1 (.tup [.str "k", .str (kW vb)]) k1 = some (.tup [.str "k", .str (kW vb)]) := upd_same
    clear uu
    generalize upd H5 k1 (.tup [.str "k", .str (kW vb)]) = H6 at R6 x1 xk1 ⊢
    refine ⟨z2, fun k2 hk2 => ?_⟩
    have R7 := R6.new (o := .tup [.str "z", .str "int"]) hk2
    have uu := same_upd (o := .tup [.str "z", .str "int"]) hk2
    replace x1 := uu _ _ x1
    replace xk1 := uu _ _ xk1
    have xk2 : upd H6 k2 (.tup [.str "z", .str "int"]) k2 = some (.tup [.str "z", .str "int"]) := upd_same
    clear uu
    generalize upd H6 k2 (.tup [.str "z", .str "int"]) = H7 at R7 x1 xk1 xk2 ⊢
    refine ⟨z2, fun dt od hdt hod => ?_⟩
    have R8 := R7.new (o := .frz od (.tup [.ref k1, .ref k2])) hdt
    have uu := same_upd (o := .frz od (.tup [.ref k1, .ref k2])) hdt
    replace x1 := uu _ _ x1
    replace xk1 := uu _ _ xk1
    replace xk2 := uu _ _ xk2
    have xdt : upd H7 dt (.frz od (.tup [.ref k1, .ref k2])) dt = some (.frz od (.tup [.ref k1, .ref k2])) := upd_same
    clear uu
    generalize upd H7 dt (.frz od (.tup [.ref k1, .ref k2])) = H8 at R8 x1 xk1 xk2 xdt ⊢
    refine ⟨z4, fun Tc hTc => ?_⟩
    have R9 := R8.new (o := .tup [.str "c", .str "read", .ref e1, .ref dt]) hTc
    have uu := same_upd (o := .tup [.str "c", .str "read", .ref e1, .ref dt]) hTc
    replace x1 := uu _ _ x1
    replace xk1 := uu _ _ xk1
    replace xk2 := uu _ _ xk2
    replace xdt := uu _ _ xdt
    have xTc : upd H8 Tc (.tup [.str "c", .str "read", .ref e1, .ref dt]) Tc = some (.tup [.str "c", .str "read", .ref e1, .ref dt]) := upd_same
    clear uu
    generalize upd H8 Tc (.tup [.str "c", .str "read", .ref e1, .ref dt]) = H9 at R9 x1 xk1 xk2 xdt xTc ⊢
    refine ⟨z2, fun in2 hin2 => ?_⟩
    have R10 := R9.new (o := .tup [.str "a", .str "c"]) hin2
    have uu := same_upd (o := .tup [.str "a", .str "c"]) hin2
    replace x1 := uu _ _ x1
    replace xk1 := uu _ _ xk1
    replace xk2 := uu _ _ xk2
    replace xdt := uu _ _ xdt
    replace xTc := uu _ _ xTc
    have xin2 : upd H9 in2 (.tup [.str "a", .str "c"]) in2 = some (.tup [.str "a", .str "c"]) := upd_same
    clear uu
    generalize upd H9 in2 (.tup [.str "a", .str "c"]) = H10 at R10 x1 xk1 xk2 xdt xTc xin2 ⊢
    refine ⟨z1, fun ks hks => ?_⟩
    have R11 := R10.new (o := .tup [.str "k"]) hks
    have uu := same_upd (o := .tup [.str "k"]) hks
    replace x1 := uu _ _ x1
    replace xk1 := uu _ _ xk1
    replace xk2 := uu _ _ xk2
    replace xdt := uu _ _ xdt
    replace xTc := uu _ _ xTc
    replace xin2 := uu _ _ xin2
    have xks : upd H10 ks (.tup [.str "k"]) ks = some (.tup [.str "k"]) := upd_same
    clear uu
    generalize upd H10 ks (.tup [.str "k"]) = H11 at R11 x1 xk1 xk2 xdt xTc xin2 xks ⊢
    refine ⟨z4, fun Td hTd => ?_⟩
    have R12 := R11.new (o := .tup [.str "d", .str "join", .ref in2, .ref ks]) hTd
    have uu := same_upd (o := .tup [.str "d", .str "join", .ref in2, .ref ks]) hTd
    replace x1 := uu _ _ x1
    replace xk1 := uu _ _ xk1
    replace xk2 := uu _ _ xk2
    replace xdt := uu _ _ xdt
    replace xTc := uu _ _ xTc
    replace xin2 := uu _ _ xin2
    replace xks := uu _ _ xks
    have xTd : upd H11 Td (.tup [.str "d", .str "join", .ref in2, .ref ks]) Td = some (.tup [.str "d", .str "join", .ref in2, .ref ks]) := upd_same
    clear uu
    generalize upd H11 Td (.tup [.str "d", .str "join", .ref in2, .ref ks]) = H12 at R12 x1 xk1 xk2 xdt xTc xin2 xks xTd ⊢
    refine ⟨z2, fun mr hmr => ?_⟩
    have R13 := R12.new (o := .tup [.ref Tc, .ref Td]) hmr
    have uu := same_upd (o := .tup [.ref Tc, .ref Td]) hmr
    replace x1 := uu _ _ x1
    replace xk1 := uu _ _ xk1
    replace xk2 := uu _ _ xk2
    replace xdt := uu _ _ xdt
    replace xTc := uu _ _ xTc
    replace xin2 := uu _ _ xin2
    replace xks := uu _ _ xks
    replace xTd := uu _ _ xTd
    have xmr : upd H12 mr (.tup [.ref Tc, .ref Td]) mr = some (.tup [.ref Tc, .ref Td]) := upd_same
    clear uu
    generalize upd H12 mr (.tup [.ref Tc, .ref Td]) = H13 at R13 x1 xk1 xk2 xdt xTc xin2 xks xTd xmr ⊢
    refine ⟨_, rfl, r, _, 0, _, rfl, rfl, SqT.of (kt R13 _ _ hr1), rfl, _, rfl, st, mr, _, _, rfl, rfl, SqT.of (kt R13 _ _ hst), SqT.of xmr, Nat.le_trans (show _ ≤ 12 by rw [List.length_map]; show as.length + 2 ≤ 12; omega) (by decide), fun z => absurd z nea, fun _ z => (by cases z), fun _ _ pp hpp => ?_⟩
    have R14 := R13.new (o := .tup ((as.map fun p => V.ref p.1) ++ [.ref Tc, .ref Td])) hpp
    have uu := same_upd (o := .tup ((as.map fun p => V.ref p.1) ++ [.ref Tc, .ref Td])) hpp
    replace x1 := uu _ _ x1
    replace xk1 := uu _ _ xk1
    replace xk2 := uu _ _ xk2
    replace xdt := uu _ _ xdt
    replace xTc := uu _ _ xTc
    replace xin2 := uu _ _ xin2
    replace xks := uu _ _ xks
    replace xTd := uu _ _ xTd
    replace xmr := uu _ _ xmr
    have xpp : upd H13 pp (.tup ((as.map fun p => V.ref p.1) ++ [.ref Tc, .ref Td])) pp = some (.tup ((as.map fun p => V.ref p.1) ++ [.ref Tc, .ref Td])) := upd_same
    clear uu
    generalize upd H13 pp (.tup ((as.map fun p => V.ref p.1) ++ [.ref Tc, .ref Td])) = H14 at R14 x1 xk1 xk2 xdt xTc xin2 xks xTd xmr xpp ⊢
    refine ⟨z2, fun wd hwd => ?_⟩
    have R15 := R14.new (o := .tup [.ref pp, .str "d"]) hwd
    have uu := same_upd (o := .tup [.ref pp, .str "d"]) hwd
    replace x1 := uu _ _ x1
    replace xk1 := uu _ _ xk1
    replace xk2 := uu _ _ xk2
    replace xdt := uu _ _ xdt
    replace xTc := uu _ _ xTc
    replace xin2 := uu _ _ xin2
    replace xks := uu _ _ xks
    replace xTd := uu _ _ xTd
    replace xmr := uu _ _ xmr
    replace xpp := uu _ _ xpp
    have xwd : upd H14 wd (.tup [.ref pp, .str "d"]) wd = some (.tup [.ref pp, .str "d"]) := upd_same
    clear uu
    generalize upd H14 wd (.tup [.ref pp, .str "d"]) = H15 at R15 x1 xk1 xk2 xdt xTc xin2 xks xTd xmr xpp xwd ⊢
    have JW : JobAt H15 wd (as ++ [(Tc, ⟨"c", [], .read [("k", vb), ("z", true)]⟩), (Td, ⟨"d", ["a", "c"], .join [("k", true)]⟩)]) "d" := by
      refine job_more (sat R15) (by omega) xpp xwd ⟨e1, .ref dt, xTc, x1, dt, [(k1, "k", vb), (k2, "z", true)], rfl, ⟨od, hod, xdt⟩, fun c hc => ?_, rfl⟩ ⟨⟨by show (2 : Nat) ≤ 100; decide, fun c hc => ?_, rfl⟩, fun ks fs z => by cases z⟩ ⟨in2, .ref ks, xTd, xin2, ks, rfl, xks⟩ ⟨⟨by show (1 : Nat) ≤ 100; decide, trivial, rfl⟩, fun ks fs z => by cases z⟩
      · rcases List.mem_cons.mp hc with rfl | hc
        · exact xk1
        · rw [List.mem_singleton.mp hc]
          exact xk2
      · rcases List.mem_cons.mp hc with rfl | hc
        · show ("k" : Str) ∈ bigN
          decide +kernel
        · rw [List.mem_singleton.mp hc]
          show ("z" : Str) ∈ bigN
          decide +kernel
    refine ⟨_, rfl, wd, _, _, rfl, JW, fun H16 sJ => ⟨_, rfl, iteF ?_⟩⟩
    have R16 := R15.same sJ
    clear sJ JW x1 xk1 xk2 xdt xTc xin2 xks xTd xmr xpp xwd
    refine ⟨z2, fun m1 hm1 => ?_⟩
    have R17 := R16.new (o := .tup [.str "k", .str "int"]) hm1
    have uu := same_upd (o := .tup [.str "k", .str "int"]) hm1
    have xm1 : upd H16 m1 (.tup [.str "k", .str "int"]) m1 = some (.tup [.str "k", .str "int"]) := upd_same
    clear uu
    generalize upd H16 m1 (.tup [.str "k", .str "int"]) = H17 at R17 xm1 ⊢
    refine ⟨_, rfl, z2, fun pl2 hpl2 => ?_⟩
    have uu := same_upd (o := .lst [.str "text", .str "int"]) hpl2
    obtain ⟨nn, DD⟩ := R17.dr
    refine ⟨d, s, pl2, ns, _, _, _, rfl, DD.keep uu, (ne_of_none DD.at_d hpl2).symm, .inl (SqL.of upd_same), (by intro z; cases z), fun v2 H18 hv2 bb D18 => ?_⟩
    have R18 := (R17.new (o := .lst [.str "text", .str "int"]) hpl2).go bb D18
    replace xm1 := bb.tup (DD.keep uu).at_d _ _ (uu _ _ xm1)
    clear uu bb DD
    obtain ⟨vc, rfl⟩ : ∃ vc : Bool, v2 = .str (kW vc) := by
      simp only [List.mem_cons, List.not_mem_nil, or_false] at hv2
      rcases hv2 with rfl | rfl
      · exact ⟨false, rfl⟩
      · exact ⟨true, rfl⟩
    refine ⟨z2, fun m2 hm2 => ?_⟩
    have R19 := R18.new (o := .tup [.str "t", .str (kW vc)]) hm2
    have uu := same_upd (o := .tup [.str "t", .str (kW vc)]) hm2
    replace xm1 := uu _ _ xm1
    have xm2 : upd H18 m2 (.tup [.str "t", .str (kW vc)]) m2 = some (.tup [.str "t", .str (kW vc)]) := upd_same
    clear uu
    generalize upd H18 m2 (.tup [.str "t", .str (kW vc)]) = H19 at R19 xm1 xm2 ⊢
    refine ⟨_, rfl, z3, fun pl3 hpl3 => ?_⟩
    have uu := same_upd (o := .lst [.str "n", .str "n", .str "m"]) hpl3
    obtain ⟨nn, DD⟩ := R19.dr
    refine ⟨d, s, pl3, ns, _, _, _, rfl, DD.keep uu, (ne_of_none DD.at_d hpl3).symm, .inl (SqL.of upd_same), (by intro z; cases z), fun v3 H20 hv3 bb D20 => ?_⟩
    have R20 := (R19.new (o := .lst [.str "n", .str "n", .str "m"]) hpl3).go bb D20
    replace xm1 := bb.tup (DD.keep uu).at_d _ _ (uu _ _ xm1)
    replace xm2 := bb.tup (DD.keep uu).at_d _ _ (uu _ _ xm2)
    clear uu bb DD
    obtain ⟨nm3, rfl, hnm3⟩ : ∃ z : Str, v3 = .str z ∧ z ∈ bigN := by
      simp only [List.mem_cons, List.not_mem_nil, or_false] at hv3
      rcases hv3 with rfl | rfl | rfl <;> exact ⟨_, rfl, by decide +kernel⟩
    refine ⟨z2, fun m3 hm3 => ?_⟩
    have R21 := R20.new (o := .tup [.str nm3, .str "int"]) hm3
    have uu := same_upd (o := .tup [.str nm3, .str "int"]) hm3
    replace xm1 := uu _ _ xm1
    replace xm2 := uu _ _ xm2
    have xm3 : upd H20 m3 (.tup [.str nm3, .str "int"]) m3 = some (.tup [.str nm3, .str "int"]) := upd_same
    clear uu
    generalize upd H20 m3 (.tup [.str nm3, .str "int"]) = H21 at R21 xm1 xm2 xm3 ⊢
    refine ⟨z3, fun cl ocl hcl hocl => ?_⟩
    have R22 := R21.new (o := .frz ocl (.tup [.ref m1, .ref m2, .ref m3])) hcl
    have uu := same_upd (o := .frz ocl (.tup [.ref m1, .ref m2, .ref m3])) hcl
    replace xm1 := uu _ _ xm1
    replace xm2 := uu _ _ xm2
    replace xm3 := uu _ _ xm3
    have xcl : upd H21 cl (.frz ocl (.tup [.ref m1, .ref m2, .ref m3])) cl = some (.frz ocl (.tup [.ref m1, .ref m2, .ref m3])) := upd_same
    clear uu
    generalize upd H21 cl (.frz ocl (.tup [.ref m1, .ref m2, .ref m3])) = H22 at R22 xm1 xm2 xm3 xcl ⊢
    refine ⟨_, rfl, r, _, 0, _, rfl, rfl, SqT.of (kt R22 _ _ hr1), rfl, z0, fun e2 he2 => ?_⟩
    have R23 := R22.new (o := .tup []) he2
    have uu := same_upd (o := .tup []) he2
    replace xm1 := uu _ _ xm1
    replace xm2 := uu _ _ xm2
    replace xm3 := uu _ _ xm3
    replace xcl := uu _ _ xcl
    have xe2 : upd H22 e2 (.tup []) e2 = some (.tup []) := upd_same
    clear uu
    generalize upd H22 e2 (.tup []) = H23 at R23 xm1 xm2 xm3 xcl xe2 ⊢
    refine ⟨_, rfl, z4, fun Te hTe => ?_⟩
    have R24 := R23.new (o := .tup [.str "c", .str "read", .ref e2, .ref cl]) hTe
    have uu := same_upd (o := .tup [.str "c", .str "read", .ref e2, .ref cl]) hTe
    replace xm1 := uu _ _ xm1
    replace xm2 := uu _ _ xm2
    replace xm3 := uu _ _ xm3
    replace xcl := uu _ _ xcl
    replace xe2 := uu _ _ xe2
    have xTe : upd H23 Te (.tup [.str "c", .str "read", .ref e2, .ref cl]) Te = some (.tup [.str "c", .str "read", .ref e2, .ref cl]) := upd_same
    clear uu
    generalize upd H23 Te (.tup [.str "c", .str "read", .ref e2, .ref cl]) = H24 at R24 xm1 xm2 xm3 xcl xe2 xTe ⊢
    refine ⟨z2, fun in3 hin3 => ?_⟩
    have R25 := R24.new (o := .tup [.str "a", .str "c"]) hin3
    have uu := same_upd (o := .tup [.str "a", .str "c"]) hin3
    replace xm1 := uu _ _ xm1
    replace xm2 := uu _ _ xm2
    replace xm3 := uu _ _ xm3
    replace xcl := uu _ _ xcl
    replace xe2 := uu _ _ xe2
    replace xTe := uu _ _ xTe
    have xin3 : upd H24 in3 (.tup [.str "a", .str "c"]) in3 = some (.tup [.str "a", .str "c"]) := upd_same
    clear uu
    generalize upd H24 in3 (.tup [.str "a", .str "c"]) = H25 at R25 xm1 xm2 xm3 xcl xe2 xTe xin3 ⊢
    refine ⟨z0, fun e3 he3 => ?_⟩
    have R26 := R25.new (o := .tup []) he3
    have uu := same_upd (o := .tup []) he3
    replace xm1 := uu _ _ xm1
    replace xm2 := uu _ _ xm2
    replace xm3 := uu _ _ xm3
    replace xcl := uu _ _ xcl
    replace xe2 := uu _ _ xe2
    replace xTe := uu _ _ xTe
    replace xin3 := uu _ _ xin3
    have xe3 : upd H25 e3 (.tup []) e3 = some (.tup []) := upd_same
    clear uu
    generalize upd H25 e3 (.tup []) = H26 at R26 xm1 xm2 xm3 xcl xe2 xTe xin3 xe3 ⊢
    refine ⟨z4, fun Tf hTf => ?_⟩
    have R27 := R26.new (o := .tup [.str "d", .str "union", .ref in3, .ref e3]) hTf
    have uu := same_upd (o := .tup [.str "d", .str "union", .ref in3, .ref e3]) hTf
    replace xm1 := uu _ _ xm1
    replace xm2 := uu _ _ xm2
    replace xm3 := uu _ _ xm3
    replace xcl := uu _ _ xcl
    replace xe2 := uu _ _ xe2
    replace xTe := uu _ _ xTe
    replace xin3 := uu _ _ xin3
    replace xe3 := uu _ _ xe3
    have xTf : upd H26 Tf (.tup [.str "d", .str "union", .ref in3, .ref e3]) Tf = some (.tup [.str "d", .str "union", .ref in3, .ref e3]) := upd_same
    clear uu
    generalize upd H26 Tf (.tup [.str "d", .str "union", .ref in3, .ref e3]) = H27 at R27 xm1 xm2 xm3 xcl xe2 xTe xin3 xe3 xTf ⊢
    refine ⟨z2, fun mr2 hmr2 => ?_⟩
    have R28 := R27.new (o := .tup [.ref Te, .ref Tf]) hmr2
    have uu := same_upd (o := .tup [.ref Te, .ref Tf]) hmr2
    replace xm1 := uu _ _ xm1
    replace xm2 := uu _ _ xm2
    replace xm3 := uu _ _ xm3
    replace xcl := uu _ _ xcl
    replace xe2 := uu _ _ xe2
    replace xTe := uu _ _ xTe
    replace xin3 := uu _ _ xin3
    replace xe3 := uu _ _ xe3
    replace xTf := uu _ _ xTf
    have xmr2 : upd H27 mr2 (.tup [.ref Te, .ref Tf]) mr2 = some (.tup [.ref Te, .ref Tf]) := upd_same
    clear uu
    generalize upd H27 mr2 (.tup [.ref Te, .ref Tf]) = H28 at R28 xm1 xm2 xm3 xcl xe2 xTe xin3 xe3 xTf xmr2 ⊢
    refine ⟨st, mr2, _, _, rfl, rfl, SqT.of (kt R28 _ _ hst), SqT.of xmr2, Nat.le_trans (show _ ≤ 12 by rw [List.length_map]; show as.length + 2 ≤ 12; omega) (by decide), fun z => absurd z nea, fun _ z => (by cases z), fun _ _ pp2 hpp2 => ?_⟩
    have R29 := R28.new (o := .tup ((as.map fun p => V.ref p.1) ++ [.ref Te, .ref Tf])) hpp2
    have uu := same_upd (o := .tup ((as.map fun p => V.ref p.1) ++ [.ref Te, .ref Tf])) hpp2
    replace xm1 := uu _ _ xm1
    replace xm2 := uu _ _ xm2
    replace xm3 := uu _ _ xm3
    replace xcl := uu _ _ xcl
    replace xe2 := uu _ _ xe2
    replace xTe := uu _ _ xTe
    replace xin3 := uu _ _ xin3
    replace xe3 := uu _ _ xe3
    replace xTf := uu _ _ xTf
    replace xmr2 := uu _ _ xmr2
    have xpp2 : upd H28 pp2 (.tup ((as.map fun p => V.ref p.1) ++ [.ref Te, .ref Tf])) pp2 = some (.tup ((as.map fun p => V.ref p.1) ++ [.ref Te, .ref Tf])) := upd_same
    clear uu
    generalize upd H28 pp2 (.tup ((as.map fun p => V.ref p.1) ++ [.ref Te, .ref Tf])) = H29 at R29 xm1 xm2 xm3 xcl xe2 xTe xin3 xe3 xTf xmr2 xpp2 ⊢
    refine ⟨z2, fun wd2 hwd2 => ?_⟩
    have R30 := R29.new (o := .tup [.ref pp2, .str "d"]) hwd2
    have uu := same_upd (o := .tup [.ref pp2, .str "d"]) hwd2
    replace xm1 := uu _ _ xm1
    replace xm2 := uu _ _ xm2
    replace xm3 := uu _ _ xm3
    replace xcl := uu _ _ xcl
    replace xe2 := uu _ _ xe2
    replace xTe := uu _ _ xTe
    replace xin3 := uu _ _ xin3
    replace xe3 := uu _ _ xe3
    replace xTf := uu _ _ xTf
    replace xmr2 := uu _ _ xmr2
    replace xpp2 := uu _ _ xpp2
    have xwd2 : upd H29 wd2 (.tup [.ref pp2, .str "d"]) wd2 = some (.tup [.ref pp2, .str "d"]) := upd_same
    clear uu
    generalize upd H29 wd2 (.tup [.ref pp2, .str "d"]) = H30 at R30 xm1 xm2 xm3 xcl xe2 xTe xin3 xe3 xTf xmr2 xpp2 xwd2 ⊢
    have JW : JobAt H30 wd2 (as ++ [(Te, ⟨"c", [], .read [("k", true), ("t", vc), (nm3, true)]⟩), (Tf, ⟨"d", ["a", "c"], .union⟩)]) "d" := by
      refine job_more (sat R30) (by omega) xpp2 xwd2 ⟨e2, .ref cl, xTe, xe2, cl, [(m1, "k", true), (m2, "t", vc), (m3, nm3, true)], rfl, ⟨ocl, hocl, xcl⟩, fun c hc => ?_, rfl⟩ ⟨⟨by show (3 : Nat) ≤ 100; decide, fun c hc => ?_, rfl⟩, fun ks fs z => by cases z⟩ ⟨in3, .ref e3, xTf, xin3, e3, rfl, xe3⟩ ⟨⟨trivial, trivial, rfl⟩, fun ks fs z => by cases z⟩
      · rcases List.mem_cons.mp hc with rfl | hc
        · exact xm1
        · rcases List.mem_cons.mp hc with rfl | hc
          · exact xm2
          · rw [List.mem_singleton.mp hc]
            exact xm3
      · rcases List.mem_cons.mp hc with rfl | hc
        · show ("k" : Str) ∈ bigN
          decide +kernel
        · rcases List.mem_cons.mp hc with rfl | hc
          · show ("t" : Str) ∈ bigN
            decide +kernel
          · rw [List.mem_singleton.mp hc]
            exact hnm3
    refine ⟨_, rfl, wd2, _, _, rfl, JW, fun HH sJ => ⟨_, rfl, iteF ?_⟩⟩
    have RR := R30.same sJ
    clear sJ JW xm1 xm2 xm3 xcl xe2 xTe xin3 xe3 xTf xmr2 xpp2 xwd2
    obtain ⟨nz, DZ⟩ := RR.dr
    refine ⟨3, rfl, by decide, by decide, for_range (n := 3) (fun j σ G => ∃ y2 y4 y5 y6 y7 y8, σ = [some (.ref a), some (.ref d), y2, some (.ref r), y4, y5, y6, y7, y8] ∧ LwS H1 G d s ns [.ref g])
      ⟨_, _, _, _, _, _, rfl, RR⟩ ?_ ?_⟩
    · rintro j σ G hj ⟨y2, y4, y5, y6, y7, y8, rfl, R⟩
      obtain ⟨nG, DG⟩ := R.dr
      refine ⟨_, rfl, _, rfl, d, s, r, ns, _, nG, as, last, rfl, DG, jat R, hne, hsm, fun r2 as2 an2 n2 G2 J2 b2 D2 => ?_⟩
      have R2 := R.go b2 D2
      refine ⟨_, rfl, r2, as2, an2, rfl, J2, fun G3 s3 => ⟨_, rfl, iteF ?_⟩⟩
      exact ⟨_, _, _, _, _, _, rfl, R2.same s3⟩
    · rintro σ G ⟨y2, y4, y5, y6, y7, y8, rfl, R⟩
      obtain ⟨nG, DG⟩ := R.dr
      exact ⟨nG, _, _, _, _, _, _, _, _, rfl, DG, .inr ⟨_, rfl⟩⟩
  · rintro σ H' _
    exact q _
end
end Kx

namespace Kx
open PySem PySem.Spec PyProof.Rows L2
abbrev sLaw : Stmt := s_law
section
variable {P : Program} {w : World} {K : PySem.W.Frag} {mg : Str → Option Value} {base : Heap} {f : Addr} {fd : FuncData} {k : Nat}
theorem no_def {sp : Sp} {ps : List Str} (h : ∀ vs H Q E, ¬ sp vs H Q E) : FnOk P w K mg base CX0 k f fd ps sp :=
  ⟨fun vs H Q E z => absurd z (h vs H Q E), fun A outer s H args us vs Q E _ _ _ _ z => absurd z (h vs H Q E)⟩
theorem no_kind : FnOk P w K mg base CX0 k f fd ["told", "kinds"] (spKind 0) := no_def fun vs H Q E ⟨_, _, _, e, _, _, _, h, _⟩ => absurd e.dep_pos (by omega)
theorem no_lkind : FnOk P w K mg base CX0 k f fd ["told", "columns"] (spLKind 0) := no_def fun vs H Q E ⟨_, _, _, e, _, _, _, h, _⟩ => absurd e.dep_pos (by omega)
theorem no_int : FnOk P w K mg base CX0 k f fd ["draw", "columns", "deep"] (spInt 0) := no_def fun vs H Q E ⟨_, _, _, _, _, _, _, _, _, _, _, _, _, h0, h1, _⟩ => by omega
end
/-- an error of the class at S is what «except S» names -/
theorem exm_own {K : PySem.W.Frag} {S : Addr} (h1 : PySem.W.subIn K (.ref S) (.type "BaseException") = some true) (h2 : PySem.W.isClsIn K S = true) (h3 : PySem.W.typeIn K (.ref S) = some (.type "type")) (h4 : PySem.W.subIn K (.ref S) (.ref S) = some true) : PySem.W.exmOne K (.ref S) (.ref S) = some true := by
  have sub : (PySem.W.subIn K (.ref S) (.type "BaseException") == some true) = true := by rw [h1] <;> rfl
  have cls : ((PySem.W.clsIn K S).isSome && PySem.W.typeIn K (.ref S) == some (.type "type")) = true := by
    rw [show (PySem.W.clsIn K S).isSome = true from h2, h3] <;> rfl
  show (if (PySem.W.subIn K (.ref S) (.type "BaseException") == some true) = true then (if ((PySem.W.clsIn K S).isSome && PySem.W.typeIn K (.ref S) == some (.type "type")) = true then PySem.W.subIn K (.ref S) (.ref S) else none) else none) = some true
  rw [if_pos sub, if_pos cls, h4]
theorem all_mk {l : PySem.W.OpenLaw} {w : World} {K : PySem.W.Frag} {h : Heap} {mg : Str → Option Value} {fa : Addr} (X : K.In h) (G : h.Ns mainGlobals mg) (hfa : mg "law" = some (.ref fa))
    {f1 f2 f3 f4 f5 f6 f7 f8 f9 f10 f11 f12 f13 f14 f15 f16 f17 f18 f19 f20 f21 f22 f23 f24 f25 f26 f27 f28 f29 f30 f31 f32 f33 f34 f35 : Addr} {od1 an1 od2 an2 od3 an3 od4 an4 od5 an5 od6 an6 od7 an7 od8 an8 od9 an9 od10 an10 od11 an11 od12 an12 od13 an13 od14 an14 od15 an15 od16 an16 od17 an17 od18 an18 od19 an19 od20 an20 od21 an21 od22 an22 od23 an23 od24 an24 od25 an25 od26 an26 od27 an27 od28 an28 od29 an29 od30 an30 od31 an31 od32 an32 od33 an33 od34 an34 od35 an35 : Option Addr} {sl1 sl2 sl3 sl4 sl5 sl6 sl7 sl8 sl9 sl10 sl11 sl12 sl13 sl14 sl15 sl16 sl17 sl18 sl19 sl20 sl21 sl22 sl23 sl24 sl25 sl26 sl27 sl28 sl29 sl30 sl31 sl32 sl33 sl34 sl35 : Array (Option Value)} {oc1 kV1 dc1 pm1 cd1 ct1 oc2 kV2 dc2 pm2 cd2 ct2 oc3 kV3 dc3 pm3 cd3 ct3 oc4 kV4 dc4 pm4 cd4 ct4 oc5 kV5 dc5 pm5 cd5 ct5 oc6 kV6 dc6 pm6 cd6 ct6 oc7 kV7 dc7 pm7 cd7 ct7 oc8 kV8 dc8 pm8 cd8 ct8 oc9 kV9 dc9 pm9 cd9 ct9 oc10 kV10 dc10 pm10 cd10 ct10 oc11 kV11 dc11 pm11 cd11 ct11 oc12 kV12 dc12 pm12 cd12 ct12 oc13 kV13 dc13 pm13 cd13 ct13 oc14 kV14 dc14 pm14 cd14 ct14 oc15 kV15 dc15 pm15 cd15 ct15 oc16 kV16 dc16 pm16 cd16 ct16 oc17 kV17 dc17 pm17 cd17 ct17 oc18 kV18 dc18 pm18 cd18 ct18 oc19 kV19 dc19 pm19 cd19 ct19 oc20 kV20 dc20 pm20 cd20 ct20 oc21 kV21 dc21 pm21 cd21 ct21 oc22 kV22 dc22 pm22 cd22 ct22 oc23 kV23 dc23 pm23 cd23 ct23 oc24 kV24 dc24 pm24 cd24 ct24 oc25 kV25 dc25 pm25 cd25 ct25 oc26 kV26 dc26 pm26 cd26 ct26 oc27 kV27 dc27 pm27 cd27 ct27 oc28 kV28 dc28 pm28 cd28 ct28 oc29 kV29 dc29 pm29 cd29 ct29 oc30 kV30 dc30 pm30 cd30 ct30 oc31 kV31 dc31 pm31 cd31 ct31 oc32 kV32 dc32 pm32 cd32 ct32 oc33 kV33 dc33 pm33 cd33 ct33 oc34 kV34 dc34 pm34 cd34 ct34 oc35 kV35 dc35 pm35 cd35 ct35 : Value}  {C fI N BE dl dc : Addr} {nm qn : Str} {bs : List Value} {sn : List Str} {sub : List Value} {ab : Bool} {col : Option Bool} {dd odI anI : Option Addr} {n0 n1 n2 n3 n5 : Option Value} {slI : Array (Option Value)} {ocI dcI pmI cdI ctI : Value} {es es2 : Array DictEntry} {nn nn2 : Nat} {u4 w1 w2 w3 w4 w5 w6 w7 w8 w9 w10 w11 w12 w13 : Tok}
    (a1 : PySem.W.nsIn K mainGlobals "kind_of_two" = some (some (.ref f1))) (l1 : K.lookup f1 = some ⟨oc1, od1, .func (PySem.W.fnOf "kind_of_two" "kind_of_two" (defArgs s_two) (defBody s_two) (defScope s_two) .none kV1 dc1 pm1 an1 cd1 ct1), sl1⟩) (c1 : PySem.W.codeIn K cd1 "kind_of_two" = true) (k1 : PySem.W.keepIn K (.ref f1) = true)
    (a2 : PySem.W.nsIn K mainGlobals "kind_of" = some (some (.ref f2))) (l2 : K.lookup f2 = some ⟨oc2, od2, .func (PySem.W.fnOf "kind_of" "kind_of" (defArgs s_kind) (defBody s_kind) (defScope s_kind) .none kV2 dc2 pm2 an2 cd2 ct2), sl2⟩) (c2 : PySem.W.codeIn K cd2 "kind_of" = true) (k2 : PySem.W.keepIn K (.ref f2) = true)
    (a3 : PySem.W.nsIn K mainGlobals "check_there" = some (some (.ref f3))) (l3 : K.lookup f3 = some ⟨oc3, od3, .func (PySem.W.fnOf "check_there" "check_there" (defArgs s_check_there) (defBody s_check_there) (defScope s_check_there) .none kV3 dc3 pm3 an3 cd3 ct3), sl3⟩) (c3 : PySem.W.codeIn K cd3 "check_there" = true) (k3 : PySem.W.keepIn K (.ref f3) = true)
    (a4 : PySem.W.nsIn K mainGlobals "unlike_columns" = some (some (.ref f4))) (l4 : K.lookup f4 = some ⟨oc4, od4, .func (PySem.W.fnOf "unlike_columns" "unlike_columns" (defArgs s_unlike_columns) (defBody s_unlike_columns) (defScope s_unlike_columns) .none kV4 dc4 pm4 an4 cd4 ct4), sl4⟩) (c4 : PySem.W.codeIn K cd4 "unlike_columns" = true) (k4 : PySem.W.keepIn K (.ref f4) = true)
    (a5 : PySem.W.nsIn K mainGlobals "columns_of_read" = some (some (.ref f5))) (l5 : K.lookup f5 = some ⟨oc5, od5, .func (PySem.W.fnOf "columns_of_read" "columns_of_read" (defArgs s_columns_of_read) (defBody s_columns_of_read) (defScope s_columns_of_read) .none kV5 dc5 pm5 an5 cd5 ct5), sl5⟩) (c5 : PySem.W.codeIn K cd5 "columns_of_read" = true) (k5 : PySem.W.keepIn K (.ref f5) = true)
    (a6 : PySem.W.nsIn K mainGlobals "columns_of_filter" = some (some (.ref f6))) (l6 : K.lookup f6 = some ⟨oc6, od6, .func (PySem.W.fnOf "columns_of_filter" "columns_of_filter" (defArgs s_columns_of_filter) (defBody s_columns_of_filter) (defScope s_columns_of_filter) .none kV6 dc6 pm6 an6 cd6 ct6), sl6⟩) (c6 : PySem.W.codeIn K cd6 "columns_of_filter" = true) (k6 : PySem.W.keepIn K (.ref f6) = true)
    (a7 : PySem.W.nsIn K mainGlobals "columns_of_map" = some (some (.ref f7))) (l7 : K.lookup f7 = some ⟨oc7, od7, .func (PySem.W.fnOf "columns_of_map" "columns_of_map" (defArgs s_columns_of_map) (defBody s_columns_of_map) (defScope s_columns_of_map) .none kV7 dc7 pm7 an7 cd7 ct7), sl7⟩) (c7 : PySem.W.codeIn K cd7 "columns_of_map" = true) (k7 : PySem.W.keepIn K (.ref f7) = true)
    (a8 : PySem.W.nsIn K mainGlobals "kind_of_fold" = some (some (.ref f8))) (l8 : K.lookup f8 = some ⟨oc8, od8, .func (PySem.W.fnOf "kind_of_fold" "kind_of_fold" (defArgs s_kind_of_fold) (defBody s_kind_of_fold) (defScope s_kind_of_fold) .none kV8 dc8 pm8 an8 cd8 ct8), sl8⟩) (c8 : PySem.W.codeIn K cd8 "kind_of_fold" = true) (k8 : PySem.W.keepIn K (.ref f8) = true)
    (a9 : PySem.W.nsIn K mainGlobals "columns_of_fold" = some (some (.ref f9))) (l9 : K.lookup f9 = some ⟨oc9, od9, .func (PySem.W.fnOf "columns_of_fold" "columns_of_fold" (defArgs s_columns_of_fold) (defBody s_columns_of_fold) (defScope s_columns_of_fold) .none kV9 dc9 pm9 an9 cd9 ct9), sl9⟩) (c9 : PySem.W.codeIn K cd9 "columns_of_fold" = true) (k9 : PySem.W.keepIn K (.ref f9) = true)
    (a10 : PySem.W.nsIn K mainGlobals "columns_of_join" = some (some (.ref f10))) (l10 : K.lookup f10 = some ⟨oc10, od10, .func (PySem.W.fnOf "columns_of_join" "columns_of_join" (defArgs s_columns_of_join) (defBody s_columns_of_join) (defScope s_columns_of_join) .none kV10 dc10 pm10 an10 cd10 ct10), sl10⟩) (c10 : PySem.W.codeIn K cd10 "columns_of_join" = true) (k10 : PySem.W.keepIn K (.ref f10) = true)
    (a11 : PySem.W.nsIn K mainGlobals "columns_of_union" = some (some (.ref f11))) (l11 : K.lookup f11 = some ⟨oc11, od11, .func (PySem.W.fnOf "columns_of_union" "columns_of_union" (defArgs s_columns_of_union) (defBody s_columns_of_union) (defScope s_columns_of_union) .none kV11 dc11 pm11 an11 cd11 ct11), sl11⟩) (c11 : PySem.W.codeIn K cd11 "columns_of_union" = true) (k11 : PySem.W.keepIn K (.ref f11) = true)
    (a12 : PySem.W.nsIn K mainGlobals "columns_of_unlike" = some (some (.ref f12))) (l12 : K.lookup f12 = some ⟨oc12, od12, .func (PySem.W.fnOf "columns_of_unlike" "columns_of_unlike" (defArgs s_columns_of_unlike) (defBody s_columns_of_unlike) (defScope s_columns_of_unlike) .none kV12 dc12 pm12 an12 cd12 ct12), sl12⟩) (c12 : PySem.W.codeIn K cd12 "columns_of_unlike" = true) (k12 : PySem.W.keepIn K (.ref f12) = true)
    (a13 : PySem.W.nsIn K mainGlobals "columns_of_sort" = some (some (.ref f13))) (l13 : K.lookup f13 = some ⟨oc13, od13, .func (PySem.W.fnOf "columns_of_sort" "columns_of_sort" (defArgs s_columns_of_sort) (defBody s_columns_of_sort) (defScope s_columns_of_sort) .none kV13 dc13 pm13 an13 cd13 ct13), sl13⟩) (c13 : PySem.W.codeIn K cd13 "columns_of_sort" = true) (k13 : PySem.W.keepIn K (.ref f13) = true)
    (a14 : PySem.W.nsIn K mainGlobals "columns_of" = some (some (.ref f14))) (l14 : K.lookup f14 = some ⟨oc14, od14, .func (PySem.W.fnOf "columns_of" "columns_of" (defArgs s_columns_of) (defBody s_columns_of) (defScope s_columns_of) .none kV14 dc14 pm14 an14 cd14 ct14), sl14⟩) (c14 : PySem.W.codeIn K cd14 "columns_of" = true) (k14 : PySem.W.keepIn K (.ref f14) = true)
    (a15 : PySem.W.nsIn K mainGlobals "_law_cell_at" = some (some (.ref f15))) (l15 : K.lookup f15 = some ⟨oc15, od15, .func (PySem.W.fnOf "_law_cell_at" "_law_cell_at" (defArgs sCell) (defBody sCell) (defScope sCell) .none kV15 dc15 pm15 an15 cd15 ct15), sl15⟩) (c15 : PySem.W.codeIn K cd15 "_law_cell_at" = true) (k15 : PySem.W.keepIn K (.ref f15) = true)
    (a16 : PySem.W.nsIn K mainGlobals "_law_draw" = some (some (.ref f16))) (l16 : K.lookup f16 = some ⟨oc16, od16, .func (PySem.W.fnOf "_law_draw" "_law_draw" (defArgs sDraw) (defBody sDraw) (defScope sDraw) .none kV16 dc16 pm16 an16 cd16 ct16), sl16⟩) (c16 : PySem.W.codeIn K cd16 "_law_draw" = true) (k16 : PySem.W.keepIn K (.ref f16) = true)
    (a17 : PySem.W.nsIn K mainGlobals "_law_number" = some (some (.ref f17))) (l17 : K.lookup f17 = some ⟨oc17, od17, .func (PySem.W.fnOf "_law_number" "_law_number" (defArgs sNumb) (defBody sNumb) (defScope sNumb) .none kV17 dc17 pm17 an17 cd17 ct17), sl17⟩) (c17 : PySem.W.codeIn K cd17 "_law_number" = true) (k17 : PySem.W.keepIn K (.ref f17) = true)
    (a18 : PySem.W.nsIn K mainGlobals "_law_next" = some (some (.ref f18))) (l18 : K.lookup f18 = some ⟨oc18, od18, .func (PySem.W.fnOf "_law_next" "_law_next" (defArgs sNext) (defBody sNext) (defScope sNext) .none kV18 dc18 pm18 an18 cd18 ct18), sl18⟩) (c18 : PySem.W.codeIn K cd18 "_law_next" = true) (k18 : PySem.W.keepIn K (.ref f18) = true)
    (a19 : PySem.W.nsIn K mainGlobals "_law_pick" = some (some (.ref f19))) (l19 : K.lookup f19 = some ⟨oc19, od19, .func (PySem.W.fnOf "_law_pick" "_law_pick" (defArgs sPick) (defBody sPick) (defScope sPick) .none kV19 dc19 pm19 an19 cd19 ct19), sl19⟩) (c19 : PySem.W.codeIn K cd19 "_law_pick" = true) (k19 : PySem.W.keepIn K (.ref f19) = true)
    (a20 : PySem.W.nsIn K mainGlobals "_law_int" = some (some (.ref f20))) (l20 : K.lookup f20 = some ⟨oc20, od20, .func (PySem.W.fnOf "_law_int" "_law_int" (defArgs sInt) (defBody sInt) (defScope sInt) .none kV20 dc20 pm20 an20 cd20 ct20), sl20⟩) (c20 : PySem.W.codeIn K cd20 "_law_int" = true) (k20 : PySem.W.keepIn K (.ref f20) = true)
    (a21 : PySem.W.nsIn K mainGlobals "_law_map" = some (some (.ref f21))) (l21 : K.lookup f21 = some ⟨oc21, od21, .func (PySem.W.fnOf "_law_map" "_law_map" (defArgs s_law_map) (defBody s_law_map) (defScope s_law_map) .none kV21 dc21 pm21 an21 cd21 ct21), sl21⟩) (c21 : PySem.W.codeIn K cd21 "_law_map" = true) (k21 : PySem.W.keepIn K (.ref f21) = true)
    (a22 : PySem.W.nsIn K mainGlobals "_law_fold" = some (some (.ref f22))) (l22 : K.lookup f22 = some ⟨oc22, od22, .func (PySem.W.fnOf "_law_fold" "_law_fold" (defArgs s_law_fold) (defBody s_law_fold) (defScope s_law_fold) .none kV22 dc22 pm22 an22 cd22 ct22), sl22⟩) (c22 : PySem.W.codeIn K cd22 "_law_fold" = true) (k22 : PySem.W.keepIn K (.ref f22) = true)
    (a23 : PySem.W.nsIn K mainGlobals "_law_join" = some (some (.ref f23))) (l23 : K.lookup f23 = some ⟨oc23, od23, .func (PySem.W.fnOf "_law_join" "_law_join" (defArgs s_law_join) (defBody s_law_join) (defScope s_law_join) .none kV23 dc23 pm23 an23 cd23 ct23), sl23⟩) (c23 : PySem.W.codeIn K cd23 "_law_join" = true) (k23 : PySem.W.keepIn K (.ref f23) = true)
    (a24 : PySem.W.nsIn K mainGlobals "_law_most" = some (some (.ref f24))) (l24 : K.lookup f24 = some ⟨oc24, od24, .func (PySem.W.fnOf "_law_most" "_law_most" (defArgs s_law_most) (defBody s_law_most) (defScope s_law_most) .none kV24 dc24 pm24 an24 cd24 ct24), sl24⟩) (c24 : PySem.W.codeIn K cd24 "_law_most" = true) (k24 : PySem.W.keepIn K (.ref f24) = true)
    (a25 : PySem.W.nsIn K mainGlobals "_law_step" = some (some (.ref f25))) (l25 : K.lookup f25 = some ⟨oc25, od25, .func (PySem.W.fnOf "_law_step" "_law_step" (defArgs s_law_step) (defBody s_law_step) (defScope s_law_step) .none kV25 dc25 pm25 an25 cd25 ct25), sl25⟩) (c25 : PySem.W.codeIn K cd25 "_law_step" = true) (k25 : PySem.W.keepIn K (.ref f25) = true)
    (a26 : PySem.W.nsIn K mainGlobals "_law_job" = some (some (.ref f26))) (l26 : K.lookup f26 = some ⟨oc26, od26, .func (PySem.W.fnOf "_law_job" "_law_job" (defArgs s_law_job) (defBody s_law_job) (defScope s_law_job) .none kV26 dc26 pm26 an26 cd26 ct26), sl26⟩) (c26 : PySem.W.codeIn K cd26 "_law_job" = true) (k26 : PySem.W.keepIn K (.ref f26) = true)
    (a27 : PySem.W.nsIn K mainGlobals "_law_kind" = some (some (.ref f27))) (l27 : K.lookup f27 = some ⟨oc27, od27, .func (PySem.W.fnOf "_law_kind" "_law_kind" (defArgs s_law_kind) (defBody s_law_kind) (defScope s_law_kind) .none kV27 dc27 pm27 an27 cd27 ct27), sl27⟩) (c27 : PySem.W.codeIn K cd27 "_law_kind" = true) (k27 : PySem.W.keepIn K (.ref f27) = true)
    (a28 : PySem.W.nsIn K mainGlobals "_law_fold_columns" = some (some (.ref f28))) (l28 : K.lookup f28 = some ⟨oc28, od28, .func (PySem.W.fnOf "_law_fold_columns" "_law_fold_columns" (defArgs s_law_fold_columns) (defBody s_law_fold_columns) (defScope s_law_fold_columns) .none kV28 dc28 pm28 an28 cd28 ct28), sl28⟩) (c28 : PySem.W.codeIn K cd28 "_law_fold_columns" = true) (k28 : PySem.W.keepIn K (.ref f28) = true)
    (a29 : PySem.W.nsIn K mainGlobals "_law_join_columns" = some (some (.ref f29))) (l29 : K.lookup f29 = some ⟨oc29, od29, .func (PySem.W.fnOf "_law_join_columns" "_law_join_columns" (defArgs s_law_join_columns) (defBody s_law_join_columns) (defScope s_law_join_columns) .none kV29 dc29 pm29 an29 cd29 ct29), sl29⟩) (c29 : PySem.W.codeIn K cd29 "_law_join_columns" = true) (k29 : PySem.W.keepIn K (.ref f29) = true)
    (a30 : PySem.W.nsIn K mainGlobals "_law_columns" = some (some (.ref f30))) (l30 : K.lookup f30 = some ⟨oc30, od30, .func (PySem.W.fnOf "_law_columns" "_law_columns" (defArgs s_law_columns) (defBody s_law_columns) (defScope s_law_columns) .none kV30 dc30 pm30 an30 cd30 ct30), sl30⟩) (c30 : PySem.W.codeIn K cd30 "_law_columns" = true) (k30 : PySem.W.keepIn K (.ref f30) = true)
    (a31 : PySem.W.nsIn K mainGlobals "_law_changed" = some (some (.ref f31))) (l31 : K.lookup f31 = some ⟨oc31, od31, .func (PySem.W.fnOf "_law_changed" "_law_changed" (defArgs s_law_changed) (defBody s_law_changed) (defScope s_law_changed) .none kV31 dc31 pm31 an31 cd31 ct31), sl31⟩) (c31 : PySem.W.codeIn K cd31 "_law_changed" = true) (k31 : PySem.W.keepIn K (.ref f31) = true)
    (a32 : PySem.W.nsIn K mainGlobals "_law_told" = some (some (.ref f32))) (l32 : K.lookup f32 = some ⟨oc32, od32, .func (PySem.W.fnOf "_law_told" "_law_told" (defArgs s_law_told) (defBody s_law_told) (defScope s_law_told) .none kV32 dc32 pm32 an32 cd32 ct32), sl32⟩) (c32 : PySem.W.codeIn K cd32 "_law_told" = true) (k32 : PySem.W.keepIn K (.ref f32) = true)
    (a33 : PySem.W.nsIn K mainGlobals "_law_is_due" = some (some (.ref f33))) (l33 : K.lookup f33 = some ⟨oc33, od33, .func (PySem.W.fnOf "_law_is_due" "_law_is_due" (defArgs s_law_is_due) (defBody s_law_is_due) (defScope s_law_is_due) .none kV33 dc33 pm33 an33 cd33 ct33), sl33⟩) (c33 : PySem.W.codeIn K cd33 "_law_is_due" = true) (k33 : PySem.W.keepIn K (.ref f33) = true)
    (a34 : PySem.W.nsIn K mainGlobals "_law_due" = some (some (.ref f34))) (l34 : K.lookup f34 = some ⟨oc34, od34, .func (PySem.W.fnOf "_law_due" "_law_due" (defArgs s_law_due) (defBody s_law_due) (defScope s_law_due) .none kV34 dc34 pm34 an34 cd34 ct34), sl34⟩) (c34 : PySem.W.codeIn K cd34 "_law_due" = true) (k34 : PySem.W.keepIn K (.ref f34) = true)
    (a35 : PySem.W.nsIn K mainGlobals "law" = some (some (.ref f35))) (l35 : K.lookup f35 = some ⟨oc35, od35, .func (PySem.W.fnOf "law" "law" (defArgs sLaw) (defBody sLaw) (defScope sLaw) .none kV35 dc35 pm35 an35 cd35 ct35), sl35⟩) (c35 : PySem.W.codeIn K cd35 "law" = true) (k35 : PySem.W.keepIn K (.ref f35) = true)
    (z1 : PySem.W.nsIn K mainGlobals "len" = some none)
    (z2 : PySem.W.nsIn K mainGlobals "int" = some none)
    (z3 : PySem.W.nsIn K mainGlobals "range" = some none)
    (z4 : PySem.W.nsIn K mainGlobals "sum" = some none)
    (z5 : PySem.W.nsIn K mainGlobals "min" = some none)
    (z6 : PySem.W.nsIn K mainGlobals "str" = some none)
    (z7 : PySem.W.nsIn K mainGlobals "tuple" = some none)
    (z8 : PySem.W.nsIn K mainGlobals "list" = some none)
    (z9 : PySem.W.nsIn K mainGlobals "dict" = some none)
    (z10 : PySem.W.nsIn K mainGlobals "all" = some none)
    (z11 : PySem.W.nsIn K mainGlobals "set" = some none)
    (z12 : PySem.W.nsIn K mainGlobals "sorted" = some none)
    (z13 : PySem.W.nsIn K mainGlobals "isinstance" = some none)
    (aC : PySem.W.nsIn K mainGlobals "BadJob" = some (some (.ref C)))
    (xL : K.lookup C = some (excClassObj nm qn C N bs [.ref BE, .type "Exception", .type "BaseException", .type "object"] true sn sub ab col dd n0 n1 n2 n3 n5 "Exception.__new__"))
    (sa : PySem.W.findIn K (.ref C) "__setattr__" = some (some (.builtin "object.__setattr__"))) (gat : PySem.W.findIn K (.ref C) "__getattribute__" = some (some (.builtin "BaseException.__getattribute__"))) (gg : PySem.W.findIn K (.ref C) "__getattr__" = some none) (nb : PySem.W.findIn K (.ref C) "name" = some none) (nw : PySem.W.findIn K (.ref C) "why" = some none)
    (ai : PySem.W.findIn K (.ref C) "__init__" = some (some (.ref fI))) (ti : PySem.W.typeIn K (.ref fI) = some (.type "function"))
    (li : K.lookup fI = some ⟨ocI, odI, .func (PySem.W.fnOf "__init__" "BadJob.__init__" (PySem.BadY.iA ⟨6, 17, 6, 21⟩ ⟨6, 23, 6, 27⟩ ⟨6, 29, 6, 32⟩) (PySem.BadY.iB ⟨7, 8, 7, 12⟩ ⟨7, 8, 7, 17⟩ ⟨7, 20, 7, 24⟩ ⟨7, 8, 7, 24⟩ ⟨8, 8, 8, 12⟩ ⟨8, 8, 8, 16⟩ ⟨8, 19, 8, 22⟩ ⟨8, 8, 8, 22⟩) PySem.BadY.iS .none .none dcI pmI anI cdI ctI), slI⟩) (ci : PySem.W.codeIn K cdI "BadJob.__init__" = true)
    (kC : PySem.W.keepIn K (.ref C) = true) (eC : PySem.W.subIn K (.ref C) (.type "BaseException") = some true) (tyC : PySem.W.typeIn K (.ref C) = some (.type "type")) (hC : PySem.W.hasDictIn K C = true) (iC : PySem.W.isClsIn K C = true) (sC : PySem.W.subIn K (.ref C) (.ref C) = some true)
    (g4 : PySem.W.nsIn K mainGlobals "COMPARISON" = some (some (.int 4 u4))) (gD : PySem.W.nsIn K mainGlobals "LEVELS" = some (some (.ref dl))) (lD : K.lookup dl = some ⟨.type "dict", none, .dict es nn, #[]⟩) (o1 : PySem.W.nsIn K dl "or" = some (some (.int 1 w1))) (o2 : PySem.W.nsIn K dl "and" = some (some (.int 2 w2))) (o3 : PySem.W.nsIn K dl "=" = some (some (.int 4 w3))) (o4 : PySem.W.nsIn K dl "!=" = some (some (.int 4 w4))) (o5 : PySem.W.nsIn K dl "<" = some (some (.int 4 w5))) (o6 : PySem.W.nsIn K dl "<=" = some (some (.int 4 w6))) (o7 : PySem.W.nsIn K dl ">" = some (some (.int 4 w7))) (o8 : PySem.W.nsIn K dl ">=" = some (some (.int 4 w8))) (o9 : PySem.W.nsIn K dl "+" = some (some (.int 5 w9))) (o10 : PySem.W.nsIn K dl "-" = some (some (.int 5 w10))) (o11 : PySem.W.nsIn K dl "*" = some (some (.int 6 w11))) (o12 : PySem.W.nsIn K dl "/" = some (some (.int 6 w12))) (o13 : PySem.W.nsIn K dl "mod" = some (some (.int 6 w13))) (gK : PySem.W.KeysLit w.params es.toList)
    (gC2 : PySem.W.nsIn K mainGlobals "CHECKERS" = some (some (.ref dc))) (lC : K.lookup dc = some ⟨.type "dict", none, .dict es2 nn2, #[]⟩) (p1 : PySem.W.nsIn K dc "read" = some (some (.ref f5))) (p2 : PySem.W.nsIn K dc "filter" = some (some (.ref f6))) (p3 : PySem.W.nsIn K dc "map" = some (some (.ref f7))) (p4 : PySem.W.nsIn K dc "fold" = some (some (.ref f9))) (p5 : PySem.W.nsIn K dc "join" = some (some (.ref f10))) (p6 : PySem.W.nsIn K dc "union" = some (some (.ref f11))) (p7 : PySem.W.nsIn K dc "unlike" = some (some (.ref f12))) (p8 : PySem.W.nsIn K dc "sort" = some (some (.ref f13))) (gK2 : PySem.W.KeysLit w.params es2.toList) :
    ∃ fd : FuncData, (∀ (s : Shared) (v : Value), BindsTo s fd ⟨[v], []⟩ [("script", v)]) ∧ ∀ base : Heap, K.In base → base.Ns mainGlobals mg → FnOk l.prog w K mg base CX0 19 fa fd ["script"] (spLaw K) := by
  have e := hfa.symm.trans (PySem.W.mg_of X G a35)
  cases e
  have F1 := fun_mk (st := s_two) l1 c1 k1
  have b1 := F1.binds (ps := ["op", "one", "other"]) fun _ _ _ _ _ _ us hl => match us, hl with | [_, _, _], _ => rfl
  have m1 := PySem.W.mg_of X G a1
  have F2 := fun_mk (st := s_kind) l2 c2 k2
  have b2 := F2.binds (ps := ["told", "kinds"]) fun _ _ _ _ _ _ us hl => match us, hl with | [_, _], _ => rfl
  have m2 := PySem.W.mg_of X G a2
  have F3 := fun_mk (st := s_check_there) l3 c3 k3
  have b3 := F3.binds (ps := ["name", "words", "kinds"]) fun _ _ _ _ _ _ us hl => match us, hl with | [_, _, _], _ => rfl
  have m3 := PySem.W.mg_of X G a3
  have F4 := fun_mk (st := s_unlike_columns) l4 c4 k4
  have b4 := F4.binds (ps := ["name", "columns"]) fun _ _ _ _ _ _ us hl => match us, hl with | [_, _], _ => rfl
  have m4 := PySem.W.mg_of X G a4
  have F5 := fun_mk (st := s_columns_of_read) l5 c5 k5
  have b5 := F5.binds (ps := ["name", "given", "details"]) fun _ _ _ _ _ _ us hl => match us, hl with | [_, _, _], _ => rfl
  have m5 := PySem.W.mg_of X G a5
  have F6 := fun_mk (st := s_columns_of_filter) l6 c6 k6
  have b6 := F6.binds (ps := ["name", "given", "details"]) fun _ _ _ _ _ _ us hl => match us, hl with | [_, _, _], _ => rfl
  have m6 := PySem.W.mg_of X G a6
  have F7 := fun_mk (st := s_columns_of_map) l7 c7 k7
  have b7 := F7.binds (ps := ["name", "given", "details"]) fun _ _ _ _ _ _ us hl => match us, hl with | [_, _, _], _ => rfl
  have m7 := PySem.W.mg_of X G a7
  have F8 := fun_mk (st := s_kind_of_fold) l8 c8 k8
  have b8 := F8.binds (ps := ["name", "fold", "told", "kinds"]) fun _ _ _ _ _ _ us hl => match us, hl with | [_, _, _, _], _ => rfl
  have m8 := PySem.W.mg_of X G a8
  have F9 := fun_mk (st := s_columns_of_fold) l9 c9 k9
  have b9 := F9.binds (ps := ["name", "given", "details"]) fun _ _ _ _ _ _ us hl => match us, hl with | [_, _, _], _ => rfl
  have m9 := PySem.W.mg_of X G a9
  have F10 := fun_mk (st := s_columns_of_join) l10 c10 k10
  have b10 := F10.binds (ps := ["name", "given", "details"]) fun _ _ _ _ _ _ us hl => match us, hl with | [_, _, _], _ => rfl
  have m10 := PySem.W.mg_of X G a10
  have F11 := fun_mk (st := s_columns_of_union) l11 c11 k11
  have b11 := F11.binds (ps := ["name", "given", "details"]) fun _ _ _ _ _ _ us hl => match us, hl with | [_, _, _], _ => rfl
  have m11 := PySem.W.mg_of X G a11
  have F12 := fun_mk (st := s_columns_of_unlike) l12 c12 k12
  have b12 := F12.binds (ps := ["name", "given", "details"]) fun _ _ _ _ _ _ us hl => match us, hl with | [_, _, _], _ => rfl
  have m12 := PySem.W.mg_of X G a12
  have F13 := fun_mk (st := s_columns_of_sort) l13 c13 k13
  have b13 := F13.binds (ps := ["name", "given", "details"]) fun _ _ _ _ _ _ us hl => match us, hl with | [_, _, _], _ => rfl
  have m13 := PySem.W.mg_of X G a13
  have F14 := fun_mk (st := s_columns_of) l14 c14 k14
  have b14 := F14.binds (ps := ["job"]) fun _ _ _ _ _ _ us hl => match us, hl with | [_], _ => rfl
  have m14 := PySem.W.mg_of X G a14
  have F15 := fun_mk (st := sCell) l15 c15 k15
  have b15 := F15.binds (ps := ["script", "k"]) fun _ _ _ _ _ _ us hl => match us, hl with | [_, _], _ => rfl
  have m15 := PySem.W.mg_of X G a15
  have F16 := fun_mk (st := sDraw) l16 c16 k16
  have b16 := F16.binds (ps := ["cell", "k", "bound"]) fun _ _ _ _ _ _ us hl => match us, hl with | [_, _, _], _ => rfl
  have m16 := PySem.W.mg_of X G a16
  have F17 := fun_mk (st := sNumb) l17 c17 k17
  have b17 := F17.binds (ps := ["cell", "k", "bound"]) fun _ _ _ _ _ _ us hl => match us, hl with | [_, _, _], _ => rfl
  have m17 := PySem.W.mg_of X G a17
  have F18 := fun_mk (st := sNext) l18 c18 k18
  have b18 := F18.binds (ps := ["draw", "bound"]) fun _ _ _ _ _ _ us hl => match us, hl with | [_, _], _ => rfl
  have m18 := PySem.W.mg_of X G a18
  have F19 := fun_mk (st := sPick) l19 c19 k19
  have b19 := F19.binds (ps := ["draw", "things"]) fun _ _ _ _ _ _ us hl => match us, hl with | [_, _], _ => rfl
  have m19 := PySem.W.mg_of X G a19
  have F20 := fun_mk (st := sInt) l20 c20 k20
  have b20 := F20.binds (ps := ["draw", "columns", "deep"]) fun _ _ _ _ _ _ us hl => match us, hl with | [_, _, _], _ => rfl
  have m20 := PySem.W.mg_of X G a20
  have F21 := fun_mk (st := s_law_map) l21 c21 k21
  have b21 := F21.binds (ps := ["draw", "columns", "at"]) fun _ _ _ _ _ _ us hl => match us, hl with | [_, _, _], _ => rfl
  have m21 := PySem.W.mg_of X G a21
  have F22 := fun_mk (st := s_law_fold) l22 c22 k22
  have b22 := F22.binds (ps := ["draw", "columns"]) fun _ _ _ _ _ _ us hl => match us, hl with | [_, _], _ => rfl
  have m22 := PySem.W.mg_of X G a22
  have F23 := fun_mk (st := s_law_join) l23 c23 k23
  have b23 := F23.binds (ps := ["draw", "known", "one"]) fun _ _ _ _ _ _ us hl => match us, hl with | [_, _, _], _ => rfl
  have m23 := PySem.W.mg_of X G a23
  have F24 := fun_mk (st := s_law_most) l24 c24 k24
  have b24 := F24.binds (ps := ["draw", "step"]) fun _ _ _ _ _ _ us hl => match us, hl with | [_, _], _ => rfl
  have m24 := PySem.W.mg_of X G a24
  have F25 := fun_mk (st := s_law_step) l25 c25 k25
  have b25 := F25.binds (ps := ["draw", "known", "name", "one"]) fun _ _ _ _ _ _ us hl => match us, hl with | [_, _, _, _], _ => rfl
  have m25 := PySem.W.mg_of X G a25
  have F26 := fun_mk (st := s_law_job) l26 c26 k26
  have b26 := F26.binds (ps := ["draw", "many"]) fun _ _ _ _ _ _ us hl => match us, hl with | [_, _], _ => rfl
  have m26 := PySem.W.mg_of X G a26
  have F27 := fun_mk (st := s_law_kind) l27 c27 k27
  have b27 := F27.binds (ps := ["told", "columns"]) fun _ _ _ _ _ _ us hl => match us, hl with | [_, _], _ => rfl
  have m27 := PySem.W.mg_of X G a27
  have F28 := fun_mk (st := s_law_fold_columns) l28 c28 k28
  have b28 := F28.binds (ps := ["details", "has"]) fun _ _ _ _ _ _ us hl => match us, hl with | [_, _], _ => rfl
  have m28 := PySem.W.mg_of X G a28
  have F29 := fun_mk (st := s_law_join_columns) l29 c29 k29
  have b29 := F29.binds (ps := ["details", "first", "second"]) fun _ _ _ _ _ _ us hl => match us, hl with | [_, _, _], _ => rfl
  have m29 := PySem.W.mg_of X G a29
  have F30 := fun_mk (st := s_law_columns) l30 c30 k30
  have b30 := F30.binds (ps := ["step", "known"]) fun _ _ _ _ _ _ us hl => match us, hl with | [_, _], _ => rfl
  have m30 := PySem.W.mg_of X G a30
  have F31 := fun_mk (st := s_law_changed) l31 c31 k31
  have b31 := F31.binds (ps := ["draw", "job"]) fun _ _ _ _ _ _ us hl => match us, hl with | [_, _], _ => rfl
  have m31 := PySem.W.mg_of X G a31
  have F32 := fun_mk (st := s_law_told) l32 c32 k32
  have b32 := F32.binds (ps := ["job"]) fun _ _ _ _ _ _ us hl => match us, hl with | [_], _ => rfl
  have m32 := PySem.W.mg_of X G a32
  have F33 := fun_mk (st := s_law_is_due) l33 c33 k33
  have b33 := F33.binds (ps := ["job"]) fun _ _ _ _ _ _ us hl => match us, hl with | [_], _ => rfl
  have m33 := PySem.W.mg_of X G a33
  have F34 := fun_mk (st := s_law_due) l34 c34 k34
  have b34 := F34.binds (ps := ["job"]) fun _ _ _ _ _ _ us hl => match us, hl with | [_], _ => rfl
  have m34 := PySem.W.mg_of X G a34
  have F35 := fun_mk (st := sLaw) l35 c35 k35
  have m_len := PySem.W.mg_none_of X G z1
  have m_int := PySem.W.mg_none_of X G z2
  have m_range := PySem.W.mg_none_of X G z3
  have m_sum := PySem.W.mg_none_of X G z4
  have m_min := PySem.W.mg_none_of X G z5
  have m_str := PySem.W.mg_none_of X G z6
  have m_tuple := PySem.W.mg_none_of X G z7
  have m_list := PySem.W.mg_none_of X G z8
  have m_dict := PySem.W.mg_none_of X G z9
  have m_all := PySem.W.mg_none_of X G z10
  have m_set := PySem.W.mg_none_of X G z11
  have m_sorted := PySem.W.mg_none_of X G z12
  have m_isinstance := PySem.W.mg_none_of X G z13
  have bad : PySem.BadY.BadTxt K mg C fI :=
    { gC := PySem.W.mg_of X G aC, cls := ⟨nm, qn, N, bs, _, sn, sub, ab, col, dd, n0, n1, n2, n3, n5, xL, rfl⟩, sa := sa, ga := gat, gg := gg, noN := nb, noW := nw, iC := ai, tC := ti, kC := kC, exC := eC, tyC := tyC, hdC := hC, te := exm_own eC iC tyC sC,
      fn := ⟨_, _, _, _, _, _, _, _, _, _, _, _, _, _, _, _, _, _, _, li, ci⟩ }
  have Lev : Lv K w mg := by
    refine ⟨⟨dl, PySem.W.mg_of X G gD, fun op h => ?_, fun op h => ?_⟩, _, PySem.W.mg_of X G g4⟩
    · have h' : op ∈ (["=", "!=", "<", "<=", ">", ">="] : List Str) := h
      simp only [List.mem_cons, List.not_mem_nil, or_false] at h'
      rcases h' with rfl | rfl | rfl | rfl | rfl | rfl
      · exact ⟨_, _, _, lD, gK, o3, _, rfl⟩
      · exact ⟨_, _, _, lD, gK, o4, _, rfl⟩
      · exact ⟨_, _, _, lD, gK, o5, _, rfl⟩
      · exact ⟨_, _, _, lD, gK, o6, _, rfl⟩
      · exact ⟨_, _, _, lD, gK, o7, _, rfl⟩
      · exact ⟨_, _, _, lD, gK, o8, _, rfl⟩
    · have h' : op ∈ (["+", "-", "*", "/", "mod", "and", "or"] : List Str) := h
      simp only [List.mem_cons, List.not_mem_nil, or_false] at h'
      rcases h' with rfl | rfl | rfl | rfl | rfl | rfl | rfl
      · exact ⟨5, by decide, _, _, _, lD, gK, o9, _, rfl⟩
      · exact ⟨5, by decide, _, _, _, lD, gK, o10, _, rfl⟩
      · exact ⟨6, by decide, _, _, _, lD, gK, o11, _, rfl⟩
      · exact ⟨6, by decide, _, _, _, lD, gK, o12, _, rfl⟩
      · exact ⟨6, by decide, _, _, _, lD, gK, o13, _, rfl⟩
      · exact ⟨2, by decide, _, _, _, lD, gK, o2, _, rfl⟩
      · exact ⟨1, by decide, _, _, _, lD, gK, o1, _, rfl⟩
  refine ⟨PySem.W.fnOf "law" "law" (defArgs sLaw) (defBody sLaw) (defScope sLaw) .none kV35 dc35 pm35 an35 cd35 ct35, fun s v => .of_eq rfl, fun base _ _ => ?_⟩
  have R_two : Ready l.prog w K mg base 1 "kind_of_two" ["op", "one", "other"] spTwoK := ⟨⟨f1, _, ok_twoK F1 Lev, b1, m1, k1⟩⟩
  have R_kind : ∀ m, Ready l.prog w K mg base (m + 1) "kind_of" ["told", "kinds"] (spKind m) := fun m => by
    induction m with
    | zero => exact ⟨⟨f2, _, no_kind, b2, m2, k2⟩⟩
    | succ m ih => exact ⟨⟨f2, _, ok_kind F2 R_two ih, b2, m2, k2⟩⟩
  have R_there : ReadyX l.prog w K mg base 2 "check_there" ["name", "words", "kinds"] (spThere K C) := ⟨⟨f3, _, ok_there F3 bad, b3, m3, k3⟩⟩
  have R_unl : ReadyX l.prog w K mg base 2 "unlike_columns" ["name", "columns"] (spUnl K C) := ⟨⟨f4, _, ok_unl F4 bad m_len m_set m_tuple, b4, m4, k4⟩⟩
  have R_kf : ReadyX l.prog w K mg base 14 "kind_of_fold" ["name", "fold", "told", "kinds"] (spKF C) := ⟨⟨f8, _, ok_kf F8 bad (R_kind 12), b8, m8, k8⟩⟩
  have CK : CkAt l.prog w K mg base C := by
    let ff : Str → Addr := fun wh => if wh = "read" then f5 else if wh = "filter" then f6 else if wh = "map" then f7 else if wh = "fold" then f9 else if wh = "join" then f10 else if wh = "union" then f11 else if wh = "unlike" then f12 else f13
    refine ⟨dc, ff, PySem.W.mg_of X G gC2, fun wh hw => ?_⟩
    have hw' : wh ∈ (["read", "filter", "map", "fold", "join", "union", "unlike", "sort"] : List Str) := hw
    simp only [List.mem_cons, List.not_mem_nil, or_false] at hw'
    rcases hw' with rfl | rfl | rfl | rfl | rfl | rfl | rfl | rfl
    · have e : ff "read" = f5 := if_pos rfl
      rw [e]
      exact ⟨⟨_, _, _, lC, gK2, p1, rfl⟩, ⟨3, by decide, ⟨⟨_, _, ok_read F5 R_unl, k5, b5⟩⟩⟩⟩
    · have e : ff "filter" = f6 := (if_neg (by decide +kernel)).trans (if_pos rfl)
      rw [e]
      exact ⟨⟨_, _, _, lC, gK2, p2, rfl⟩, ⟨14, by decide, ⟨⟨_, _, ok_filter F6 bad m_dict (R_kind 12), k6, b6⟩⟩⟩⟩
    · have e : ff "map" = f7 := (if_neg (by decide +kernel)).trans ((if_neg (by decide +kernel)).trans (if_pos rfl))
      rw [e]
      exact ⟨⟨_, _, _, lC, gK2, p3, rfl⟩, ⟨14, by decide, ⟨⟨_, _, ok_cmap F7 bad m_dict (R_kind 12) R_unl, k7, b7⟩⟩⟩⟩
    · have e : ff "fold" = f9 := (if_neg (by decide +kernel)).trans ((if_neg (by decide +kernel)).trans ((if_neg (by decide +kernel)).trans (if_pos rfl)))
      rw [e]
      exact ⟨⟨_, _, _, lC, gK2, p4, rfl⟩, ⟨15, by decide, ⟨⟨_, _, ok_cfold F9 bad m_dict R_kf R_there R_unl, k9, b9⟩⟩⟩⟩
    · have e : ff "join" = f10 := (if_neg (by decide +kernel)).trans ((if_neg (by decide +kernel)).trans ((if_neg (by decide +kernel)).trans ((if_neg (by decide +kernel)).trans (if_pos rfl))))
      rw [e]
      exact ⟨⟨_, _, _, lC, gK2, p5, rfl⟩, ⟨3, by decide, ⟨⟨_, _, ok_cjoin F10 bad m_dict R_there R_unl, k10, b10⟩⟩⟩⟩
    · have e : ff "union" = f11 := (if_neg (by decide +kernel)).trans ((if_neg (by decide +kernel)).trans ((if_neg (by decide +kernel)).trans ((if_neg (by decide +kernel)).trans ((if_neg (by decide +kernel)).trans (if_pos rfl)))))
      rw [e]
      exact ⟨⟨_, _, _, lC, gK2, p6, rfl⟩, ⟨3, by decide, ⟨⟨_, _, ok_union F11 bad, k11, b11⟩⟩⟩⟩
    · have e : ff "unlike" = f12 := (if_neg (by decide +kernel)).trans ((if_neg (by decide +kernel)).trans ((if_neg (by decide +kernel)).trans ((if_neg (by decide +kernel)).trans ((if_neg (by decide +kernel)).trans ((if_neg (by decide +kernel)).trans (if_pos rfl))))))
      rw [e]
      exact ⟨⟨_, _, _, lC, gK2, p7, rfl⟩, ⟨3, by decide, ⟨⟨_, _, ok_unlike F12, k12, b12⟩⟩⟩⟩
    · have e : ff "sort" = f13 := (if_neg (by decide +kernel)).trans ((if_neg (by decide +kernel)).trans ((if_neg (by decide +kernel)).trans ((if_neg (by decide +kernel)).trans ((if_neg (by decide +kernel)).trans ((if_neg (by decide +kernel)).trans ((if_neg (by decide +kernel)).trans (rfl)))))))
      rw [e]
      exact ⟨⟨_, _, _, lC, gK2, p8, rfl⟩, ⟨3, by decide, ⟨⟨_, _, ok_sort F13 m_dict R_there, k13, b13⟩⟩⟩⟩
  have R_cols : ReadyX l.prog w K mg base 16 "columns_of" ["job"] (spColsJ K C) := ⟨⟨f14, _, ok_cols F14 bad CK, b14, m14, k14⟩⟩
  have R_cell : Ready l.prog w K mg base 1 "_law_cell_at" ["script", "k"] (spCell K) := ⟨⟨f15, _, ok_cell F15 m_len, b15, m15, k15⟩⟩
  have R_draw : Ready l.prog w K mg base 1 "_law_draw" ["cell", "k", "bound"] spDraw := ⟨⟨f16, _, ok_draw F16 m_int, b16, m16, k16⟩⟩
  have R_numb : Ready l.prog w K mg base 2 "_law_number" ["cell", "k", "bound"] spNumb := ⟨⟨f17, _, ok_numb F17 m_int m_range R_draw, b17, m17, k17⟩⟩
  have R_next : Ready l.prog w K mg base 3 "_law_next" ["draw", "bound"] spNext := ⟨⟨f18, _, ok_next F18 m_int R_cell R_numb, b18, m18, k18⟩⟩
  have R_pick : Ready l.prog w K mg base 4 "_law_pick" ["draw", "things"] (spPick K) := ⟨⟨f19, _, ok_pick F19 m_len R_next, b19, m19, k19⟩⟩
  have R_int : ∀ m, Ready l.prog w K mg base (m + 4) "_law_int" ["draw", "columns", "deep"] (spInt m) := fun m => by
    induction m with
    | zero => exact ⟨⟨f20, _, no_int, b20, m20, k20⟩⟩
    | succ m ih => exact ⟨⟨f20, _, ok_int F20 m_len R_next R_pick ih, b20, m20, k20⟩⟩
  have R_map : Ready l.prog w K mg base 8 "_law_map" ["draw", "columns", "at"] spMap := ⟨⟨f21, _, ok_map F21 m_range m_str m_tuple R_next R_pick (R_int 3), b21, m21, k21⟩⟩
  have R_fold : Ready l.prog w K mg base 8 "_law_fold" ["draw", "columns"] spFold := ⟨⟨f22, _, ok_fold F22 m_range m_str m_tuple m_list m_len m_set R_next R_pick (R_int 2), b22, m22, k22⟩⟩
  have R_join : Ready l.prog w K mg base 5 "_law_join" ["draw", "known", "one"] spJoin := ⟨⟨f23, _, ok_join F23 m_tuple m_len m_set m_sorted R_next R_pick, b23, m23, k23⟩⟩
  have R_most : Ready l.prog w K mg base 1 "_law_most" ["draw", "step"] spMost := ⟨⟨f24, _, ok_most F24 m_sum m_min, b24, m24, k24⟩⟩
  have R_step : Ready l.prog w K mg base 9 "_law_step" ["draw", "known", "name", "one"] spStep := ⟨⟨f25, _, ok_step F25 m_tuple m_sorted R_next R_pick (R_int 3) R_map R_fold R_join, b25, m25, k25⟩⟩
  have R_job : Ready l.prog w K mg base 10 "_law_job" ["draw", "many"] spJob := ⟨⟨f26, _, ok_job F26 m_tuple m_sorted m_len m_str m_range R_next R_pick R_step R_most, b26, m26, k26⟩⟩
  have R_lkind : ∀ m, Ready l.prog w K mg base (m + 1) "_law_kind" ["told", "columns"] (spLKind m) := fun m => by
    induction m with
    | zero => exact ⟨⟨f27, _, no_lkind, b27, m27, k27⟩⟩
    | succ m ih => exact ⟨⟨f27, _, ok_lkind F27 ih, b27, m27, k27⟩⟩
  have R_lfold : Ready l.prog w K mg base 14 "_law_fold_columns" ["details", "has"] spLFold := ⟨⟨f28, _, ok_lfold F28 (R_lkind 12), b28, m28, k28⟩⟩
  have R_ljoin : Ready l.prog w K mg base 1 "_law_join_columns" ["details", "first", "second"] spLJoin := ⟨⟨f29, _, ok_ljoin F29 m_dict m_all, b29, m29, k29⟩⟩
  have R_lcols : Ready l.prog w K mg base 15 "_law_columns" ["step", "known"] spLCols := ⟨⟨f30, _, ok_lcols F30 m_len m_set m_tuple m_list m_dict m_all (R_lkind 12) R_lfold R_ljoin, b30, m30, k30⟩⟩
  have R_due : Ready l.prog w K mg base 16 "_law_due" ["job"] spDue := ⟨⟨f34, _, ok_ldue F34 R_lcols, b34, m34, k34⟩⟩
  have R_told : Ready l.prog w K mg base 17 "_law_told" ["job"] spTold := ⟨⟨f32, _, ok_ltold F32 bad m_dict m_tuple R_cols, b32, m32, k32⟩⟩
  have R_isdue : Ready l.prog w K mg base 18 "_law_is_due" ["job"] spIsDue := ⟨⟨f33, _, ok_isdue F33 m_isinstance m_str R_due R_told, b33, m33, k33⟩⟩
  have R_changed : Ready l.prog w K mg base 5 "_law_changed" ["draw", "job"] spChanged := ⟨⟨f31, _, ok_changed F31 m_len m_list m_tuple R_next R_pick, b31, m31, k31⟩⟩
  exact ok_law F35 m_range m_isinstance m_dict R_job R_isdue R_due R_pick R_changed
theorem walk {l : PySem.W.OpenLaw} {q : Program} {loose : List Str} {XP : (Str → Option Value) → Heap → Prop} {YP : World → Heap → Prop} {d : DefRec} {K : Params → PySem.W.Frag} (hn : l.most = some 63) (hdf : d.params.defaults = [])
    (hY : ∀ (w : World) (h : Heap), YP w h → (K w.params).In h)
    (F : ∀ (w : World) (mg : Str → Option Value) (fa : Addr) (h : Heap), (K w.params).In h → h.Ns mainGlobals mg → mg d.name = some (.ref fa) →
      ∃ fd : FuncData, (∀ (s : Shared) (u : Value), BindsTo s fd ⟨[u], []⟩ [("script", u)]) ∧ ∀ base : Heap, (K w.params).In base → base.Ns mainGlobals mg → FnOk l.prog w (K w.params) mg base CX0 19 fa fd ["script"] (spLaw (K w.params))) :
    PySem.W.WalkO q loose XP YP l.row.toRowW d [] (fun f vs => PySem.call f vs) :=
  L2.walk_of (n := 63) (k := 19) (x := "script") (CX := fun _ => CX0) (sp := fun w => spLaw (K w.params)) hn (by decide) hdf ⟨rfl, by decide, by decide⟩ hY F (fun _ _ a ns hl _ hS => ⟨a, ns, rfl, hS, fun _ => rfl⟩) fun _ _ _ _ _ z => z
end Kx
open PySem PySem.W PyProof.Rows
set_option maxRecDepth 100000 in
set_option maxHeartbeats 0 in
theorem PySem.Challenge.cw_countedonce_k05_whole_checked_holds : PySem.Challenge.rw_countedonce_k05_whole_checked.Holds := by
  w_on; o_law; k_head; (case hw => w_witness2)
  k_fill
  refine Kx.walk (l := PySem.Challenge.rw_countedonce_k05_whole_checked) rfl rfl (fun w h Y => PySem.W.kIn_of Y) ?F
  case F =>
    intro w mg fa h KX G hmg
    refine' Kx.all_mk KX G hmg ?a1 ?l1 ?c1 ?k1 ?a2 ?l2 ?c2 ?k2 ?a3 ?l3 ?c3 ?k3 ?a4 ?l4 ?c4 ?k4 ?a5 ?l5 ?c5 ?k5 ?a6 ?l6 ?c6 ?k6 ?a7 ?l7 ?c7 ?k7 ?a8 ?l8 ?c8 ?k8 ?a9 ?l9 ?c9 ?k9 ?a10 ?l10 ?c10 ?k10 ?a11 ?l11 ?c11 ?k11 ?a12 ?l12 ?c12 ?k12 ?a13 ?l13 ?c13 ?k13 ?a14 ?l14 ?c14 ?k14 ?a15 ?l15 ?c15 ?k15 ?a16 ?l16 ?c16 ?k16 ?a17 ?l17 ?c17 ?k17 ?a18 ?l18 ?c18 ?k18 ?a19 ?l19 ?c19 ?k19 ?a20 ?l20 ?c20 ?k20 ?a21 ?l21 ?c21 ?k21 ?a22 ?l22 ?c22 ?k22 ?a23 ?l23 ?c23 ?k23 ?a24 ?l24 ?c24 ?k24 ?a25 ?l25 ?c25 ?k25 ?a26 ?l26 ?c26 ?k26 ?a27 ?l27 ?c27 ?k27 ?a28 ?l28 ?c28 ?k28 ?a29 ?l29 ?c29 ?k29 ?a30 ?l30 ?c30 ?k30 ?a31 ?l31 ?c31 ?k31 ?a32 ?l32 ?c32 ?k32 ?a33 ?l33 ?c33 ?k33 ?a34 ?l34 ?c34 ?k34 ?a35 ?l35 ?c35 ?k35 ?z1 ?z2 ?z3 ?z4 ?z5 ?z6 ?z7 ?z8 ?z9 ?z10 ?z11 ?z12 ?z13 ?aC ?xL ?sa ?gat ?gg ?nb ?nw ?ai ?ti ?li ?ci ?kC ?eC ?tyC ?hC ?iC ?sC ?g4 ?gD ?lD ?o1 ?o2 ?o3 ?o4 ?o5 ?o6 ?o7 ?o8 ?o9 ?o10 ?o11 ?o12 ?o13 ?gK ?gC2 ?lC ?p1 ?p2 ?p3 ?p4 ?p5 ?p6 ?p7 ?p8 ?gK2
    (case a1 => k_is)
    (case l1 => k_is)
    (case c1 => k_is)
    (case k1 => k_is)
    (case a2 => k_is)
    (case l2 => k_is)
    (case c2 => k_is)
    (case k2 => k_is)
    (case a3 => k_is)
    (case l3 => k_is)
    (case c3 => k_is)
    (case k3 => k_is)
    (case a4 => k_is)
    (case l4 => k_is)
    (case c4 => k_is)
    (case k4 => k_is)
    (case a5 => k_is)
    (case l5 => k_is)
    (case c5 => k_is)
    (case k5 => k_is)
    (case a6 => k_is)
    (case l6 => k_is)
    (case c6 => k_is)
    (case k6 => k_is)
    (case a7 => k_is)
    (case l7 => k_is)
    (case c7 => k_is)
    (case k7 => k_is)
    (case a8 => k_is)
    (case l8 => k_is)
    (case c8 => k_is)
    (case k8 => k_is)
    (case a9 => k_is)
    (case l9 => k_is)
    (case c9 => k_is)
    (case k9 => k_is)
    (case a10 => k_is)
    (case l10 => k_is)
    (case c10 => k_is)
    (case k10 => k_is)
    (case a11 => k_is)
    (case l11 => k_is)
    (case c11 => k_is)
    (case k11 => k_is)
    (case a12 => k_is)
    (case l12 => k_is)
    (case c12 => k_is)
    (case k12 => k_is)
    (case a13 => k_is)
    (case l13 => k_is)
    (case c13 => k_is)
    (case k13 => k_is)
    (case a14 => k_is)
    (case l14 => k_is)
    (case c14 => k_is)
    (case k14 => k_is)
    (case a15 => k_is)
    (case l15 => k_is)
    (case c15 => k_is)
    (case k15 => k_is)
    (case a16 => k_is)
    (case l16 => k_is)
    (case c16 => k_is)
    (case k16 => k_is)
    (case a17 => k_is)
    (case l17 => k_is)
    (case c17 => k_is)
    (case k17 => k_is)
    (case a18 => k_is)
    (case l18 => k_is)
    (case c18 => k_is)
    (case k18 => k_is)
    (case a19 => k_is)
    (case l19 => k_is)
    (case c19 => k_is)
    (case k19 => k_is)
    (case a20 => k_is)
    (case l20 => k_is)
    (case c20 => k_is)
    (case k20 => k_is)
    (case a21 => k_is)
    (case l21 => k_is)
    (case c21 => k_is)
    (case k21 => k_is)
    (case a22 => k_is)
    (case l22 => k_is)
    (case c22 => k_is)
    (case k22 => k_is)
    (case a23 => k_is)
    (case l23 => k_is)
    (case c23 => k_is)
    (case k23 => k_is)
    (case a24 => k_is)
    (case l24 => k_is)
    (case c24 => k_is)
    (case k24 => k_is)
    (case a25 => k_is)
    (case l25 => k_is)
    (case c25 => k_is)
    (case k25 => k_is)
    (case a26 => k_is)
    (case l26 => k_is)
    (case c26 => k_is)
    (case k26 => k_is)
    (case a27 => k_is)
    (case l27 => k_is)
    (case c27 => k_is)
    (case k27 => k_is)
    (case a28 => k_is)
    (case l28 => k_is)
    (case c28 => k_is)
    (case k28 => k_is)
    (case a29 => k_is)
    (case l29 => k_is)
    (case c29 => k_is)
    (case k29 => k_is)
    (case a30 => k_is)
    (case l30 => k_is)
    (case c30 => k_is)
    (case k30 => k_is)
    (case a31 => k_is)
    (case l31 => k_is)
    (case c31 => k_is)
    (case k31 => k_is)
    (case a32 => k_is)
    (case l32 => k_is)
    (case c32 => k_is)
    (case k32 => k_is)
    (case a33 => k_is)
    (case l33 => k_is)
    (case c33 => k_is)
    (case k33 => k_is)
    (case a34 => k_is)
    (case l34 => k_is)
    (case c34 => k_is)
    (case k34 => k_is)
    (case a35 => k_is)
    (case l35 => k_is)
    (case c35 => k_is)
    (case k35 => k_is)
    (case z1 => k_is)
    (case z2 => k_is)
    (case z3 => k_is)
    (case z4 => k_is)
    (case z5 => k_is)
    (case z6 => k_is)
    (case z7 => k_is)
    (case z8 => k_is)
    (case z9 => k_is)
    (case z10 => k_is)
    (case z11 => k_is)
    (case z12 => k_is)
    (case z13 => k_is)
    (case aC => k_is)
    (case xL => k_is)
    (case sa => k_is)
    (case gat => k_is)
    (case gg => k_is)
    (case nb => k_is)
    (case nw => k_is)
    (case ai => k_is)
    (case ti => k_is)
    (case li => k_is)
    (case ci => k_is)
    (case kC => k_is)
    (case eC => k_is)
    (case tyC => k_is)
    (case hC => k_is)
    (case iC => k_is)
    (case g4 => k_is)
    (case gD => k_is)
    (case lD => k_is)
    (case o1 => k_is)
    (case o2 => k_is)
    (case o3 => k_is)
    (case o4 => k_is)
    (case o5 => k_is)
    (case o6 => k_is)
    (case o7 => k_is)
    (case o8 => k_is)
    (case o9 => k_is)
    (case o10 => k_is)
    (case o11 => k_is)
    (case o12 => k_is)
    (case o13 => k_is)
    (case gC2 => k_is)
    (case lC => k_is)
    (case p1 => k_is)
    (case p2 => k_is)
    (case p3 => k_is)
    (case p4 => k_is)
    (case p5 => k_is)
    (case p6 => k_is)
    (case p7 => k_is)
    (case p8 => k_is)
    (case sC => first | rfl | k_is)
    (case gK => repeat (first | exact True.intro | refine ⟨⟨_, _, rfl, rfl⟩, ?_⟩))
    (case gK2 => repeat (first | exact True.intro | refine ⟨⟨_, _, rfl, rfl⟩, ?_⟩))
#print axioms PySem.Challenge.cw_countedonce_k05_whole_checked_holds

