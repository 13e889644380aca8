import PyProof.Rows.All
import Wide.All
import OpenK.AllK
import Wide.FinOn
import HandS.Base
import HandS.Call
import HandS.List
import HandS.Dict
import HandS.Set
import HandS.Strs
import HandS.TupSets
import HandS.Ends
import HandS.Words
import HandS.More
import HandS.Comp
import HandS.WordsList
import HandS.Wide
import HandS.TupAny
import HandS.Style
import HandS.Text
import HandS.Codes
import HandS.Deep
import KE.KDictPairs
import HandS.Small
import HandS.ForSpec
import KE.KExcInit
import HandS.ExcInit
import HandS.NoneIn
import HandS.Walk
import HandS.DictComp
import HandS.Zip
import KE.GoesMore
import HandS.IsInst
import HandS.TryElse
import PySem.Challenge.RW_countedonce_k09_whole_papers
set_option Elab.async false
set_option linter.all false
set_option maxRecDepth 100000
set_option maxHeartbeats 4000000
namespace Yk
open PySem PySem.Spec PyProof.Rows L2
/-! ### sets of ints and texts, their members told -/
def kOf : Value → L2.Key
  | .int i _ => .inl i
  | .str x _ => .inr x
  | _ => .inl 0
/-- an int or a text -/
def Plain (v : Value) : Prop := (∃ i t, v = .int i t) ∨ ∃ x t, v = .str x t
theorem plain_scan {v : Value} (h : Plain v) : v.scannable = true := by
  rcases h with ⟨i, t, rfl⟩ | ⟨x, t, rfl⟩ <;> rfl
section
variable {P : Program} {w : World}
theorem plain_is {v : Value} (h : Plain v) : (mixKind P w).is (kOf v) v = true := by
  rcases h with ⟨i, t, rfl⟩ | ⟨x, t, rfl⟩
  · exact mixKind_int P w i t
  · exact mixKind_str P w x t
theorem is_iff {v : Value} (h : Plain v) (k : L2.Key) : (mixKind P w).is k v = true ↔ kOf v = k :=
  ⟨fun e => (mixKind P w).inj v _ _ (plain_is h) e, fun e => e ▸ plain_is h⟩
theorem rel_plain {k : L2.Key} {u : Value} (r : RelV (kV k) u) : Plain u ∧ kOf u = k := by
  cases k with
  | inl i =>
    obtain ⟨t, rfl⟩ : ∃ t, u = Value.int i t := r
    exact ⟨.inl ⟨i, t, rfl⟩, rfl⟩
  | inr x =>
    obtain ⟨t, rfl⟩ : ∃ t, u = Value.str x t := r
    exact ⟨.inr ⟨x, t, rfl⟩, rfl⟩
def Row (P : Program) (w : World) (e : Int × Value) : Prop := Plain e.2 ∧ e.1 = (mixKind P w).hash (kOf e.2)
/-- at a: a set, its members L in the order of its rows -/
def SetQ (P : Program) (w : World) (h : Heap) (a : Addr) (L : List L2.Key) : Prop :=
  ∃ o es ep t, h.get? a = some o ∧ o.ExactSet ∧ o.data = .set es ep t ∧ (∀ e ∈ es.toList, Row P w e) ∧ L = es.toList.map (fun e => kOf e.2) ∧ L.Nodup ∧
    es.size < scanBound ∧ t.fits es.size = true ∧ Ris t.place.toList ∧ (w.params.followText "set-order" = true ∨ t.led = true)
variable {h h' : Heap} {a : Addr} {L : List L2.Key}
theorem SetQ.at (R : SetQ P w h a L) (k : ∀ o, h.get? a = some o → h'.get? a = some o) : SetQ P w h' a L := by
  obtain ⟨o, es, ep, t, ho, r⟩ := R
  exact ⟨o, es, ep, t, k o ho, r⟩
theorem SetQ.there (R : SetQ P w h a L) : ∃ o, h.get? a = some o := let ⟨o, _, _, _, ho, _⟩ := R; ⟨o, ho⟩
theorem rows_elems {l : List (Int × Value)} (g : ∀ e ∈ l, Row P w e) : ElemsOf (mixKind P w) l := fun e he => ⟨⟨kOf e.2, plain_is (g e he).1, (g e he).2⟩, plain_scan (g e he).1⟩
theorem new_set {led : Bool} (hl : w.params.followText "set-order" = true ∨ led = true) (hg : h.get? a = some { cls := .type "set", dict := none, data := .set #[] 0 (.fresh 0 0 led), slots := #[] }) : SetQ P w h a [] :=
  ⟨_, #[], 0, _, hg, ⟨rfl, rfl, rfl⟩, rfl, fun e he => by simp at he, rfl, List.nodup_nil, by decide, rfl, List.Pairwise.nil, hl⟩
end
section
variable {P : Program} {w : World} {A : Around} {E : Value → Shared → Prop} {s : Shared} {a : Addr} {L : List L2.Key}
/-- behind the laying of a row: perhaps the whole table is laid anew -/
theorem lay_rest {g : Bool → Sem Unit} (hg : ∀ (b : Bool) (s₁ : Shared) (R : Unit → Shared → Prop), R () s₁ → wpAny (model P w) A (g b) R E s₁) {o : Obj} {es : Array (Int × Value)} {ep : Nat} {t : SetTable} (ho : s.heap.get? a = some o) (hx : o.ExactSet)
    (hd : o.data = .set es ep t) {fs : Array (Int × Value)} {u : SetTable} (gr : ∀ e ∈ fs.toList, Row P w e) (nd : (fs.toList.map fun e => kOf e.2).Nodup) (hb : fs.size < scanBound) (hf : u.fits fs.size = true) (hr : Ris u.place.toList)
    (hl : w.params.followText "set-order" = true ∨ u.led = true) {dum : Bool} {R : Option Bool → Shared → Prop}
    (q : ∀ h' M, Heap.SameBut a s.heap h' → M.Perm (fs.toList.map fun e => kOf e.2) → SetQ P w h' a M → R (some true) { s with heap := h' }) :
    wpAny (model P w) A (do
      storeSet a fs u
      if (!dum && u.tooFull) = true then do
        g (relayAll u fs (SetTable.grown fs.size)).2.2
        storeSet a (relayAll u fs (SetTable.grown fs.size)).1 (relayAll u fs (SetTable.grown fs.size)).2.1
        pure (some true)
      else pure (some true)) R E s := by
  refine wpAny_bind (wpAny_storeSet_of ho hd ?_ (fits_of_scanBound hb))
  have o1 := store_at (es' := fs) (t' := u) ho hd
  have b1 := Heap.SameBut.update s.heap a (Obj.putSet fs u)
  split
  · have p1 := relayAll_perm u fs (SetTable.grown fs.size)
    have p2 := relayAll_fits u fs (SetTable.grown fs.size)
    have p3 := relayAll_ris u fs (SetTable.grown fs.size)
    have p4 := relayAll_led u fs (SetTable.grown fs.size)
    generalize relayAll u fs (SetTable.grown fs.size) = Z at p1 p2 p3 p4 ⊢
    obtain ⟨gs, v, gv⟩ := Z
    dsimp only at p1 p2 p3 p4 ⊢
    have sz : gs.size = fs.size := by
      have z := p1.length_eq
      rw [Array.length_toList, Array.length_toList] at z
      exact z
    refine wpAny_bind (hg _ _ _ ?_)
    refine wpAny_bind (wpAny_storeSet_of o1 rfl ?_ (fits_of_scanBound (by rw [sz]; exact hb)))
    have o2 := store_at (es' := gs) (t' := v) o1 rfl
    have pk := p1.map fun e : Int × Value => kOf e.2
    refine wpAny_pure (q _ (gs.toList.map fun e => kOf e.2) (b1.trans (Heap.SameBut.update _ a _)) pk ?_)
    refine ⟨_, gs, _, v, o2, hx, rfl, fun e he => gr e (p1.mem_iff.mp he), rfl, pk.nodup_iff.mpr nd, by rw [sz]; exact hb, p2, p3, ?_⟩
    rcases hl with z | z
    · exact .inl z
    · exact .inr (p4.trans z)
  · exact wpAny_pure (q _ _ b1 (List.Perm.refl _) ⟨_, fs, _, u, o1, hx, rfl, gr, rfl, nd, hb, hf, hr, hl⟩)
/-- s.add(x) behind the hash -/
theorem add_row {x : Value} (hx : Plain x) {Q : Bool → Shared → Prop} (R : SetQ P w s.heap a L) (room : L.length + 1 < scanBound)
    (q : ∀ h' M b, Heap.SameBut a s.heap h' → SetQ P w h' a M → ((kOf x ∈ L ∧ M = L) ∨ (kOf x ∉ L ∧ M.Perm (kOf x :: L))) → Q b { s with heap := h' }) :
    wpAny (model P w) A (setAddHashed a x ((mixKind P w).hash (kOf x))) Q E s := by
  obtain ⟨o, es, ep, t, ho, hex, hd, g, rfl, nd, hb, hf, hr, hl⟩ := R
  have key := plain_is (P := P) (w := w) hx
  have el : ElemsOf (mixKind P w) es.toList := rows_elems g
  unfold setAddHashed setAddHashedIn
  refine wpAny_holding (wpAny_bind (wpAny_setState_of ho hd hf ?_))
  dsimp only
  rw [byScan_of (plain_scan hx) hb el]
  simp only [↓reduceIte]
  unfold setAddByScan
  refine wpAny_bind ?_
  refine wpAny_bind (wpAny_rule ?_)
  refine wpAny_bind (wpAny_setScan_of key ho hd hf el ?_)
  cases fi : List.findIdx? (fun e => (mixKind P w).is (kOf x) e.2) es.toList with
  | some j =>
    dsimp only
    obtain ⟨hj, pj, _⟩ := List.findIdx?_eq_some_iff_getElem.mp fi
    have hm : kOf x ∈ es.toList.map fun e => kOf e.2 := List.mem_map.mpr ⟨es.toList[j], List.getElem_mem hj, (is_iff (g _ (List.getElem_mem hj)).1 _).mp pj⟩
    exact wpAny_pure (wpAny_pure (q s.heap _ _ (Heap.SameBut.refl a s.heap) ⟨o, es, ep, t, ho, hex, hd, g, rfl, nd, hb, hf, hr, hl⟩ (.inl ⟨hm, rfl⟩)))
  | none =>
    dsimp only
    have hm : kOf x ∉ es.toList.map fun e => kOf e.2 := fun z => by
      obtain ⟨e, he, k⟩ := List.mem_map.mp z
      have c := List.findIdx?_eq_none_iff.mp fi e he
      rw [(is_iff (g e he).1 _).mpr k] at c
      cases c
    have gw : ∀ (b : Bool) {s₁ : Shared} {R : Unit → Shared → Prop}, R () s₁ → wpAny (model P w) A (match b with | true => rule "set.scan.the-table-gave-way" | false => pure ()) R E s₁ := fun b s₁ R z => by
      cases b
      · exact wpAny_pure z
      · exact wpAny_rule z
    have p1 := layNew_perm t es ((mixKind P w).hash (kOf x)) x
    have p2 := layNew_fits t es ((mixKind P w).hash (kOf x)) x
    have p3 := layNew_ris t es ((mixKind P w).hash (kOf x)) x hr
    have p4 := layNew_led t es ((mixKind P w).hash (kOf x)) x
    generalize layNew t es ((mixKind P w).hash (kOf x)) x = Z at p1 p2 p3 p4 ⊢
    obtain ⟨fs, u, dum, gv⟩ := Z
    dsimp only at p1 p2 p3 p4 ⊢
    rw [Array.toList_push] at p1
    have pc : fs.toList.Perm (((mixKind P w).hash (kOf x), x) :: es.toList) := p1.trans (List.perm_append_singleton _ _)
    have pk : (fs.toList.map fun e => kOf e.2).Perm (kOf x :: es.toList.map fun e => kOf e.2) := pc.map fun e : Int × Value => kOf e.2
    have gr : ∀ e ∈ fs.toList, Row P w e := fun e he => by
      rcases List.mem_cons.mp (pc.mem_iff.mp he) with rfl | z
      · exact ⟨hx, rfl⟩
      · exact g e z
    have n1 : (fs.toList.map fun e => kOf e.2).Nodup := pk.nodup_iff.mpr (List.nodup_cons.mpr ⟨hm, nd⟩)
    have sz : fs.size < scanBound := by
      have z := pc.length_eq
      rw [Array.length_toList, List.length_cons] at z
      rw [List.length_map] at room
      omega
    have ld : w.params.followText "set-order" = true ∨ u.led = true := by
      rcases hl with z | z
      · exact .inl z
      · exact .inr (p4.trans z)
    have fin : ∀ h' M, Heap.SameBut a s.heap h' → M.Perm (fs.toList.map fun e => kOf e.2) → SetQ P w h' a M → Q true { s with heap := h' } := fun h' M sb pm r => q h' M true sb r (.inr ⟨hm, pm.trans pk⟩)
    refine wpAny_bind (gw _ ?_)
    split
    · refine wpAny_bind ?_
      rw [hashByValue_scannable 8 (plain_scan hx)]
      refine wpAny_pure ?_
      refine lay_rest (fun b s₁ R z => gw b z) ho hex hd gr n1 sz ?_ ?_ ?_ fun h' M sb pm r => ?_
      · split
        · exact p2
        · exact SetTable.fits_plain_off p2
      · split <;> exact p3
      · split <;> exact ld
      · dsimp only
        exact wpAny_pure (fin h' M sb pm r)
    · refine wpAny_bind (wpAny_pure ?_)
      simp only [↓reduceIte]
      refine lay_rest (fun b s₁ R z => gw b z) ho hex hd gr n1 sz p2 p3 ld fun h' M sb pm r => ?_
      dsimp only
      exact wpAny_pure (fin h' M sb pm r)
/-- the loop of set(xs) -/
theorem fill {R : Result → Shared → Prop} {I : Addr} {fp wr : List Addr} {G : Array GenState → Array GenState → Prop} {n : Nat} {V : Nat → Value → Prop} {St : Nat → Shared → Prop} (W : WalksS P w A.in1 I fp wr G n V St) (S : Addr) (hS : S ∉ fp)
    (ks : List L2.Key) (hn : ks.length = n) (hb : n < 1000) (hv : ∀ i v, V i v → Plain v ∧ ks[i]? = some (kOf v)) :
    ∀ (k i : Nat) (s : Shared) (M : List L2.Key), n - i = k → i ≤ n → St i s → SetQ P w s.heap S M → M.length ≤ i → (∀ z, z ∈ M ↔ z ∈ ks.take i) →
      (∀ s' M', Moved (S :: wr) G s s' → SetQ P w s'.heap S M' → (∀ z, z ∈ M' ↔ z ∈ ks) → R (.ok (.ret .none)) s') → codeAny (model P w) A (.builtin "set.update.loop" ⟨[.ref S, .ref I], []⟩) R s := by
  have hw : S ∉ wr := fun z => hS (W.sub _ z)
  have sub : ∀ b ∈ wr, b ∈ S :: wr := fun b z => List.mem_cons_of_mem _ z
  intro k
  induction k with
  | zero =>
    intro i s M hk hi st hM _ hz q
    have e : i = n := by omega
    subst e
    refine codeAny_builtin PyProof.Rows.F.entry_set_update_loop ?_
    rw [Around.under_plainId PyProof.Rows.F.plain_set_update_loop _]
    show wpAny _ A.in1 (pyNext (.ref I) >>= _) _ _ s
    refine wpAny_bind (W.done s _ _ st fun s' mv => ?_)
    show wpAny _ A.in1 (ret Value.none) _ _ s'
    refine wpAny_pure (q s' M (mv.mono sub) (hM.at fun o z => mv.heap S o hw z) fun z => ?_)
    rw [hz z, ← hn, List.take_length]
  | succ k ih =>
    intro i s M hk hi st hM hl hz q
    have lt : i < n := by omega
    refine codeAny_builtin PyProof.Rows.F.entry_set_update_loop ?_
    rw [Around.under_plainId PyProof.Rows.F.plain_set_update_loop _]
    show wpAny _ A.in1 (pyNext (.ref I) >>= _) _ _ s
    refine wpAny_bind (W.item i s _ _ lt st fun v s' hP st' mv => ?_)
    obtain ⟨pl, kv⟩ := hv i v hP
    have hM' : SetQ P w s'.heap S M := hM.at fun o z => mv.heap S o hw z
    show wpAny _ A.in1 (holding [v] (setAdd S v) >>= _) _ _ s'
    refine wpAny_bind (wpAny_holding ?_)
    unfold setAdd
    refine wpAny_holding ?_
    refine wpAny_bind ((mixKind P w).pyHash (plain_is pl) ?_)
    refine add_row (s := { s' with toks := s'.toks + 1 }) pl hM' (by unfold scanBound; omega) fun h' M' b sb r hM2 => ?_
    have tk : ks.take (i + 1) = ks.take i ++ [kOf v] := by
      obtain ⟨hlt, e⟩ := List.getElem?_eq_some_iff.mp kv
      rw [← e]
      exact List.take_succ_eq_append_getElem hlt
    have l2 : M'.length ≤ i + 1 := by
      rcases hM2 with ⟨_, rfl⟩ | ⟨_, pm⟩
      · omega
      · rw [pm.length_eq, List.length_cons]
        omega
    have z2 : ∀ z, z ∈ M' ↔ z ∈ ks.take (i + 1) := fun z => by
      rw [tk, List.mem_append, List.mem_singleton, ← hz z]
      rcases hM2 with ⟨hm, rfl⟩ | ⟨_, pm⟩
      · exact ⟨.inl, fun y => y.elim id fun e => e ▸ hm⟩
      · rw [pm.mem_iff, List.mem_cons]
        exact Or.comm
    refine wpAny_pure ⟨plainId_quiet PyProof.Rows.F.plain_set_update_loop _, ih (i + 1) _ M' (by omega) lt (W.frame _ s' _ _ st' (Nat.le_succ _) fun c hc o z => ?_) r l2 z2 fun s2 M2 mv2 r2 f2 => ?_⟩
    · exact (sb.2 c fun e => hS (e ▸ hc)).trans z
    · refine q s2 M2 (Moved.trans W.gtrans ((mv.mono sub).then_heap (Nat.le_succ _) fun c o hc z => ?_) mv2) r2 f2
      exact (sb.2 c fun e => hc (e ▸ List.mem_cons_self)).trans z
end
end Yk

namespace Yk
open PySem PySem.Spec PyProof.Rows L2
abbrev ob0 (w : World) : Obj := { cls := .type "set", dict := none, data := .set #[] 0 (.fresh 0 0 (!w.params.followText "set-order")) }
section
variable {P : Program} {w : World} {A : Around} {E : Value → Shared → Prop} {s : Shared}

set_option maxHeartbeats 8000000 in
/-- set(x), x a list of ints and texts -/
theorem call_set_list {l : Addr} {items : Array Value} {ks : List L2.Key} {Q : Value → Shared → Prop} (hh : A.handled = none) (hl : s.heap.IsList l items) (hk : ks.length = items.size) (hv : ∀ (i : Nat) (v : Value), items[i]? = some v → Plain v ∧ ks[i]? = some (kOf v)) (few : ks.length < 1000)
    (q : ∀ (h' : Heap) (tk : Nat) (M : List L2.Key), SetQ P w h' s.heap.objs.size M → (∀ z, z ∈ M ↔ z ∈ ks) → (∀ b o, s.heap.get? b = some o → h'.get? b = some o) → Q (.ref s.heap.objs.size) { s with heap := h', toks := tk }) :
    wpAny (model P w) A (call (.type "set") [.ref l]) Q E s := by
  obtain ⟨c, tl, mr⟩ := PySem.F.called_set.mro
  have md := PySem.F.called_set.made
  have sb := PySem.F.called_set.sub
  refine wpAny_call (codeAny_of_tree ?_)
  show wpAny _ _ (callAny (.type "set") _) _ _ _
  refine wpAny_pure ⟨Code.quiet_builtin _ (by decide +kernel), codeAny_builtin PySem.F.entry_type_call ?_⟩
  rw [Around.under_plain (weight_type_call_type "set" [.ref l] []) rfl]
  have t1 := PySem.F.called_set.notType
  have t2 := PySem.F.called_set.canCreate
  have t3 := PySem.F.typeCall_set_1 (.ref l)
  repeat (any_goals (first | assumption | wp_step))
  refine codeAny_mono (code_set_led1 (.ref l) (E := E) (Q₁ := fun ob s₁ => ob = .ref s.heap.objs.size ∧ s₁ = { s with heap := s.heap.push (ob0 w) }) ⟨rfl, rfl⟩) fun r s₁ hr => ?_
  cases r with
  | error e => exact hr
  | ok fl =>
    cases fl with
    | ret ob =>
      obtain ⟨rfl, rfl⟩ := hr
      have gS : (s.heap.push (ob0 w)).get? s.heap.objs.size = some (ob0 w) := Heap.get?_push_size _ rfl
      have ty : Shared.TypeIs { s with heap := s.heap.push (ob0 w) } (.ref s.heap.objs.size) "set" := ⟨_, gS, rfl⟩
      have i1 := PySem.F.called_set.init.lookup
      have i2 := PySem.F.called_set.init.bind (.ref s.heap.objs.size)
      repeat (any_goals (first | assumption | wp_step))
      refine codeAny_mono (codeAny_call_builtin (R := wants (fun r s₂ => r = .none ∧ ∃ h' tk M, s₂ = { s with heap := h', toks := tk } ∧ SetQ P w h' s.heap.objs.size M ∧ (∀ z, z ∈ M ↔ z ∈ ks) ∧ (∀ b o, s.heap.get? b = some o → h'.get? b = some o)) E)
        PySem.F.called_set.init.plain PySem.F.entry_set_init (check_set_init_1 ty ?_)) fun r₂ s₂ hr₂ => ?_
      · obtain ⟨ol, go, cl, nl, da⟩ := hl
        obtain ⟨oc, od, odt, osl⟩ := ol
        simp only at cl da
        subst cl
        subst da
        have g1 : (s.heap.push (ob0 w)).get? l = some { cls := .type "list", dict := od, data := .seq items nl, slots := osl } := Heap.get?_push_of_some _ go
        have u1 := PySem.F.sub_list_set
        have u2 := PySem.F.sub_list_frozenset
        have u3 : (Value.type "list" == Value.type "dict") = false := by decide
        have l1 : (s.heap.push (ob0 w)).IsList l items := ⟨_, g1, rfl, nl, rfl⟩
        unfold Builtin.«set.__init__» noKeywords Builtin.Frozenset.updateFrom
        generalize hPI : pyIter = PI
        wp_walk
        subst hPI
        refine wpAny_pyIter_list l1 ?_
        refine wpAny_bind (wpAny_runValue ?_)
        have lt : l < s.heap.objs.size := Heap.lt_size go
        have h3 : A.in1.in1.in1.handled = none := by simp [hh]
        have z1 : (s.heap.push (ob0 w)).objs.size = s.heap.objs.size + 1 := Heap.size_push ..
        have n1 : l ≠ (s.heap.push (ob0 w)).objs.size := by
          rw [z1]
          exact Nat.ne_of_lt (Nat.lt_succ_of_lt lt)
        have n2 : s.heap.objs.size ∉ [(s.heap.push (ob0 w)).objs.size, l] := by
          rw [z1]
          simp only [List.mem_cons, List.not_mem_nil, or_false, not_or]
          exact ⟨Nat.ne_of_lt (Nat.lt_succ_self _), Nat.ne_of_gt lt⟩
        refine fill ((Walks.list h3 _ l n1 items).toS) s.heap.objs.size n2 ks hk (by omega) hv (items.size - 0) 0 _ [] rfl (Nat.zero_le _) ⟨⟨_, Heap.get?_push_size _ rfl, rfl, rfl⟩, l1.push _⟩ (new_set (led := !w.params.followText "set-order") ?_ (Heap.get?_push_of_some _ gS)) (Nat.le_refl _)
          (fun z => by simp) fun s' M mv r f => ?_
        · cases w.params.followText "set-order"
          · exact .inr rfl
          · exact .inl rfl
        · obtain ⟨h', g2, d', tk', os'⟩ := s'
          have eg : g2 = s.gens := mv.gens
          have ed : d' = s.drawn := mv.drawn
          have eo : os' = s.os := mv.os
          subst eg
          subst ed
          subst eo
          show wpAny _ _ _ _ _ _
          refine wpAny_pure ?_
          show wpAny _ _ (ret Value.none) _ _ _
          refine wpAny_pure ⟨rfl, h', tk', M, rfl, r, f, fun b o e => ?_⟩
          have hb := Heap.lt_size e
          refine mv.heap b o ?_ (Heap.get?_push_of_some _ (Heap.get?_push_of_some _ e))
          rw [z1]
          simp only [List.mem_cons, List.not_mem_nil, or_false, not_or]
          exact ⟨Nat.ne_of_lt hb, Nat.ne_of_lt (Nat.lt_succ_of_lt hb)⟩
      · cases r₂ with
        | error e => exact hr₂
        | ok fl₂ =>
          cases fl₂ with
          | ret r =>
            obtain ⟨rfl, h', tk, M, rfl, r, f, k⟩ := hr₂
            repeat (any_goals (first | assumption | wp_step))
            exact q _ _ M r f k
          | _ => exact hr₂.elim
    | _ => exact hr.elim

set_option maxHeartbeats 8000000 in
/-- set(x), x a tuple of ints and texts -/
theorem call_set_tuple {l : Addr} {items : Array Value} {ks : List L2.Key} {Q : Value → Shared → Prop} (hh : A.handled = none) (hl : s.heap.IsTuple l items) (hk : ks.length = items.size) (hv : ∀ (i : Nat) (v : Value), items[i]? = some v → Plain v ∧ ks[i]? = some (kOf v)) (few : ks.length < 1000)
    (q : ∀ (h' : Heap) (tk : Nat) (M : List L2.Key), SetQ P w h' s.heap.objs.size M → (∀ z, z ∈ M ↔ z ∈ ks) → (∀ b o, s.heap.get? b = some o → h'.get? b = some o) → Q (.ref s.heap.objs.size) { s with heap := h', toks := tk }) :
    wpAny (model P w) A (call (.type "set") [.ref l]) Q E s := by
  obtain ⟨c, tl, mr⟩ := PySem.F.called_set.mro
  have md := PySem.F.called_set.made
  have sb := PySem.F.called_set.sub
  refine wpAny_call (codeAny_of_tree ?_)
  show wpAny _ _ (callAny (.type "set") _) _ _ _
  refine wpAny_pure ⟨Code.quiet_builtin _ (by decide +kernel), codeAny_builtin PySem.F.entry_type_call ?_⟩
  rw [Around.under_plain (weight_type_call_type "set" [.ref l] []) rfl]
  have t1 := PySem.F.called_set.notType
  have t2 := PySem.F.called_set.canCreate
  have t3 := PySem.F.typeCall_set_1 (.ref l)
  repeat (any_goals (first | assumption | wp_step))
  refine codeAny_mono (code_set_led1 (.ref l) (E := E) (Q₁ := fun ob s₁ => ob = .ref s.heap.objs.size ∧ s₁ = { s with heap := s.heap.push (ob0 w) }) ⟨rfl, rfl⟩) fun r s₁ hr => ?_
  cases r with
  | error e => exact hr
  | ok fl =>
    cases fl with
    | ret ob =>
      obtain ⟨rfl, rfl⟩ := hr
      have gS : (s.heap.push (ob0 w)).get? s.heap.objs.size = some (ob0 w) := Heap.get?_push_size _ rfl
      have ty : Shared.TypeIs { s with heap := s.heap.push (ob0 w) } (.ref s.heap.objs.size) "set" := ⟨_, gS, rfl⟩
      have i1 := PySem.F.called_set.init.lookup
      have i2 := PySem.F.called_set.init.bind (.ref s.heap.objs.size)
      repeat (any_goals (first | assumption | wp_step))
      refine codeAny_mono (codeAny_call_builtin (R := wants (fun r s₂ => r = .none ∧ ∃ h' tk M, s₂ = { s with heap := h', toks := tk } ∧ SetQ P w h' s.heap.objs.size M ∧ (∀ z, z ∈ M ↔ z ∈ ks) ∧ (∀ b o, s.heap.get? b = some o → h'.get? b = some o)) E)
        PySem.F.called_set.init.plain PySem.F.entry_set_init (check_set_init_1 ty ?_)) fun r₂ s₂ hr₂ => ?_
      · obtain ⟨ol, go, cl, nl, da⟩ := hl
        obtain ⟨oc, od, odt, osl⟩ := ol
        simp only at cl da
        subst cl
        subst da
        have g1 : (s.heap.push (ob0 w)).get? l = some { cls := .type "tuple", dict := od, data := .seq items nl, slots := osl } := Heap.get?_push_of_some _ go
        have u1 := PySem.F.sub_tuple_set
        have u2 := PySem.F.sub_tuple_frozenset
        have u3 : (Value.type "tuple" == Value.type "dict") = false := by decide
        have l1 : (s.heap.push (ob0 w)).IsTuple l items := ⟨_, g1, rfl, nl, rfl⟩
        unfold Builtin.«set.__init__» noKeywords Builtin.Frozenset.updateFrom
        generalize hPI : pyIter = PI
        wp_walk
        subst hPI
        refine wpAny_pyIter_tuple l1 ?_
        refine wpAny_bind (wpAny_runValue ?_)
        have lt : l < s.heap.objs.size := Heap.lt_size go
        have h3 : A.in1.in1.in1.handled = none := by simp [hh]
        have z1 : (s.heap.push (ob0 w)).objs.size = s.heap.objs.size + 1 := Heap.size_push ..
        have n1 : l ≠ (s.heap.push (ob0 w)).objs.size := by
          rw [z1]
          exact Nat.ne_of_lt (Nat.lt_succ_of_lt lt)
        have n2 : s.heap.objs.size ∉ [(s.heap.push (ob0 w)).objs.size, l] := by
          rw [z1]
          simp only [List.mem_cons, List.not_mem_nil, or_false, not_or]
          exact ⟨Nat.ne_of_lt (Nat.lt_succ_self _), Nat.ne_of_gt lt⟩
        refine fill ((Walks.tuple h3 _ l n1 items).toS) s.heap.objs.size n2 ks hk (by omega) hv (items.size - 0) 0 _ [] rfl (Nat.zero_le _) ⟨⟨_, Heap.get?_push_size _ rfl, rfl, rfl⟩, l1.push _⟩ (new_set (led := !w.params.followText "set-order") ?_ (Heap.get?_push_of_some _ gS)) (Nat.le_refl _)
          (fun z => by simp) fun s' M mv r f => ?_
        · cases w.params.followText "set-order"
          · exact .inr rfl
          · exact .inl rfl
        · obtain ⟨h', g2, d', tk', os'⟩ := s'
          have eg : g2 = s.gens := mv.gens
          have ed : d' = s.drawn := mv.drawn
          have eo : os' = s.os := mv.os
          subst eg
          subst ed
          subst eo
          show wpAny _ _ _ _ _ _
          refine wpAny_pure ?_
          show wpAny _ _ (ret Value.none) _ _ _
          refine wpAny_pure ⟨rfl, h', tk', M, rfl, r, f, fun b o e => ?_⟩
          have hb := Heap.lt_size e
          refine mv.heap b o ?_ (Heap.get?_push_of_some _ (Heap.get?_push_of_some _ e))
          rw [z1]
          simp only [List.mem_cons, List.not_mem_nil, or_false, not_or]
          exact ⟨Nat.ne_of_lt hb, Nat.ne_of_lt (Nat.lt_succ_of_lt hb)⟩
      · cases r₂ with
        | error e => exact hr₂
        | ok fl₂ =>
          cases fl₂ with
          | ret r =>
            obtain ⟨rfl, h', tk, M, rfl, r, f, k⟩ := hr₂
            repeat (any_goals (first | assumption | wp_step))
            exact q _ _ M r f k
          | _ => exact hr₂.elim
    | _ => exact hr.elim

end
/-! ### as rules -/
def SetKO (P : Program) (w : World) (a : Addr) (L : List L2.Key) : HO := .ext fun h => SetQ P w h a L
theorem setKO_new {P : Program} {w : World} {H : Hp} {h : Heap} {a : Addr} {L : List L2.Key} (R : SetQ P w h a L) : ObjOk P w H h a (SetKO P w a L) := ⟨R, R.there, fun h1 h2 p k => SetQ.at p k⟩
section
variable {X : Cx}
theorem setKO_get {pins : List (Addr × Obj)} {σ : L2.St} {H : Hp} {s : Shared} {a : Addr} {L : List L2.Key} (I : Inv X pins σ H s) (ha : H a = some (SetKO X.prog X.w a L)) : SetQ X.prog X.w s.heap a L := (I.hok a _ ha).1
theorem keys_at {ks : List L2.Key} {us : List Value} (r : Vals (ks.map kV) us) : ks.length = us.toArray.size ∧ ∀ (i : Nat) (v : Value), us.toArray[i]? = some v → Plain v ∧ ks[i]? = some (kOf v) := by
  have hl : ks.length = us.length := by
    have z := r.length
    rw [List.length_map] at z
    exact z
  refine ⟨by simpa using hl, fun i v hv => ?_⟩
  have hv' : us[i]? = some v := by simpa using hv
  have hi : i < ks.length := by
    rw [hl]
    exact (List.getElem?_eq_some_iff.mp hv').1
  obtain ⟨u, hu, ru⟩ := r.get (i := i) (x := kV ks[i]) (by rw [List.getElem?_map, List.getElem?_eq_getElem hi] <;> rfl)
  rw [hv'] at hu
  cases hu
  obtain ⟨p, e⟩ := rel_plain ru
  exact ⟨p, by rw [e]; exact List.getElem?_eq_getElem hi⟩
/-- set(xs), a list or a tuple of ints and texts -/
def rSetK (K : PySem.W.Frag) (P : Program) (w : World) : List V → Hp → VK → Prop := fun xs H Q => ∃ (a : Addr) (ks : List L2.Key), xs = [.ref a] ∧ (SqL K H a (ks.map kV) ∨ SqT K H a (ks.map kV)) ∧ ks.length < 1000 ∧
  ∀ (p : Addr) (M : List L2.Key), M.Nodup → (∀ z, z ∈ M ↔ z ∈ ks) → H p = none → Q (.ref p) (upd H p (SetKO P w p M))
theorem SetQ.nd {P : Program} {w : World} {h : Heap} {a : Addr} {L : List L2.Key} (R : SetQ P w h a L) : L.Nodup := let ⟨_, _, _, _, _, _, _, _, _, n, _⟩ := R; n
theorem cr_setK (hc : X.calm = true) : CallR X (.type "set") (rSetK X.K X.prog X.w) := by
  intro pins s σ H xs us Q I r h
  obtain ⟨a, ks, rfl, hs, few, q⟩ := h
  rw [Vals.ref1 r]
  have fin : ∀ (h' : Heap) (tk : Nat) (M : List L2.Key), SetQ X.prog X.w h' s.heap.objs.size M → (∀ z, z ∈ M ↔ z ∈ ks) → (∀ b o, s.heap.get? b = some o → h'.get? b = some o) → EP X pins σ Q (.ref s.heap.objs.size) { s with heap := h', toks := tk } := fun h' tk M R f k =>
    ⟨.ref _, upd H s.heap.objs.size (SetKO X.prog X.w s.heap.objs.size M), I.laid (t' := tk) k (Nat.le_refl _) (setKO_new R), rfl, q _ M R.nd f (I.hok.fresh (Nat.le_refl _))⟩
  rcases hs with hs | hs
  · obtain ⟨its, rv, pl, _⟩ := I.list hs
    obtain ⟨e, v⟩ := keys_at rv
    exact call_set_list (I.ok.hd hc) pl.isList e v few fin
  · obtain ⟨its, rv, pl, _⟩ := I.tuple hs
    obtain ⟨e, v⟩ := keys_at rv
    exact call_set_tuple (I.ok.hd hc) (show s.heap.IsTuple a its.toArray from pl) e v few fin
end
end Yk

namespace Yk
open PySem PySem.Spec PyProof.Rows L2
section
variable {P : Program} {w : World} {A : Around} {E : Value → Shared → Prop} {s : Shared} {a : Addr} {L : List L2.Key}
/-- what sorted makes of a set: the list of its members, in some order, put in order by list.sort -/
theorem sorted_of {Q : Value → Shared → Prop} (R : SetQ P w s.heap a L) (hh : A.handled = none)
    (q : ∀ (s1 : Shared) (vs : List Value), (∀ b o, s.heap.get? b = some o → s1.heap.get? b = some o) → s.heap.objs.size ≤ s1.heap.objs.size → s1.gens = s.gens → s1.os = s.os → (∀ v ∈ vs, Plain v) → (vs.map kOf).Perm L →
      wpAny (model P w) A.in1 (call (.builtin "list.sort") [.ref s1.heap.objs.size]) (fun _ s2 => Q (.ref s1.heap.objs.size) s2) E { s1 with heap := s1.heap.push (seqObj "list" vs.toArray 0) }) :
    wpAny (model P w) A (call (.builtin "sorted") [.ref a]) Q E s := by
  obtain ⟨o, es, ep, t, ho, hex, hd, g, rfl, nd, hb, hf, hr, hl⟩ := R
  refine Calls.call_function_entry kind_sorted plain_sorted entry_sorted (args_sorted1 _) ?_
  unfold Builtin.«sorted»
  refine wpAny_bind (m := checkCount "sorted" 1 1 _) (wpAny_pure ?_)
  refine wpAny_bind (collect_set (A := A.in1) hh ⟨o, ho, hex.1, hd⟩ hf hb hr hl fun s1 vs k1 hz g1 o1 pm => ?_)
  have sz : vs.length = es.size := by
    have z := pm.length_eq
    rw [List.length_map, Array.length_toList] at z
    exact z
  have pl : ∀ v ∈ vs, Plain v := fun v hv => by
    obtain ⟨e, he, rfl⟩ := List.mem_map.mp (pm.mem_iff.mp hv)
    exact (g e he).1
  have pk : (vs.map kOf).Perm (es.toList.map fun e => kOf e.2) := by
    have z := pm.map kOf
    rw [List.map_map] at z
    exact z
  refine wpAny_bind (wpAny_newList ?_ (by rw [sz]; exact fits_of_scanBound hb))
  refine wpAny_bind (wpAny_holding (wpAny_mono (q s1 vs k1 hz g1 o1 pl pk) (fun r s2 z => ?_) fun _ _ z => z))
  exact wpAny_pure ⟨_, rfl, z⟩
end
section
variable {X : Cx}
theorem ints_keys : ∀ {vs : List Value} {ns : List Int}, (∀ v ∈ vs, Plain v) → vs.map kOf = ns.map Sum.inl → IntsAre vs ns
  | [], [], _, _ => .nil
  | v :: vs, n :: ns, p, e => by
    injection e with e1 e2
    rcases p v List.mem_cons_self with ⟨i, t, rfl⟩ | ⟨x, t, rfl⟩
    · have : i = n := Sum.inl.inj e1
      subst this
      exact .cons _ _ (ints_keys (fun u hu => p u (List.mem_cons_of_mem _ hu)) e2)
    · cases e1
theorem strs_keys : ∀ {vs : List Value} {ns : List Str}, (∀ v ∈ vs, Plain v) → vs.map kOf = ns.map Sum.inr → StrsAre vs ns
  | [], [], _, _ => .nil
  | v :: vs, n :: ns, p, e => by
    injection e with e1 e2
    rcases p v List.mem_cons_self with ⟨i, t, rfl⟩ | ⟨x, t, rfl⟩
    · cases e1
    · have : x = n := Sum.inr.inj e1
      subst this
      exact .cons _ _ (strs_keys (fun u hu => p u (List.mem_cons_of_mem _ hu)) e2)
theorem perm_ints {l : List L2.Key} {ms : List Int} (h : l.Perm (ms.map Sum.inl)) : ∃ ns : List Int, l = ns.map Sum.inl ∧ ns.Perm ms := by
  have all : ∀ k ∈ l, ∃ n : Int, k = Sum.inl n := fun k hk => by
    obtain ⟨n, _, e⟩ := List.mem_map.mp (h.mem_iff.mp hk)
    exact ⟨n, e.symm⟩
  have e : l = (l.map fun k => match k with | Sum.inl n => n | Sum.inr _ => (0 : Int)).map Sum.inl := by
    rw [List.map_map]
    conv => lhs; rw [← List.map_id l]
    refine List.map_congr_left fun k hk => ?_
    obtain ⟨n, rfl⟩ := all k hk
    rfl
  refine ⟨_, e, ?_⟩
  have z := h.map fun k : L2.Key => match k with | Sum.inl n => n | Sum.inr _ => (0 : Int)
  rw [List.map_map] at z
  have e2 : ms.map ((fun k : L2.Key => match k with | Sum.inl n => n | Sum.inr _ => (0 : Int)) ∘ Sum.inl) = ms := by
    conv => rhs; rw [← List.map_id ms]
    exact List.map_congr_left fun _ _ => rfl
  rw [e2] at z
  exact z
theorem perm_strs {l : List L2.Key} {ms : List Str} (h : l.Perm (ms.map Sum.inr)) : ∃ ns : List Str, l = ns.map Sum.inr ∧ ns.Perm ms := by
  have all : ∀ k ∈ l, ∃ n : Str, k = Sum.inr n := fun k hk => by
    obtain ⟨n, _, e⟩ := List.mem_map.mp (h.mem_iff.mp hk)
    exact ⟨n, e.symm⟩
  have e : l = (l.map fun k => match k with | Sum.inl _ => Str.empty | Sum.inr n => n).map Sum.inr := by
    rw [List.map_map]
    conv => lhs; rw [← List.map_id l]
    refine List.map_congr_left fun k hk => ?_
    obtain ⟨n, rfl⟩ := all k hk
    rfl
  refine ⟨_, e, ?_⟩
  have z := h.map fun k : L2.Key => match k with | Sum.inl _ => Str.empty | Sum.inr n => n
  rw [List.map_map] at z
  have e2 : ms.map ((fun k : L2.Key => match k with | Sum.inl _ => Str.empty | Sum.inr n => n) ∘ Sum.inr) = ms := by
    conv => rhs; rw [← List.map_id ms]
    exact List.map_congr_left fun _ _ => rfl
  rw [e2] at z
  exact z
/-- sorted of such a set, fewer than 64 members -/
def rSortedK (P : Program) (w : World) : List V → Hp → VK → Prop := fun vs H Q => ∃ (a : Addr) (L : List L2.Key), vs = [.ref a] ∧ H a = some (SetKO P w a L) ∧ L.length < 64 ∧
  ((∃ ms : List Int, L = ms.map Sum.inl ∧ ∀ (ns : List Int) (p : Addr), ns.Perm ms → ns.Pairwise (· ≤ ·) → H p = none → Q (.ref p) (upd H p (.lst (ns.map V.int)))) ∨
   ∃ ms : List Str, L = ms.map Sum.inr ∧ ∀ (ns : List Str) (p : Addr), ns.Perm ms → sortedS ns = true → H p = none → Q (.ref p) (upd H p (.lst (ns.map V.str))))
theorem cr_sortedK (hc : X.calm = true) : CallR X (.builtin "sorted") (rSortedK X.prog X.w) := by
  intro pins s σ H xs us Q I r h
  obtain ⟨a, L, rfl, ha, h64, q⟩ := h
  rw [Vals.ref1 r]
  refine sorted_of (setKO_get I ha) (I.ok.hd hc) fun s1 vs k1 hz g1 o1 pl pk => ?_
  have hv : vs.length < 64 := by
    have z := pk.length_eq
    rw [List.length_map] at z
    omega
  have gL : (s1.heap.push (seqObj "list" vs.toArray 0)).get? s1.heap.objs.size = some (seqObj "list" vs.toArray 0) := Heap.get?_push_size _ rfl
  have fin : ∀ (ys : List V) (out : Array Value), Vals ys out.toList → ys.length ≤ sizeLine → Q (.ref s1.heap.objs.size) (upd H s1.heap.objs.size (.lst ys)) →
      EP X pins σ Q (.ref s1.heap.objs.size) { s1 with heap := sortedHeap (s1.heap.push (seqObj "list" vs.toArray 0)) s1.heap.objs.size vs out } := fun ys out rv hy z => by
    obtain ⟨c, hcc⟩ := sortedHeap_at (vs := vs) (out := out) gL
    have k : ∀ b u, s.heap.get? b = some u → (sortedHeap (s1.heap.push (seqObj "list" vs.toArray 0)) s1.heap.objs.size vs out).get? b = some u := fun b u e => by
      have e1 := k1 b u e
      have lt := Heap.lt_size e1
      rw [sortedHeap_old (Nat.ne_of_lt lt) (by rw [size_push']; exact Nat.lt_succ_of_lt lt)]
      exact Heap.get?_push_of_some _ e1
    have hn := I.hok.fresh hz
    have J : Inv X pins σ (upd H s1.heap.objs.size (.lst ys)) { s with heap := sortedHeap (s1.heap.push (seqObj "list" vs.toArray 0)) s1.heap.objs.size vs out, gens := s1.gens, drawn := s1.drawn, toks := s1.toks } :=
      I.call (ch := []) (Un.laid k hz hn) (I.hok.laid k hz ⟨hy, out.toList, c, rv, hcc⟩) (by rw [g1]; exact I.bare) (fun _ z => nomatch z)
    have e : { s1 with heap := sortedHeap (s1.heap.push (seqObj "list" vs.toArray 0)) s1.heap.objs.size vs out } = { s with heap := sortedHeap (s1.heap.push (seqObj "list" vs.toArray 0)) s1.heap.objs.size vs out, gens := s1.gens, drawn := s1.drawn, toks := s1.toks } := by
      cases s1
      cases s
      cases o1
      rfl
    rw [e]
    exact ⟨.ref _, _, J, rfl, z⟩
  rcases q with ⟨ms, rfl, q⟩ | ⟨ms, rfl, q⟩
  · obtain ⟨ns, en, pn⟩ := perm_ints pk
    have iv := ints_keys pl en
    refine wpAny_call_entry slot_list_sort ⟨_, gL, rfl⟩ entry_list_sort (list_sort_tree gL iv hv fun out ns' a1 a2 a3 => ⟨_, rfl, ?_⟩) (args_list_sort _)
    refine fin (ns'.map V.int) out (vals_of_ints a1) ?_ (q ns' _ (a2.trans pn) a3 (I.hok.fresh hz))
    rw [List.length_map, (a2.trans pn).length_eq]
    rw [List.length_map] at h64
    exact Nat.le_trans (Nat.le_of_lt h64) (by decide)
  · obtain ⟨ns, en, pn⟩ := perm_strs pk
    have iv := strs_keys pl en
    refine wpAny_call_entry slot_list_sort ⟨_, gL, rfl⟩ entry_list_sort (list_sort_treeK strKind_oneLt gL iv.keysOf (fun v₁ v₂ rest e => keyKind_strs (by rw [← e]; exact iv)) hv fun st' hp hs => ?_) (args_list_sort _)
    obtain ⟨ys, b1, b2, b3⟩ := sorted_out_str iv hp hs
    refine ⟨_, rfl, ?_⟩
    refine fin (ys.map V.str) _ (vals_of_strs b1) ?_ (q ys _ (b2.trans pn) b3 (I.hok.fresh hz))
    rw [List.length_map, (b2.trans pn).length_eq]
    rw [List.length_map] at h64
    exact Nat.le_trans (Nat.le_of_lt h64) (by decide)
end
end Yk

namespace Kx
open PySem PySem.Spec PyProof.Rows L2
def topS (i : Nat) : Stmt := PySem.Challenge.pw_countedonce_k09_whole_papers.main.body.getD i (.Pass ⟨0, 0, 0, 0⟩)
abbrev sCell : Stmt := topS 60
abbrev sDraw : Stmt := topS 61
abbrev sNumb : Stmt := topS 62
abbrev sNext : Stmt := topS 63
abbrev sPick : Stmt := topS 64
section
variable {P : Program} {w : World} {K : PySem.W.Frag} {mg : Str → Option Value} {base : Heap}
/-- a def of the top that keeps a promise, and may be called by its name -/
structure Ready (P : Program) (w : World) (K : PySem.W.Frag) (mg : Str → Option Value) (base : Heap) (k : Nat) (x : Str) (ps : List Str) (sp : Sp) : Prop where
  ex : ∃ f fd, FnOk P w K mg base CX0 k f fd ps sp ∧ Binds K fd ps [] ∧ mg x = some (.ref f) ∧ PySem.W.keepIn K (.ref f) = true
end
theorem pe_fn {X : Cx} {k : Nat} {x : Str} {ps : List Str} {sp : Sp} {p pos : Pos} {e : Expr} {es : List Expr} {t : TA} (G : Ready X.prog X.w X.K X.mg X.base k x ps sp) (hr : Room k X.A) (ha : PA X (e :: es) t) (hg : Gl X x := by rfl)
    (hdb : (x == ("__debug__" : Str)) = false := by decide) (he : starEach (e :: es) X.env = (false, eval e X.env) :: starEach es X.env := by rfl) (hpl : (backTo pos (starEach es X.env)).any (·.1) = false := by rfl) :
    PE X (.Call (.Name x p) (e :: es) [] pos) (tCall sp [] E0 t) := by
  obtain ⟨f, fd, h, hb, hm, hk⟩ := G.ex
  exact pe_call h hr hg hm hk hb .nil pass0 ha hdb he hpl
/-- all that was tracked is as it was, but what stands at d -/
def But (d : Addr) (H H' : Hp) : Prop := ∀ b o, b ≠ d → H b = some o → H' b = some o
theorem But.refl (d : Addr) (H : Hp) : But d H H := fun _ _ _ h => h
theorem But.trans {d : Addr} {H H1 H2 : Hp} (a : But d H H1) (b : But d H1 H2) : But d H H2 := fun c o n h => b c o n (a c o n h)
theorem same_but {d : Addr} {H H' : Hp} (a : Same H H') : But d H H' := fun c o _ h => a c o h
theorem same_upd {H : Hp} {p : Addr} {o : HO} (h : H p = none) : Same H (upd H p o) := fun b x e => by
  rw [upd_ne (ne_of_none e h)]
  exact e
section
variable {P : Program} {w : World} {K : PySem.W.Frag} {mg : Str → Option Value} {base : Heap}
/-! ### the law's draws -/
def spCell (K : PySem.W.Frag) : Sp := fun vs H Q _ => ∃ (a : Addr) (ns : List Int) (k : Int), vs = [.ref a, .int k] ∧ SqL K H a (ns.map V.int) ∧ 0 ≤ k ∧ ∀ c : Int, Q (.int c) H
theorem sc_cell : FnScope ["script", "k"] ["script", "k"] (defScope sCell) := ⟨rfl, rfl, rfl, by decide +kernel, rfl, by decide +kernel, by decide +kernel⟩
theorem ok_cell {f : Addr} {fd : FuncData} (F : Fun K "_law_cell_at" "_law_cell_at" sCell f fd) (m_len : mg "len" = none) : FnOk P w K mg base CX0 1 f fd ["script", "k"] (spCell K) := by
  refine F.ok sc_cell (fun vs H Q E h => ?_) (fun cdv A outer s H vs Q E hr h => ?_)
  · obtain ⟨a, ns, k, rfl, _⟩ := h
    rfl
  obtain ⟨a, ns, k, rfl, hS, h0, q⟩ := h
  refine ⟨_, pss_cons (ps_if (pt_cmpR op_lt (pv 1) (pe_callB call_len_seq (by rfl) m_len PySem.boot_len (pa_cons (pv 0) pa_nil)) (nomark _)) (pss_one (ps_ret (pe_ix ix_list (pv 0) (pv 1) (fun _ _ => rfl)))) (pss_nil))
      (pss_one (ps_ret pe_int)), ?_⟩
  refine ⟨_, rfl, _, rfl, a, _, rfl, .inl hS, _, _, rfl, rfl, _, rfl, ?_⟩
  refine ite2 (fun c => ?_) (fun c => q 0)
  have c' : k < ((ns.map V.int).length : Int) := of_decide_eq_true c
  have ek : k = ((k.toNat : Nat) : Int) := by omega
  have hk : k.toNat < ns.length := by rw [List.length_map] at c'; omega
  have ha : atI (ns.map V.int) ((k.toNat : Nat) : Int) = some (.int ns[k.toNat]) := atI_nat (by rw [List.getElem?_map, List.getElem?_eq_getElem hk] <;> rfl)
  rw [← ek] at ha
  exact ⟨_, rfl, _, rfl, a, _, _, _, rfl, rfl, hS, ha, q _⟩
def spDraw : Sp := fun vs H Q _ => ∃ (c k b : Int), vs = [.int c, .int k, .int b] ∧ 0 < b ∧ ∀ (r : Int) (H' : Hp), 0 ≤ r → r < b → Same H H' → Q (.int r) H'
theorem sc_draw : FnScope ["cell", "k", "bound", "primes"] ["cell", "k", "bound"] (defScope sDraw) := ⟨rfl, rfl, rfl, by decide +kernel, rfl, by decide +kernel, by decide +kernel⟩
def primesL : List Int := [1000003, 1000033, 1000037, 1000039, 1000081, 1000099, 1000117, 1000121, 1000133, 1000151, 1000159, 1000171, 1000183, 1000187, 1000193, 1000199]
theorem primes_at {i : Int} (h0 : 0 ≤ i) (h : i < 16) : ∃ p : Int, 0 < p ∧ atI (primesL.map V.int) i = some (.int p) := by
  have ei : i = ((i.toNat : Nat) : Int) := by omega
  have hk : i.toNat < primesL.length := by show i.toNat < 16; omega
  refine ⟨primesL[i.toNat], ?_, ?_⟩
  · have : ∀ x ∈ primesL, (0 : Int) < x := by decide
    exact this _ (List.getElem_mem hk)
  · have q : atI (primesL.map V.int) ((i.toNat : Nat) : Int) = some (.int primesL[i.toNat]) := atI_nat (by rw [List.getElem?_map, List.getElem?_eq_getElem hk] <;> rfl)
    rw [← ei] at q
    exact q
theorem ok_draw {f : Addr} {fd : FuncData} (F : Fun K "_law_draw" "_law_draw" sDraw f fd) (m_int : mg "int" = none) : FnOk P w K mg base CX0 1 f fd ["cell", "k", "bound"] spDraw := by
  refine F.ok sc_draw (fun vs H Q E h => ?_) (fun cdv A outer s H vs Q E hr h => ?_)
  · obtain ⟨c, k, b, rfl, _⟩ := h
    rfl
  obtain ⟨c, k, b, rfl, hb, q⟩ := h
  have nd := sc_draw.nd
  refine ⟨_, pss_cons (ps_set (i := 3) nd rfl (.inl rfl) (pe_tup (pa_cons pe_int (pa_cons pe_int (pa_cons pe_int (pa_cons pe_int (pa_cons pe_int (pa_cons pe_int (pa_cons pe_int (pa_cons pe_int (pa_cons pe_int (pa_cons pe_int (pa_cons pe_int (pa_cons pe_int (pa_cons pe_int (pa_cons pe_int (pa_cons pe_int (pa_cons pe_int pa_nil))))))))))))))))))
      (pss_one (ps_ret (pe_op op_mod (pe_op op_mod (pe_callTy call_int1 (by rfl) m_int boot_int (pa_cons (pe_op op_add (pe_op op_mul (pv 0) pe_int) (pe_op op_mul (pv 1) pe_int)) pa_nil)) (pe_ix ix_tup (pv 3) (pe_op op_mod (pe_callTy call_int1 (by rfl) m_int boot_int (pa_cons (pv 1) pa_nil)) pe_int) (fun _ _ => rfl))) (pv 2)))), ?_⟩
  refine ⟨by show 16 ≤ sizeLine; decide, fun t ht => ?_⟩
  obtain ⟨p, hp, hat⟩ := primes_at (i := k % 16) (by omega) (by omega)
  refine ⟨_, rfl, _, _, rfl, rfl, .inr (by show _ ∧ _; decide), _, rfl, _, _, rfl, rfl, .inr (by show _ ∧ _; decide), _, _, rfl, rfl, .inl ⟨_, rfl, ?_⟩⟩
  refine ⟨_, rfl, _, rfl, .inl ⟨_, rfl, _, _, rfl, rfl, (by show (0 : Int) < 16; decide), ?_⟩⟩
  refine ⟨t, primesL.map V.int, _, _, rfl, rfl, SqT.of upd_same, hat, _, _, rfl, rfl, hp, _, rfl, _, _, rfl, rfl, hb, ?_⟩
  exact q _ _ (Int.emod_nonneg _ (by omega)) (Int.emod_lt_of_pos _ hb) (same_upd ht)
end
end Kx

namespace Kx
open PySem PySem.Spec PyProof.Rows L2
section
variable {P : Program} {w : World} {K : PySem.W.Frag} {mg : Str → Option Value} {base : Heap}
theorem pow_lt : ∀ i : Nat, i < 24 → (1009 ^ i : Nat) < 2 ^ 240 := by decide +kernel
theorem sc_numb : FnScope ["cell", "k", "bound", "power", "lap", "remains", "small"] ["cell", "k", "bound"] (defScope sNumb) := ⟨rfl, rfl, rfl, by decide +kernel, rfl, by decide +kernel, by decide +kernel⟩
def spNumb : Sp := fun vs H Q _ => ∃ (c k b : Int), vs = [.int c, .int k, .int b] ∧ 0 ≤ k ∧ k ≤ 100 ∧ 0 < b ∧ ∀ (r : Int) (H' : Hp), 0 ≤ r → r < b → Same H H' → Q (.int r) H'
theorem ok_numb {f : Addr} {fd : FuncData} (F : Fun K "_law_number" "_law_number" sNumb f fd) (m_int : mg "int" = none) (m_range : mg "range" = none) (G_law_draw : Ready P w K mg base 1 "_law_draw" ["cell", "k", "bound"] spDraw) :
    FnOk P w K mg base CX0 2 f fd ["cell", "k", "bound"] spNumb := by
  refine F.ok sc_numb (fun vs H Q E h => ?_) (fun cdv A outer s H vs Q E hr h => ?_)
  · obtain ⟨c, k, b, rfl, _⟩ := h
    rfl
  obtain ⟨c, k, b, rfl, k0, k1, hb, q⟩ := h
  have nd := sc_numb.nd
  refine ⟨_, pss_cons (ps_set (i := 3) nd rfl (.inl rfl) pe_int)
      (pss_cons (ps_for PassesOwn.never rfl (pi_range1 rfl m_range (pa_cons (pe_op op_mod (pe_callTy call_int1 (by rfl) m_int boot_int (pa_cons (pv 1) pa_nil)) pe_int) pa_nil)) (pg_name (i := 4) nd rfl (.inl rfl)) (pss_one (ps_set (i := 3) nd rfl (.inl rfl) (pe_op op_mul (pv 3) pe_int))))
      (pss_cons (ps_set (i := 5) nd rfl (.inl rfl) (pe_op op_fdivW (pe_op op_sub (pv 0) (pe_op op_pow pe_int pe_int)) (pv 3)))
      (pss_cons (ps_if (pt_cmpR op_gt (pv 5) pe_int (nomark _)) (pss_one (ps_ret (pe_op op_mod (pe_op op_mod (pe_callTy call_int1 (by rfl) m_int boot_int (pa_cons (pv 5) pa_nil)) pe_int) (pv 2)))) (pss_nil))
      (pss_cons (ps_set (i := 6) nd rfl (.inl rfl) (pe_op op_mod (pe_callTy call_int1 (by rfl) m_int boot_int (pa_cons (pv 0) pa_nil)) pe_int))
      (pss_one (ps_ret (pe_op op_mod (pe_fn (G_law_draw) (hr.mono (by decide)) (pa_cons (pe_op op_mul (pe_op op_add (pv 6) (pe_op op_mul pe_int (pv 1))) (pe_op op_add (pe_op op_add (pv 6) (pe_op op_mul pe_int (pv 1))) pe_int)) (pa_cons (pe_op op_add (pe_op op_mod (pe_callTy call_int1 (by rfl) m_int boot_int (pa_cons (pv 1) pa_nil)) pe_int) pe_int) (pa_cons pe_int pa_nil)))) (pv 2)))))))), ?_⟩
  refine ⟨_, rfl, .inl ⟨_, rfl, _, _, rfl, rfl, (by show (0 : Int) < 24; decide), _, rfl, by omega, by omega, ?_⟩⟩
  have m0 : 0 ≤ k % 24 := Int.emod_nonneg _ (by omega)
  have m1 : k % 24 < 24 := Int.emod_lt_of_pos _ (by omega)
  refine for_range (fun i σ H' => ∃ y4, σ = [some (.int c), some (.int k), some (.int b), some (.int ((1009 ^ i : Nat) : Int)), y4, none, none] ∧ H' = H) ⟨none, rfl, rfl⟩ ?_ ?_
  · rintro i σ H' hi ⟨y4, rfl, rfl⟩
    refine ⟨_, rfl, _, _, rfl, rfl, .inr (by show _ ∧ _; decide), ?_⟩
    refine ⟨some (.int (0 + (i : Nat))), ?_, rfl⟩
    rw [Nat.pow_succ, Int.natCast_mul]
    rfl
  · rintro σ H' ⟨y4, rfl, rfl⟩
    have hj : (k % 24).toNat < 24 := by omega
    have hp := pow_lt _ hj
    have hp0 : 0 < (1009 ^ (k % 24).toNat : Nat) := Nat.pow_pos (by decide)
    generalize (1009 ^ (k % 24).toNat : Nat) = pw at hp hp0
    refine ⟨_, rfl, _, _, rfl, rfl, (by show _ ∧ _ ∧ _; decide), _, _, rfl, rfl, _, rfl, _, _, rfl, rfl, wide_div (b := 240) (by omega) (by omega) (by decide) (by decide), ?_⟩
    refine ⟨_, rfl, _, _, rfl, rfl, _, rfl, ?_⟩
    refine ite2 (fun _ => ?_) (fun _ => ?_)
    · refine ⟨_, rfl, .inl ⟨_, rfl, _, _, rfl, rfl, (by show (0 : Int) < 1009; decide), _, rfl, _, _, rfl, rfl, hb, ?_⟩⟩
      exact q _ _ (Int.emod_nonneg _ (by omega)) (Int.emod_lt_of_pos _ hb) (Same.refl _)
    · refine ⟨_, rfl, .inl ⟨_, rfl, _, _, rfl, rfl, (by show (0 : Int) < 1000003; decide), ?_⟩⟩
      have s0 : 0 ≤ c % 1000003 := Int.emod_nonneg _ (by omega)
      have s1 : c % 1000003 < 1000003 := Int.emod_lt_of_pos _ (by omega)
      refine ⟨_, rfl, _, rfl, _, _, rfl, rfl, .inl (by show _ ∧ _; decide), _, _, rfl, rfl, ?_⟩
      refine ⟨_, rfl, _, rfl, _, _, rfl, rfl, .inl (by show _ ∧ _; decide), _, _, rfl, rfl, _, _, rfl, rfl, _, _, rfl, rfl, .inl (by show _ ∧ _; omega), ?_⟩
      refine ⟨_, rfl, .inl ⟨_, rfl, _, _, rfl, rfl, (by show (0 : Int) < 9; decide), _, _, rfl, rfl, _, _, _, rfl, by decide, fun r H2 r0 r1 sm => ?_⟩⟩
      refine ⟨_, rfl, _, _, rfl, rfl, hb, ?_⟩
      exact q _ _ (Int.emod_nonneg _ (by omega)) (Int.emod_lt_of_pos _ hb) sm
theorem at0 {a b c : V} {tl : List V} : atI (a :: b :: c :: tl) 0 = some a := atI_nat (j := 0) rfl
theorem at1 {a b c : V} {tl : List V} : atI (a :: b :: c :: tl) 1 = some b := atI_nat (j := 1) rfl
theorem at2 {a b c : V} {tl : List V} : atI (a :: b :: c :: tl) 2 = some c := atI_nat (j := 2) rfl
theorem ix2 {a b c : V} {tl : List V} : ixN (a :: b :: c :: tl).length 2 = some 2 := by
  have h : (2 : Int) < (((a :: b :: c :: tl).length : Nat) : Int) := by show (2 : Int) < ((tl.length + 1 + 1 + 1 : Nat) : Int); omega
  exact (if_pos (by decide)).trans (if_pos h)
/-- the three things of a draw: the script's first cells, where it begins, how many were drawn -/
structure DrawAt (H : Hp) (d s : Addr) (ns : List Int) (xs : List V) (n : Int) : Prop where
  at_d : H d = some (.lst (.ref s :: .int 0 :: .int n :: xs))
  at_s : H s = some (.lst (ns.map V.int))
  n0 : 0 ≤ n
theorem DrawAt.ne {H : Hp} {d s : Addr} {ns : List Int} {tl : List V} {n : Int} (D : DrawAt H d s ns tl n) : s ≠ d := fun e => by
  have a := D.at_s
  rw [e, D.at_d] at a
  cases ns with
  | nil => cases a
  | cons x r => cases a
theorem DrawAt.keep {H H' : Hp} {d s : Addr} {ns : List Int} {tl : List V} {n : Int} (D : DrawAt H d s ns tl n) (h : Same H H') : DrawAt H' d s ns tl n := ⟨h _ _ D.at_d, h _ _ D.at_s, D.n0⟩
def spNext : Sp := fun vs H Q _ => ∃ (d s : Addr) (ns : List Int) (tl : List V) (n b : Int), vs = [.ref d, .int b] ∧ DrawAt H d s ns tl n ∧ 0 < b ∧ ∀ (r : Int) (H' : Hp), 0 ≤ r → r < b → But d H H' → DrawAt H' d s ns tl (n + 1) → Q (.int r) H'
theorem sc_next : FnScope ["draw", "bound", "at", "cell"] ["draw", "bound"] (defScope sNext) := ⟨rfl, rfl, rfl, by decide +kernel, rfl, by decide +kernel, by decide +kernel⟩
theorem ok_next {f : Addr} {fd : FuncData} (F : Fun K "_law_next" "_law_next" sNext f fd) (m_int : mg "int" = none) (G_law_cell_at : Ready P w K mg base 1 "_law_cell_at" ["script", "k"] (spCell K)) (G_law_number : Ready P w K mg base 2 "_law_number" ["cell", "k", "bound"] spNumb) :
    FnOk P w K mg base CX0 3 f fd ["draw", "bound"] spNext := by
  refine F.ok sc_next (fun vs H Q E h => ?_) (fun cdv A outer s H vs Q E hr h => ?_)
  · obtain ⟨d, s, ns, tl, n, b, rfl, _⟩ := h
    rfl
  obtain ⟨d, s, ns, tl, n, b, rfl, D, hb, q⟩ := h
  have nd := sc_next.nd
  refine ⟨_, pss_cons (ps_asg (pe_op op_add (pe_ix ix_list (pv 0) pe_int (fun _ _ => rfl)) pe_int) (pg_sub (pv 0) pe_int set_list))
      (pss_cons (ps_set (i := 2) nd rfl (.inl rfl) (pe_op op_fdiv (pe_ix ix_list (pv 0) pe_int (fun _ _ => rfl)) pe_int))
      (pss_cons (ps_set (i := 3) nd rfl (.inl rfl) (pe_op op_add (pe_fn (G_law_cell_at) (hr.mono (by decide)) (pa_cons (pe_ix ix_list (pv 0) pe_int (fun _ _ => rfl)) (pa_cons (pe_op op_add (pe_ix ix_list (pv 0) pe_int (fun _ _ => rfl)) (pv 2)) pa_nil))) (pe_op op_mul pe_int (pv 2))))
      (pss_one (ps_ret (pe_fn (G_law_number) (hr.mono (by decide)) (pa_cons (pv 3) (pa_cons (pe_op op_add (pe_op op_mod (pe_callTy call_int1 (by rfl) m_int boot_int (pa_cons (pe_ix ix_list (pv 0) pe_int (fun _ _ => rfl)) pa_nil)) pe_int) pe_int) (pa_cons (pv 1) pa_nil)))))))), ?_⟩
  refine ⟨_, rfl, d, _, 2, _, rfl, rfl, SqL.of D.at_d, at2, _, _, rfl, rfl, _, rfl, d, _, _, _, rfl, rfl, D.at_d, ix2, ?_⟩
  have D1 : DrawAt (upd H d (.lst (.ref s :: .int 0 :: .int (n + 1) :: tl))) d s ns tl (n + 1) := ⟨upd_same, by rw [upd_ne D.ne]; exact D.at_s, by have := D.n0; omega⟩
  have b1 : But d H (upd H d (.lst (.ref s :: .int 0 :: .int (n + 1) :: tl))) := fun c o hc e => by rw [upd_ne hc]; exact e
  have n0 := D1.n0
  refine ⟨_, rfl, d, _, 2, _, rfl, rfl, SqL.of D1.at_d, at2, _, _, rfl, rfl, (by show _ ∧ _; decide), ?_⟩
  refine ⟨_, rfl, d, _, 0, _, rfl, rfl, SqL.of D1.at_d, at0, _, rfl, d, _, 1, _, rfl, rfl, SqL.of D1.at_d, at1, _, rfl, _, _, rfl, rfl, s, ns, _, rfl, SqL.of D1.at_s, by omega, fun c => ?_⟩
  refine ⟨_, rfl, _, _, rfl, rfl, .inl (by show _ ∧ _; decide), _, _, rfl, rfl, ?_⟩
  refine ⟨_, rfl, _, rfl, d, _, 2, _, rfl, rfl, SqL.of D1.at_d, at2, .inl ⟨_, rfl, _, _, rfl, rfl, (by show (0 : Int) < 12; decide), _, _, rfl, rfl, _, rfl, ?_⟩⟩
  refine ⟨_, _, _, rfl, by omega, by omega, hb, fun r H' r0 r1 sm => ?_⟩
  exact q r H' r0 r1 (b1.trans (same_but sm)) (D1.keep sm)
/-- a list or a tuple of values -/
def Seq (K : PySem.W.Frag) (H : Hp) (a : Addr) (xs : List V) : Prop := SqL K H a xs ∨ SqT K H a xs
theorem nth {xs : List V} {r : Int} (h0 : 0 ≤ r) (h1 : r < (xs.length : Int)) : ∃ v, v ∈ xs ∧ atI xs r = some v := by
  have er : r = ((r.toNat : Nat) : Int) := by omega
  have hk : r.toNat < xs.length := by omega
  have q : atI xs ((r.toNat : Nat) : Int) = some xs[r.toNat] := atI_nat (List.getElem?_eq_getElem hk)
  rw [← er] at q
  exact ⟨_, List.getElem_mem hk, q⟩
theorem But.sqT {H H' : Hp} {d a : Addr} {xs : List V} (h : But d H H') (hd : ∃ l, H d = some (.lst l)) (q : SqT K H a xs) : SqT K H' a xs := by
  rcases q with (q | ⟨o, q⟩) | q
  · refine .inl (.inl (h _ _ (fun e => ?_) q))
    obtain ⟨l, hl⟩ := hd
    rw [e, hl] at q
    cases q
  · refine .inl (.inr ⟨o, h _ _ (fun e => ?_) q⟩)
    obtain ⟨l, hl⟩ := hd
    rw [e, hl] at q
    cases q
  · exact .inr q
def spPick (K : PySem.W.Frag) : Sp := fun vs H Q _ => ∃ (d s t : Addr) (ns : List Int) (tl : List V) (n : Int) (xs : List V), vs = [.ref d, .ref t] ∧ DrawAt H d s ns tl n ∧ t ≠ d ∧ Seq K H t xs ∧ xs ≠ [] ∧ ∀ (v : V) (H' : Hp), v ∈ xs → But d H H' → DrawAt H' d s ns tl (n + 1) → Q v H'
theorem sc_pick : FnScope ["draw", "things"] ["draw", "things"] (defScope sPick) := ⟨rfl, rfl, rfl, by decide +kernel, rfl, by decide +kernel, by decide +kernel⟩
theorem But.seq {H H' : Hp} {d a : Addr} {xs : List V} (h : But d H H') (hd : a ≠ d) (q : Seq K H a xs) : Seq K H' a xs := by
  rcases q with ((q | ⟨o, q⟩) | q) | ((q | ⟨o, q⟩) | q)
  · exact .inl (.inl (.inl (h _ _ hd q)))
  · exact .inl (.inl (.inr ⟨o, h _ _ hd q⟩))
  · exact .inl (.inr q)
  · exact .inr (.inl (.inl (h _ _ hd q)))
  · exact .inr (.inl (.inr ⟨o, h _ _ hd q⟩))
  · exact .inr (.inr q)
theorem ok_pick {f : Addr} {fd : FuncData} (F : Fun K "_law_pick" "_law_pick" sPick f fd) (m_len : mg "len" = none) (G_law_next : Ready P w K mg base 3 "_law_next" ["draw", "bound"] spNext) :
    FnOk P w K mg base CX0 4 f fd ["draw", "things"] (spPick K) := by
  refine F.ok sc_pick (fun vs H Q E h => ?_) (fun cdv A outer s H vs Q E hr h => ?_)
  · obtain ⟨d, s, t, ns, tl, n, xs, rfl, _⟩ := h
    rfl
  obtain ⟨d, s, t, ns, tl, n, xs, rfl, D, td, hS, hne, q⟩ := h
  have nd := sc_pick.nd
  refine ⟨_, pss_one (ps_ret (pe_ix ix_seq (pv 1) (pe_fn (G_law_next) (hr.mono (by decide)) (pa_cons (pv 0) (pa_cons (pe_callB call_len_seq (by rfl) m_len PySem.boot_len (pa_cons (pv 1) pa_nil)) pa_nil))) (fun _ _ => rfl))), ?_⟩
  have hl : 0 < (xs.length : Int) := by
    have := List.length_pos_iff.mpr hne
    omega
  refine ⟨_, rfl, _, rfl, _, rfl, t, xs, rfl, hS, d, s, ns, tl, n, _, rfl, D, hl, fun r H' r0 r1 bt D' => ?_⟩
  obtain ⟨v, hv, hat⟩ := nth r0 r1
  rcases bt.seq td hS with hL | hT
  · exact .inl ⟨t, xs, _, _, rfl, rfl, hL, hat, q _ _ hv bt D'⟩
  · exact .inr (.inl ⟨t, xs, _, _, rfl, rfl, hT, hat, q _ _ hv bt D'⟩)
end
end Kx

namespace Kx
open PySem PySem.Spec PyProof.Rows L2
abbrev sInt : Stmt := topS 65
/-! ### expressions, and how they stand -/
/-- the six comparisons; the five others -/
def cmps : List Str := ["=", "!=", "<", "<=", ">", ">="]
/-- those that texts are compared by -/
def cmpsT : List Str := ["=", "!=", "<", ">="]
theorem cmpsT_sub : ∀ op ∈ cmpsT, op ∈ cmps := by decide +kernel
def sums : List Str := ["+", "-", "*", "/", "mod"]
inductive Ex where
  | num (i : Int)
  | quo (z : Str)
  | col (x : Str)
  | two (op : Str) (a b : Ex)
  | nt (a : Ex)
  | mn (a : Ex)
  | ln (a : Ex)
def Ex.dep : Ex → Nat
  | .two _ a b => max a.dep b.dep + 1
  | .nt a => a.dep + 1
  | .mn a => a.dep + 1
  | .ln a => a.dep + 1
  | _ => 1
theorem Ex.dep_pos (e : Ex) : 0 < e.dep := by cases e <;> exact Nat.succ_pos _
/-- the kinds: true an int, false a text; c the kinds of the columns -/
inductive Kind (c : Str → Option Bool) : Ex → Bool → Prop where
  | num {i : Int} (h : -9223372036854775808 ≤ i ∧ i < 9223372036854775808) : Kind c (.num i) true
  | quo {z : Str} (h : z ∈ (["a", "b", "bb", ""] : List Str)) : Kind c (.quo z) false
  | col {x : Str} {b : Bool} (h : c x = some b) : Kind c (.col x) b
  | arith {op : Str} {a b : Ex} (h : op ∈ sums ∨ op ∈ cmps ∨ op = "and" ∨ op = "or") (ha : Kind c a true) (hb : Kind c b true) : Kind c (.two op a b) true
  | text {op : Str} {a b : Ex} (h : op ∈ cmpsT) (ha : Kind c a false) (hb : Kind c b false) : Kind c (.two op a b) true
  | nt {a : Ex} (ha : Kind c a true) : Kind c (.nt a) true
  | mn {a : Ex} (ha : Kind c a true) : Kind c (.mn a) true
  | ln {a : Ex} (ha : Kind c a false) : Kind c (.ln a) true
/-- how an expression stands in the heap -/
def ExAt (H : Hp) : V → Ex → Prop
  | v, .num i => ∃ a, v = .ref a ∧ H a = some (.tup [.str "number", .int i])
  | v, .quo z => ∃ a, v = .ref a ∧ H a = some (.tup [.str "quoted", .str z])
  | v, .col x => ∃ a, v = .ref a ∧ H a = some (.tup [.str "column", .str x])
  | v, .two op x y => ∃ a vx vy, v = .ref a ∧ H a = some (.tup [.str "two", .str op, vx, vy]) ∧ ExAt H vx x ∧ ExAt H vy y
  | v, .nt x => ∃ a vx, v = .ref a ∧ H a = some (.tup [.str "not", vx]) ∧ ExAt H vx x
  | v, .mn x => ∃ a vx, v = .ref a ∧ H a = some (.tup [.str "minus", vx]) ∧ ExAt H vx x
  | v, .ln x => ∃ a vx, v = .ref a ∧ H a = some (.tup [.str "length", vx]) ∧ ExAt H vx x
theorem ExAt.keep {H H' : Hp} (h : ∀ (a : Addr) (xs : List V), H a = some (.tup xs) → H' a = some (.tup xs)) : ∀ {e : Ex} {v : V}, ExAt H v e → ExAt H' v e
  | .num _, _, ⟨a, e, q⟩ => ⟨a, e, h _ _ q⟩
  | .quo _, _, ⟨a, e, q⟩ => ⟨a, e, h _ _ q⟩
  | .col _, _, ⟨a, e, q⟩ => ⟨a, e, h _ _ q⟩
  | .two _ _ _, _, ⟨a, vx, vy, e, q, x, y⟩ => ⟨a, vx, vy, e, h _ _ q, x.keep h, y.keep h⟩
  | .nt _, _, ⟨a, vx, e, q, x⟩ => ⟨a, vx, e, h _ _ q, x.keep h⟩
  | .mn _, _, ⟨a, vx, e, q, x⟩ => ⟨a, vx, e, h _ _ q, x.keep h⟩
  | .ln _, _, ⟨a, vx, e, q, x⟩ => ⟨a, vx, e, h _ _ q, x.keep h⟩
theorem But.tup {H H' : Hp} {d : Addr} {l : List V} (h : But d H H') (hd : H d = some (.lst l)) : ∀ (a : Addr) (xs : List V), H a = some (.tup xs) → H' a = some (.tup xs) := fun a xs e => h a _ (fun q => by rw [q, hd] at e; cases e) e
/-! ### the columns of a table, in a list -/
abbrev Col : Type := Addr × Str × Bool
def kW (b : Bool) : Str := if b then "int" else "text"
structure ColsAt (H : Hp) (cs : Addr) (cl : List Col) : Prop where
  all : H cs = some (.lst (cl.map fun c => .ref c.1))
  each : ∀ c ∈ cl, H c.1 = some (.tup [.str c.2.1, .str (kW c.2.2)])
  few : cl.length ≤ 1000
  ok : ∀ c ∈ cl, PyData.canLay0 (.str c.2.1) = true
theorem ColsAt.keep {H H' : Hp} {cs : Addr} {cl : List Col} (C : ColsAt H cs cl) (h : Same H H') : ColsAt H' cs cl := ⟨h _ _ C.all, fun c hc => h _ _ (C.each c hc), C.few, C.ok⟩
theorem ColsAt.ne {H : Hp} {cs d s : Addr} {cl : List Col} {ns : List Int} {tl : List V} {n : Int} (C : ColsAt H cs cl) (D : DrawAt H d s ns tl n) : cs ≠ d := fun e => by
  have a := C.all
  rw [e, D.at_d] at a
  match cl, a with
  | [], a => cases a
  | [_], a => cases a
  | _ :: _ :: _, a => cases a
theorem ColsAt.but {H H' : Hp} {cs d s : Addr} {cl : List Col} {ns : List Int} {tl : List V} {n : Int} (C : ColsAt H cs cl) (D : DrawAt H d s ns tl n) (h : But d H H') : ColsAt H' cs cl :=
  ⟨h _ _ (C.ne D) C.all, fun c hc => h.tup D.at_d _ _ (C.each c hc), C.few, C.ok⟩
def strsOf (b : Bool) (cl : List Col) : List Str := (cl.filter fun c => c.2.2 == b).map fun c => c.2.1
theorem strs_le (b : Bool) (cl : List Col) : (strsOf b cl).length ≤ cl.length := by
  unfold strsOf
  rw [List.length_map]
  exact List.length_filter_le _ _
theorem take_at {cl : List Col} {i : Nat} {c : Col} (h : cl[i]? = some c) : cl.take (i + 1) = cl.take i ++ [c] := by
  rw [List.take_add_one, h]
  rfl
theorem strs_yes {b : Bool} {cl : List Col} {i : Nat} {a : Addr} {x : Str} (h : cl[i]? = some (a, x, b)) : strsOf b (cl.take (i + 1)) = strsOf b (cl.take i) ++ [x] := by
  unfold strsOf
  rw [take_at h, List.filter_append, List.map_append]
  simp
theorem strs_no {b : Bool} {cl : List Col} {i : Nat} {a : Addr} {x : Str} {k : Bool} (h : cl[i]? = some (a, x, k)) (hk : (k == b) = false) : strsOf b (cl.take (i + 1)) = strsOf b (cl.take i) := by
  unfold strsOf
  rw [take_at h, List.filter_append, List.map_append]
  simp [hk]
theorem mem_strsOf {b : Bool} {cl : List Col} {v : V} {kf : Str → Option Bool} (hk : ∀ c ∈ cl, kf c.2.1 = some c.2.2) (h : v ∈ (strsOf b cl).map V.str) : ∃ x, v = .str x ∧ kf x = some b := by
  obtain ⟨x, hx, rfl⟩ := List.mem_map.mp h
  obtain ⟨c, hc, rfl⟩ := List.mem_map.mp hx
  obtain ⟨hc, e⟩ := List.mem_filter.mp hc
  refine ⟨_, rfl, ?_⟩
  rw [hk c hc]
  exact congrArg some (eq_of_beq e)
theorem strsAll_can : ∀ l : List Str, (∀ x ∈ l, PyData.canLay0 (.str x) = true) → PyData.canLayAll0 (l.map PyData.str) = true
  | [], _ => rfl
  | x :: l, h => by
    show (PyData.canLay0 (.str x) && PyData.canLayAll0 (l.map PyData.str)) = true
    rw [strsAll_can l fun y hy => h y (List.mem_cons_of_mem _ hy), h x List.mem_cons_self]
    rfl
theorem strsAll_depth : ∀ l : List Str, PyData.depthAll (l.map PyData.str) = 0
  | [] => rfl
  | x :: l => by
    show max (PyData.depth (.str x)) (PyData.depthAll (l.map PyData.str)) = 0
    rw [strsAll_depth l]
    rfl
theorem strs_shaped {l : List Str} (h : ∀ x ∈ l, PyData.canLay0 (.str x) = true) : SeqAt.shaped (.list (l.map PyData.str)) = true := by
  refine Bool.and_eq_true_iff.mpr ⟨strsAll_can l h, decide_eq_true ?_⟩
  show PyData.depthAll (l.map PyData.str) + 1 ≤ 64
  rw [strsAll_depth l]
  decide
theorem ColsAt.shaped {H : Hp} {cs : Addr} {cl : List Col} (C : ColsAt H cs cl) (b : Bool) : SeqAt.shaped (.list ((strsOf b cl).map PyData.str)) = true := strs_shaped fun x hx => by
  obtain ⟨c, hc, rfl⟩ := List.mem_map.mp hx
  exact C.ok c (List.mem_filter.mp hc).1
theorem dpa_strs {K : PySem.W.Frag} {H : Hp} : ∀ l : List Str, DpAll K H (l.map V.str) (l.map PyData.str)
  | [] => .nil
  | x :: l => .cons (.str x) (dpa_strs l)
end Kx

namespace Kx
open PySem PySem.Spec PyProof.Rows L2
section
variable {P : Program} {w : World} {K : PySem.W.Frag} {mg : Str → Option Value} {base : Heap}
theorem strs_ne {l : List Str} (h : (!PyData.eqv (.list (l.map PyData.str)) (.list [])) = true) : l.map V.str ≠ [] := by
  cases l with
  | nil => cases h
  | cons x l => intro e; cases e
def spInt (m : Nat) : Sp := fun vs H Q _ => ∃ (d s cols : Addr) (cl : List Col) (kf : Str → Option Bool) (ns : List Int) (tl : List V) (n deep : Int), vs = [.ref d, .ref cols, .int deep] ∧ DrawAt H d s ns tl n ∧ ColsAt H cols cl ∧ (∀ c ∈ cl, kf c.2.1 = some c.2.2) ∧ 0 ≤ deep ∧ deep + 1 = (m : Int) ∧
  ∀ (v : V) (e : Ex) (n' : Int) (H' : Hp), Kind kf e true → e.dep ≤ m + 1 → ExAt H' v e → But d H H' → DrawAt H' d s ns tl n' → Q v H'
abbrev N_law_int : List Str := ["draw", "columns", "deep", "ints", "name", "kind", "texts", "one"]
theorem sc_int : FnScope N_law_int ["draw", "columns", "deep"] (defScope sInt) := ⟨rfl, rfl, rfl, by decide +kernel, rfl, by decide +kernel, by decide +kernel⟩
/-- where the def stands behind its first two lines -/
structure IntSt (H0 H : Hp) (d s D1 D2 : Addr) (l1 l2 : List V) (ns : List Int) (tl : List V) (n : Int) : Prop where
  dr : DrawAt H d s ns tl n
  b : But d H0 H
  i1 : H D1 = some (.lst l1)
  i2 : H D2 = some (.lst l2)
  n1 : D1 ≠ d
  n2 : D2 ≠ d
theorem IntSt.step {H0 H H' : Hp} {d s D1 D2 : Addr} {l1 l2 tl : List V} {ns : List Int} {n n' : Int} (S : IntSt H0 H d s D1 D2 l1 l2 ns tl n) (b : But d H H') (D : DrawAt H' d s ns tl n') : IntSt H0 H' d s D1 D2 l1 l2 ns tl n' :=
  ⟨D, S.b.trans b, b _ _ S.n1 S.i1, b _ _ S.n2 S.i2, S.n1, S.n2⟩
theorem IntSt.new {H0 H : Hp} {d s D1 D2 p : Addr} {l1 l2 tl : List V} {ns : List Int} {n : Int} {o : HO} (S : IntSt H0 H d s D1 D2 l1 l2 ns tl n) (h : H p = none) : IntSt H0 (upd H p o) d s D1 D2 l1 l2 ns tl n :=
  S.step (same_but (same_upd h)) (S.dr.keep (same_upd h))
theorem mem_strs {v : V} {l : List Str} (h : v ∈ l.map V.str) : ∃ z, z ∈ l ∧ v = .str z := by
  obtain ⟨z, hz, e⟩ := List.mem_map.mp h
  exact ⟨z, hz, e.symm⟩
def ops13 : List Str := ["+", "-", "*", "/", "mod", "=", "!=", "<", "<=", ">", ">=", "and", "or"]
theorem ops13_in : ∀ op ∈ ops13, op ∈ sums ∨ op ∈ cmps ∨ op = "and" ∨ op = "or" := by decide +kernel
set_option maxHeartbeats 16000000 in
theorem ok_int {f : Addr} {fd : FuncData} {m : Nat} (F : Fun K "_law_int" "_law_int" sInt f fd) (m_len : mg "len" = none) (G_law_next : Ready P w K mg base 3 "_law_next" ["draw", "bound"] spNext) (G_law_pick : Ready P w K mg base 4 "_law_pick" ["draw", "things"] (spPick K))
    (G_law_int : Ready P w K mg base (m + 4) "_law_int" ["draw", "columns", "deep"] (spInt m)) : FnOk P w K mg base CX0 (m + 5) f fd ["draw", "columns", "deep"] (spInt (m + 1)) := by
  refine F.ok sc_int (fun vs H Q E h => ?_) (fun cdv A outer s0 H vs Q E hr h => ?_)
  · obtain ⟨d, s, cols, cl, kf, ns, tl, n, deep, rfl, _⟩ := h
    rfl
  obtain ⟨d, s, cols, cl, kf, ns, tl, n, deep, rfl, D, C, hk, hd0, hdm, q⟩ := h
  have nd := sc_int.nd
  have hu64 : _ + 64 < cLine := hr.units
  have hr4 : Room 4 _ := hr.mono (by omega)
  have hr3 : Room 3 _ := hr.mono (by omega)
  refine ⟨_, pss_cons (ps_setLc (i := 3) (own := [("name", 4), ("kind", 5)]) (g := (gTup K 2 (gCons (gName 4) (gCons (gName 5) gNil)))) (tt := _) rfl nd rfl rfl (sw_true rfl rfl rfl (by decide +kernel)) (pi_list (pv 1)) (blkOk_by (N := N_law_int) (sc := defScope sInt) (by decide +kernel)) (fun _ _ _ _ _ => pg_tup rfl (pgs_cons (pg_name (i := 4) nd rfl (.inl rfl)) (pgs_cons (pg_name (i := 5) nd rfl (.inl rfl)) pgs_nil))) (fun _ _ _ _ _ => pts_one (pt_cmpR op_eq (pv 5) pe_str (nomark _))) (fun _ _ _ _ _ => (pv 4)))
      (pss_cons (ps_setLc (i := 6) (own := [("name", 4), ("kind", 5)]) (g := (gTup K 2 (gCons (gName 4) (gCons (gName 5) gNil)))) (tt := _) rfl nd rfl rfl (sw_true rfl rfl rfl (by decide +kernel)) (pi_list (pv 1)) (blkOk_by (N := N_law_int) (sc := defScope sInt) (by decide +kernel)) (fun _ _ _ _ _ => pg_tup rfl (pgs_cons (pg_name (i := 4) nd rfl (.inl rfl)) (pgs_cons (pg_name (i := 5) nd rfl (.inl rfl)) pgs_nil))) (fun _ _ _ _ _ => pts_one (pt_cmpR op_eq (pv 5) pe_str (nomark _))) (fun _ _ _ _ _ => (pv 4)))
      (pss_cons (ps_set (i := 5) nd rfl (.inl rfl) (pe_fn (G_law_next) hr3 (pa_cons (pv 0) (pa_cons pe_int pa_nil))))
      (pss_cons (ps_if (PW.pt (pw_or (pt_cmpR op_eq (pv 2) pe_int (nomark _)) (pw_or1 (pt_cmpR op_lt (pv 5) pe_int (nomark _))))) (pss_one (ps_ret (pe_ifExp (PW.pt (pw_and (pt_cmpR (op_neD hu64) (pv 3) (pe_lst pa_nil) (nomark _)) (pw_and1 (pt_cmpR op_gt (pe_op op_mod (pv 5) pe_int) pe_int (nomark _))))) (pe_tup (pa_cons pe_str (pa_cons (pe_fn (G_law_pick) hr4 (pa_cons (pv 0) (pa_cons (pv 3) pa_nil))) pa_nil))) (pe_tup (pa_cons pe_str (pa_cons (pe_fn (G_law_next) hr3 (pa_cons (pv 0) (pa_cons pe_int pa_nil))) pa_nil)))))) (pss_nil))
      (pss_cons (ps_if (PW.pt (pw_and (pt_cmpR op_eq (pv 5) pe_int (nomark _)) (pw_and1 (pt_cmpR (op_neD hu64) (pv 6) (pe_lst pa_nil) (nomark _))))) (pss_one (ps_ret (pe_tup (pa_cons pe_str (pa_cons (pe_fn (G_law_pick) hr4 (pa_cons (pv 0) (pa_cons (pe_tup (pa_cons pe_str (pa_cons pe_str (pa_cons pe_str (pa_cons pe_str pa_nil))))) pa_nil))) (pa_cons (pe_tup (pa_cons pe_str (pa_cons (pe_fn (G_law_pick) hr4 (pa_cons (pv 0) (pa_cons (pv 6) pa_nil))) pa_nil))) (pa_cons (pe_tup (pa_cons pe_str (pa_cons (pe_fn (G_law_pick) hr4 (pa_cons (pv 0) (pa_cons (pe_tup (pa_cons pe_str (pa_cons pe_str (pa_cons pe_str (pa_cons pe_str pa_nil))))) pa_nil))) pa_nil))) pa_nil))))))) (pss_nil))
      (pss_cons (ps_if (PW.pt (pw_and (pt_cmpR op_eq (pv 5) pe_int (nomark _)) (pw_and1 (pt_cmpR (op_neD hu64) (pv 6) (pe_lst pa_nil) (nomark _))))) (pss_one (ps_ret (pe_tup (pa_cons pe_str (pa_cons (pe_tup (pa_cons pe_str (pa_cons (pe_fn (G_law_pick) hr4 (pa_cons (pv 0) (pa_cons (pv 6) pa_nil))) pa_nil))) pa_nil))))) (pss_nil))
      (pss_cons (ps_set (i := 7) nd rfl (.inl rfl) (pe_fn (G_law_int) hr (pa_cons (pv 0) (pa_cons (pv 1) (pa_cons (pe_op op_sub (pv 2) pe_int) pa_nil)))))
      (pss_cons (ps_if (pt_cmpR op_eq (pv 5) pe_int (nomark _)) (pss_one (ps_ret (pe_tup (pa_cons (pe_fn (G_law_pick) hr4 (pa_cons (pv 0) (pa_cons (pe_tup (pa_cons pe_str (pa_cons pe_str pa_nil))) pa_nil))) (pa_cons (pv 7) pa_nil))))) (pss_nil))
      (pss_one (ps_ret (pe_tup (pa_cons pe_str (pa_cons (pe_fn (G_law_pick) hr4 (pa_cons (pv 0) (pa_cons (pe_tup (pa_cons pe_str (pa_cons pe_str (pa_cons pe_str (pa_cons pe_str (pa_cons pe_str (pa_cons pe_str (pa_cons pe_str (pa_cons pe_str (pa_cons pe_str (pa_cons pe_str (pa_cons pe_str (pa_cons pe_str (pa_cons pe_str pa_nil)))))))))))))) pa_nil))) (pa_cons (pv 7) (pa_cons (pe_fn (G_law_int) hr (pa_cons (pv 0) (pa_cons (pv 1) (pa_cons (pe_op op_sub (pv 2) pe_int) pa_nil)))) pa_nil)))))))))))))), ?_⟩
  have small : ∀ {acc : List V}, acc.length ≤ 2 → acc.length < sizeLine := fun h => Nat.lt_of_le_of_lt h (by decide)
  -- ints
  have cl3 : cl.length < sizeLine := Nat.lt_of_le_of_lt C.few (by decide)
  refine ⟨_, rfl, cols, rfl, ⟨_, SqL.of C.all⟩, fun D1 hD1 => lc_list (xs := cl.map fun c => .ref c.1) (fun i H' => Same H H' ∧ H' D1 = some (.lst ((strsOf true (cl.take i)).map V.str))) ⟨same_upd hD1, upd_same⟩ (fun i H' _ h => SqL.of (h.1 _ _ C.all)) ?_ ?_⟩
  · rintro i x H' hx ⟨sm, e⟩
    have nD : ∀ {o}, Same H (upd H' D1 o) := fun b o' e' => by
      rw [upd_ne (ne_of_none e' hD1)]
      exact sm _ _ e'
    rw [List.getElem?_map] at hx
    obtain ⟨⟨a, x, k⟩, hc, rfl⟩ := Option.map_eq_some_iff.mp hx
    have ca := sm _ _ (C.each _ (List.mem_of_getElem? hc))
    have le : ((strsOf true (cl.take i)).map V.str).length < sizeLine := by
      rw [List.length_map]
      have h1 := strs_le true (cl.take i)
      have h2 := List.length_take_le i cl
      have h3 : (cl.take i).length ≤ cl.length := by rw [List.length_take]; omega
      omega
    cases k with
    | true =>
      refine ⟨a, _, rfl, SqT.of ca, rfl, _, _, rfl, _, _, rfl, rfl, rfl, _, rfl, rfl, _, rfl, iteT ?_⟩
      refine ⟨_, rfl, _, e, le, nD, ?_⟩
      rw [strs_yes hc, List.map_append]
      exact upd_same
    | false =>
      refine ⟨a, _, rfl, SqT.of ca, rfl, _, _, rfl, _, _, rfl, rfl, rfl, _, rfl, rfl, _, rfl, iteF ?_⟩
      rw [strs_no hc rfl]
      exact ⟨sm, e⟩
  rintro H1 ⟨s1, e1⟩
  have e1' : H1 D1 = some (.lst ((strsOf true cl).map V.str)) := by
    rw [List.length_map, List.take_length] at e1
    exact e1
  -- texts
  refine ⟨_, rfl, cols, rfl, ⟨_, SqL.of (s1 _ _ C.all)⟩, fun D2 hD2 => lc_list (xs := cl.map fun c => .ref c.1) (fun i H' => Same H1 H' ∧ H' D2 = some (.lst ((strsOf false (cl.take i)).map V.str))) ⟨same_upd hD2, upd_same⟩ (fun i H' _ h => SqL.of (h.1 _ _ (s1 _ _ C.all))) ?_ ?_⟩
  · rintro i x H' hx ⟨sm, e⟩
    have nD : ∀ {o}, Same H1 (upd H' D2 o) := fun b o' e' => by
      rw [upd_ne (ne_of_none e' hD2)]
      exact sm _ _ e'
    rw [List.getElem?_map] at hx
    obtain ⟨⟨a, x, k⟩, hc, rfl⟩ := Option.map_eq_some_iff.mp hx
    have ca := sm _ _ (s1 _ _ (C.each _ (List.mem_of_getElem? hc)))
    have le : ((strsOf false (cl.take i)).map V.str).length < sizeLine := by
      rw [List.length_map]
      have h1 := strs_le false (cl.take i)
      have h2 := List.length_take_le i cl
      have h3 : (cl.take i).length ≤ cl.length := by rw [List.length_take]; omega
      omega
    cases k with
    | true =>
      refine ⟨a, _, rfl, SqT.of ca, rfl, _, _, rfl, _, _, rfl, rfl, rfl, _, rfl, rfl, _, rfl, iteF ?_⟩
      rw [strs_no hc rfl]
      exact ⟨sm, e⟩
    | false =>
      refine ⟨a, _, rfl, SqT.of ca, rfl, _, _, rfl, _, _, rfl, rfl, rfl, _, rfl, rfl, _, rfl, iteT ?_⟩
      refine ⟨_, rfl, _, e, le, nD, ?_⟩
      rw [strs_yes hc, List.map_append]
      exact upd_same
  rintro H2 ⟨s2, e2⟩
  have e2' : H2 D2 = some (.lst ((strsOf false cl).map V.str)) := by
    rw [List.length_map, List.take_length] at e2
    exact e2
  have s12 := s1.trans s2
  have S2 : IntSt H H2 d s D1 D2 ((strsOf true cl).map V.str) ((strsOf false cl).map V.str) ns tl n := ⟨D.keep s12, same_but s12, s2 _ _ e1', e2', (ne_of_none D.at_d hD1).symm, (ne_of_none (s1 _ _ D.at_d) hD2).symm⟩
  have q' : ∀ (v : V) (e : Ex) (n' : Int) (H' : Hp), Kind kf e true → e.dep ≤ m + 2 → ExAt H' v e → IntSt H H' d s D1 D2 ((strsOf true cl).map V.str) ((strsOf false cl).map V.str) ns tl n' → Q v H' := fun v e n' H' h1 h2 h3 h4 => q v e n' H' h1 h2 h3 h4.b h4.dr
  have Cb : ∀ {H' n'}, IntSt H H' d s D1 D2 ((strsOf true cl).map V.str) ((strsOf false cl).map V.str) ns tl n' → ColsAt H' cols cl := fun S => C.but D S.b
  clear q s12 s2 s1
  -- kind
  refine ⟨_, rfl, d, s, ns, _, _, _, rfl, S2.dr, (by show (0 : Int) < 10; decide), fun kd H3 _ _ b3 D3 => ?_⟩
  have S3 := S2.step b3 D3
  clear S2
  have ne2 : ∀ {H' p n'}, IntSt H H' d s D1 D2 ((strsOf true cl).map V.str) ((strsOf false cl).map V.str) ns tl n' → H' p = none → p ≠ d := fun S h => (ne_of_none S.dr.at_d h).symm
  have z2 : 2 ≤ sizeLine := by decide
  have z4 : 4 ≤ sizeLine := by decide
  have tp : ∀ {H' n'}, IntSt H H' d s D1 D2 ((strsOf true cl).map V.str) ((strsOf false cl).map V.str) ns tl n' → ∀ {H''}, But d H' H'' → ∀ (a : Addr) (xs : List V), H' a = some (.tup xs) → H'' a = some (.tup xs) := fun {_ _} S {_} b => b.tup S.dr.at_d
  have st1 := C.shaped true
  have st2 := C.shaped false
  have sh0 : SeqAt.shaped (.list []) = true := by decide +kernel
  refine ⟨_, rfl, rfl, _, rfl, ite2 (fun c => iteT ?_) (fun c => ⟨_, rfl, _, _, rfl, rfl, _, rfl, ite2 (fun cc => ?_) (fun cc => ?_)⟩)⟩
  rotate_left 2
  · -- deeper
    have hd1 : deep ≠ 0 := fun e => c (decide_eq_true (by rw [e]))
    refine ⟨_, rfl, rfl, _, rfl, ite2 (fun c => ?_) (fun c => iteF ?_)⟩
    · -- two texts
      refine ⟨_, rfl, Nat.zero_le _, fun p hp => ?_⟩
      have S4 := S3.new (o := .lst []) hp
      refine ⟨.list ((strsOf false cl).map PyData.str), .list [], .lst (SqL.of S4.i2) (dpa_strs _), .lst (SqL.of upd_same) .nil, st2, sh0, _, rfl, ite2 (fun ce => ?_) (fun ce => ?_)⟩
      rotate_left
      · have S3 := S4
        refine ⟨_, rfl, rfl, _, rfl, ite2 (fun c4 => ?_) (fun c4 => iteF ?_)⟩
        · have x1 := of_decide_eq_true c
          have x2 := of_decide_eq_true c4
          rw [x1] at x2
          cases x2
        refine ⟨_, rfl, _, rfl, _, rfl, _, _, rfl, rfl, d, s, cols, cl, kf, ns, _, _, deep - 1, rfl, S3.dr, Cb S3, hk, by omega, by omega, fun v1 e1 n1 H4 k1 dp1 x1 b4 D4 => ?_⟩
        have S4 := S3.step b4 D4
        refine ⟨_, rfl, rfl, _, rfl, ite2 (fun c => ?_) (fun c => ?_)⟩
        · refine ⟨_, rfl, z2, fun p1 hp1 => ?_⟩
          have S5 := S4.new (o := .tup [.str "not", .str "minus"]) hp1
          refine ⟨d, s, p1, ns, _, _, [.str "not", .str "minus"], rfl, S5.dr, ne2 S4 hp1, .inr (SqT.of upd_same), (by intro z; cases z), fun v2 H6 hv2 b6 D6 => ⟨_, rfl, z2, fun t5 ht5 => ?_⟩⟩
          have S6 := S5.step b6 D6
          have S7 := S6.new (o := .tup [v2, v1]) ht5
          have x2 : ExAt (upd H6 t5 (.tup [v2, v1])) v1 e1 := ((x1.keep fun a xs e => same_upd hp1 _ _ e).keep (tp S5 b6)).keep fun a xs e => same_upd ht5 _ _ e
          obtain ⟨op, hop, rfl⟩ := mem_strs (l := ["not", "minus"]) hv2
          simp only [List.mem_cons, List.not_mem_nil, or_false] at hop
          rcases hop with rfl | rfl
          · exact q' (.ref t5) (.nt e1) _ _ (.nt k1) (by show e1.dep + 1 ≤ m + 2; omega) ⟨t5, _, rfl, upd_same, x2⟩ S7
          · exact q' (.ref t5) (.mn e1) _ _ (.mn k1) (by show e1.dep + 1 ≤ m + 2; omega) ⟨t5, _, rfl, upd_same, x2⟩ S7
        · refine ⟨_, rfl, (by show 13 ≤ sizeLine; decide), fun p1 hp1 => ?_⟩
          have S5 := S4.new (o := .tup (ops13.map V.str)) hp1
          refine ⟨d, s, p1, ns, _, _, ops13.map V.str, rfl, S5.dr, ne2 S4 hp1, .inr (SqT.of upd_same), (by intro z; cases z), fun v2 H6 hv2 b6 D6 => ?_⟩
          have S6 := S5.step b6 D6
          refine ⟨_, rfl, _, rfl, _, rfl, _, rfl, _, _, rfl, rfl, d, s, cols, cl, kf, ns, _, _, deep - 1, rfl, S6.dr, Cb S6, hk, by omega, by omega, fun v3 e3 n3 H7 k3 dp3 x3 b7 D7 => ⟨z4, fun t5 ht5 => ?_⟩⟩
          have S7 := S6.step b7 D7
          have S8 := S7.new (o := .tup [.str "two", v2, v1, v3]) ht5
          have x2 : ExAt (upd H7 t5 (.tup [.str "two", v2, v1, v3])) v1 e1 := (((x1.keep fun a xs e => same_upd hp1 _ _ e).keep (tp S5 b6)).keep (tp S6 b7)).keep fun a xs e => same_upd ht5 _ _ e
          have x4 : ExAt (upd H7 t5 (.tup [.str "two", v2, v1, v3])) v3 e3 := x3.keep fun a xs e => same_upd ht5 _ _ e
          obtain ⟨op, hop, rfl⟩ := mem_strs hv2
          exact q' (.ref t5) (.two op e1 e3) _ _ (.arith (ops13_in op hop) k1 k3) (by show max e1.dep e3.dep + 1 ≤ m + 2; omega) ⟨t5, _, _, rfl, upd_same, x2, x4⟩ S8
      refine ⟨_, rfl, z4, fun p1 hp1 => ?_⟩
      have S5 := S4.new (o := .tup [.str "=", .str "!=", .str "<", .str ">="]) hp1
      refine ⟨d, s, p1, ns, _, _, [.str "=", .str "!=", .str "<", .str ">="], rfl, S5.dr, ne2 S4 hp1, .inr (SqT.of upd_same), (by intro z; cases z), fun v1 H6 hv1 b6 D6 => ?_⟩
      have S6 := S5.step b6 D6
      refine ⟨_, rfl, _, rfl, d, s, D2, ns, _, _, (strsOf false cl).map V.str, rfl, S6.dr, S6.n2, .inl (SqL.of S6.i2), strs_ne ce, fun v2 H7 hv2 b7 D7 => ⟨z2, fun t2 ht2 => ?_⟩⟩
      have S7 := S6.step b7 D7
      have S8 := S7.new (o := .tup [.str "column", v2]) ht2
      refine ⟨_, rfl, z4, fun p3 hp3 => ?_⟩
      have S9 := S8.new (o := .tup [.str "a", .str "b", .str "bb", .str ""]) hp3
      refine ⟨d, s, p3, ns, _, _, [.str "a", .str "b", .str "bb", .str ""], rfl, S9.dr, ne2 S8 hp3, .inr (SqT.of upd_same), (by intro z; cases z), fun v3 H10 hv3 b10 D10 => ⟨z2, fun t4 ht4 => ⟨z4, fun t5 ht5 => ?_⟩⟩⟩
      have S10 := S9.step b10 D10
      have S11 := S10.new (o := .tup [.str "quoted", v3]) ht4
      have S12 := S11.new (o := .tup [.str "two", v1, .ref t2, .ref t4]) ht5
      obtain ⟨op, hop, rfl⟩ := mem_strs (l := ["=", "!=", "<", ">="]) hv1
      obtain ⟨x, rfl, kt⟩ := mem_strsOf hk hv2
      obtain ⟨z, hz, rfl⟩ := mem_strs (l := ["a", "b", "bb", ""]) hv3
      have hz2 : z ∈ (["a", "b", "bb", ""] : List Str) := hz
      have a1 : (upd (upd H10 t4 (.tup [.str "quoted", .str z])) t5 (.tup [.str "two", .str op, .ref t2, .ref t4])) t2 = some (.tup [.str "column", .str x]) := by
        have e0 := b10.tup S9.dr.at_d t2 [.str "column", .str x] (by rw [upd_ne (ne_of_none upd_same hp3)]; exact upd_same)
        exact same_upd ht5 _ _ (same_upd ht4 _ _ e0)
      refine q' (.ref t5) (.two op (.col x) (.quo z)) _ _ (.text hop (.col kt) (.quo hz2)) (by show 2 ≤ m + 2; omega) ?_ S12
      exact ⟨t5, _, _, rfl, upd_same, ⟨t2, rfl, a1⟩, ⟨t4, rfl, same_upd ht5 _ _ upd_same⟩⟩
    refine ⟨_, rfl, rfl, _, rfl, ite2 (fun c => ?_) (fun c => iteF ?_)⟩
    · -- a length
      refine ⟨_, rfl, Nat.zero_le _, fun p hp => ?_⟩
      have S4 := S3.new (o := .lst []) hp
      refine ⟨.list ((strsOf false cl).map PyData.str), .list [], .lst (SqL.of S4.i2) (dpa_strs _), .lst (SqL.of upd_same) .nil, st2, sh0, _, rfl, ite2 (fun ce => ?_) (fun ce => ?_)⟩
      rotate_left
      · have S3 := S4
        refine ⟨_, rfl, _, rfl, _, rfl, _, _, rfl, rfl, d, s, cols, cl, kf, ns, _, _, deep - 1, rfl, S3.dr, Cb S3, hk, by omega, by omega, fun v1 e1 n1 H4 k1 dp1 x1 b4 D4 => ?_⟩
        have S4 := S3.step b4 D4
        refine ⟨_, rfl, rfl, _, rfl, ite2 (fun c => ?_) (fun c => ?_)⟩
        · refine ⟨_, rfl, z2, fun p1 hp1 => ?_⟩
          have S5 := S4.new (o := .tup [.str "not", .str "minus"]) hp1
          refine ⟨d, s, p1, ns, _, _, [.str "not", .str "minus"], rfl, S5.dr, ne2 S4 hp1, .inr (SqT.of upd_same), (by intro z; cases z), fun v2 H6 hv2 b6 D6 => ⟨_, rfl, z2, fun t5 ht5 => ?_⟩⟩
          have S6 := S5.step b6 D6
          have S7 := S6.new (o := .tup [v2, v1]) ht5
          have x2 : ExAt (upd H6 t5 (.tup [v2, v1])) v1 e1 := ((x1.keep fun a xs e => same_upd hp1 _ _ e).keep (tp S5 b6)).keep fun a xs e => same_upd ht5 _ _ e
          obtain ⟨op, hop, rfl⟩ := mem_strs (l := ["not", "minus"]) hv2
          simp only [List.mem_cons, List.not_mem_nil, or_false] at hop
          rcases hop with rfl | rfl
          · exact q' (.ref t5) (.nt e1) _ _ (.nt k1) (by show e1.dep + 1 ≤ m + 2; omega) ⟨t5, _, rfl, upd_same, x2⟩ S7
          · exact q' (.ref t5) (.mn e1) _ _ (.mn k1) (by show e1.dep + 1 ≤ m + 2; omega) ⟨t5, _, rfl, upd_same, x2⟩ S7
        · refine ⟨_, rfl, (by show 13 ≤ sizeLine; decide), fun p1 hp1 => ?_⟩
          have S5 := S4.new (o := .tup (ops13.map V.str)) hp1
          refine ⟨d, s, p1, ns, _, _, ops13.map V.str, rfl, S5.dr, ne2 S4 hp1, .inr (SqT.of upd_same), (by intro z; cases z), fun v2 H6 hv2 b6 D6 => ?_⟩
          have S6 := S5.step b6 D6
          refine ⟨_, rfl, _, rfl, _, rfl, _, rfl, _, _, rfl, rfl, d, s, cols, cl, kf, ns, _, _, deep - 1, rfl, S6.dr, Cb S6, hk, by omega, by omega, fun v3 e3 n3 H7 k3 dp3 x3 b7 D7 => ⟨z4, fun t5 ht5 => ?_⟩⟩
          have S7 := S6.step b7 D7
          have S8 := S7.new (o := .tup [.str "two", v2, v1, v3]) ht5
          have x2 : ExAt (upd H7 t5 (.tup [.str "two", v2, v1, v3])) v1 e1 := (((x1.keep fun a xs e => same_upd hp1 _ _ e).keep (tp S5 b6)).keep (tp S6 b7)).keep fun a xs e => same_upd ht5 _ _ e
          have x4 : ExAt (upd H7 t5 (.tup [.str "two", v2, v1, v3])) v3 e3 := x3.keep fun a xs e => same_upd ht5 _ _ e
          obtain ⟨op, hop, rfl⟩ := mem_strs hv2
          exact q' (.ref t5) (.two op e1 e3) _ _ (.arith (ops13_in op hop) k1 k3) (by show max e1.dep e3.dep + 1 ≤ m + 2; omega) ⟨t5, _, _, rfl, upd_same, x2, x4⟩ S8
      refine ⟨_, rfl, _, rfl, d, s, D2, ns, _, _, (strsOf false cl).map V.str, rfl, S4.dr, S4.n2, .inl (SqL.of S4.i2), strs_ne ce, fun v2 H7 hv2 b7 D7 => ⟨z2, fun t2 ht2 => ⟨z2, fun t5 ht5 => ?_⟩⟩⟩
      have S7 := S4.step b7 D7
      have S8 := S7.new (o := .tup [.str "column", v2]) ht2
      have S9 := S8.new (o := .tup [.str "length", .ref t2]) ht5
      obtain ⟨x, rfl, kt⟩ := mem_strsOf hk hv2
      refine q' (.ref t5) (.ln (.col x)) _ _ (.ln (.col kt)) (by show 2 ≤ m + 2; omega) ?_ S9
      exact ⟨t5, _, rfl, upd_same, ⟨t2, rfl, same_upd ht5 _ _ upd_same⟩⟩
    -- one
    refine ⟨_, rfl, _, rfl, _, rfl, _, _, rfl, rfl, d, s, cols, cl, kf, ns, _, _, deep - 1, rfl, S3.dr, Cb S3, hk, by omega, by omega, fun v1 e1 n1 H4 k1 dp1 x1 b4 D4 => ?_⟩
    have S4 := S3.step b4 D4
    refine ⟨_, rfl, rfl, _, rfl, ite2 (fun c => ?_) (fun c => ?_)⟩
    · refine ⟨_, rfl, z2, fun p1 hp1 => ?_⟩
      have S5 := S4.new (o := .tup [.str "not", .str "minus"]) hp1
      refine ⟨d, s, p1, ns, _, _, [.str "not", .str "minus"], rfl, S5.dr, ne2 S4 hp1, .inr (SqT.of upd_same), (by intro z; cases z), fun v2 H6 hv2 b6 D6 => ⟨_, rfl, z2, fun t5 ht5 => ?_⟩⟩
      have S6 := S5.step b6 D6
      have S7 := S6.new (o := .tup [v2, v1]) ht5
      have x2 : ExAt (upd H6 t5 (.tup [v2, v1])) v1 e1 := ((x1.keep fun a xs e => same_upd hp1 _ _ e).keep (tp S5 b6)).keep fun a xs e => same_upd ht5 _ _ e
      obtain ⟨op, hop, rfl⟩ := mem_strs (l := ["not", "minus"]) hv2
      simp only [List.mem_cons, List.not_mem_nil, or_false] at hop
      rcases hop with rfl | rfl
      · exact q' (.ref t5) (.nt e1) _ _ (.nt k1) (by show e1.dep + 1 ≤ m + 2; omega) ⟨t5, _, rfl, upd_same, x2⟩ S7
      · exact q' (.ref t5) (.mn e1) _ _ (.mn k1) (by show e1.dep + 1 ≤ m + 2; omega) ⟨t5, _, rfl, upd_same, x2⟩ S7
    · refine ⟨_, rfl, (by show 13 ≤ sizeLine; decide), fun p1 hp1 => ?_⟩
      have S5 := S4.new (o := .tup (ops13.map V.str)) hp1
      refine ⟨d, s, p1, ns, _, _, ops13.map V.str, rfl, S5.dr, ne2 S4 hp1, .inr (SqT.of upd_same), (by intro z; cases z), fun v2 H6 hv2 b6 D6 => ?_⟩
      have S6 := S5.step b6 D6
      refine ⟨_, rfl, _, rfl, _, rfl, _, rfl, _, _, rfl, rfl, d, s, cols, cl, kf, ns, _, _, deep - 1, rfl, S6.dr, Cb S6, hk, by omega, by omega, fun v3 e3 n3 H7 k3 dp3 x3 b7 D7 => ⟨z4, fun t5 ht5 => ?_⟩⟩
      have S7 := S6.step b7 D7
      have S8 := S7.new (o := .tup [.str "two", v2, v1, v3]) ht5
      have x2 : ExAt (upd H7 t5 (.tup [.str "two", v2, v1, v3])) v1 e1 := (((x1.keep fun a xs e => same_upd hp1 _ _ e).keep (tp S5 b6)).keep (tp S6 b7)).keep fun a xs e => same_upd ht5 _ _ e
      have x4 : ExAt (upd H7 t5 (.tup [.str "two", v2, v1, v3])) v3 e3 := x3.keep fun a xs e => same_upd ht5 _ _ e
      obtain ⟨op, hop, rfl⟩ := mem_strs hv2
      exact q' (.ref t5) (.two op e1 e3) _ _ (.arith (ops13_in op hop) k1 k3) (by show max e1.dep e3.dep + 1 ≤ m + 2; omega) ⟨t5, _, _, rfl, upd_same, x2, x4⟩ S8
  -- a column, a number
  all_goals
    refine ⟨_, rfl, Nat.zero_le _, fun p hp => ?_⟩
    have S4 := S3.new (o := .lst []) hp
    refine ⟨.list ((strsOf true cl).map PyData.str), .list [], .lst (SqL.of S4.i1) (dpa_strs _), .lst (SqL.of upd_same) .nil, st1, sh0, _, rfl, ite2 (fun ce => ?_) (fun ce => ?_)⟩
    rotate_left
    · refine ⟨_, rfl, d, s, ns, _, _, _, rfl, S4.dr, (by show (0 : Int) < 6; decide), fun r H7 r0 r1 b7 D7 => ⟨z2, fun t2 ht2 => ?_⟩⟩
      have S7 := S4.step b7 D7
      have S8 := S7.new (o := .tup [.str "number", .int r]) ht2
      exact q' (.ref t2) (.num r) _ _ (.num (by omega)) (by show 1 ≤ m + 2; omega) ⟨t2, rfl, upd_same⟩ S8
    refine ⟨_, rfl, _, _, rfl, rfl, (by show (0 : Int) < 4; decide), _, _, rfl, rfl, _, rfl, ite2 (fun c3 => ?_) (fun c3 => ?_)⟩
    · refine ⟨_, rfl, _, rfl, d, s, D1, ns, _, _, (strsOf true cl).map V.str, rfl, S4.dr, S4.n1, .inl (SqL.of S4.i1), strs_ne ce, fun v2 H7 hv2 b7 D7 => ⟨z2, fun t2 ht2 => ?_⟩⟩
      have S7 := S4.step b7 D7
      have S8 := S7.new (o := .tup [.str "column", v2]) ht2
      obtain ⟨x, rfl, kx⟩ := mem_strsOf hk hv2
      exact q' (.ref t2) (.col x) _ _ (.col kx) (by show 1 ≤ m + 2; omega) ⟨t2, rfl, upd_same⟩ S8
    · refine ⟨_, rfl, d, s, ns, _, _, _, rfl, S4.dr, (by show (0 : Int) < 6; decide), fun r H7 r0 r1 b7 D7 => ⟨z2, fun t2 ht2 => ?_⟩⟩
      have S7 := S4.step b7 D7
      have S8 := S7.new (o := .tup [.str "number", .int r]) ht2
      exact q' (.ref t2) (.num r) _ _ (.num (by omega)) (by show 1 ≤ m + 2; omega) ⟨t2, rfl, upd_same⟩ S8
end
end Kx

namespace Kx
open PySem PySem.Spec PyProof.Rows L2
abbrev s_law_map : Stmt := topS 66
section
variable {P : Program} {w : World} {K : PySem.W.Frag} {mg : Str → Option Value} {base : Heap}
/-! ### _law_map -/
/-- a column that a map makes: where its detail stands, where its pair stands, what it tells, its kind, its name -/
structure MCol where
  det : Addr
  col : Addr
  told : V
  ex : Ex
  kind : Bool
  name : Str
def lates : List Str := ["k", "v", "w", "x", "k0", "v0", "w0", "x0", "k1", "v1", "w1", "x1", "k2", "v2", "w2", "x2"]
theorem lates_ok : ∀ z ∈ lates, PyData.canLay0 (.str z) = true := by decide +kernel
theorem late_in : ∀ a ∈ (["k", "v", "w", "x"] : List Str), ∀ b ∈ (["", "0", "1", "2"] : List Str), a ++ b ∈ lates := by decide +kernel
theorem late_len : ∀ a ∈ (["k", "v", "w", "x"] : List Str), ∀ b ∈ (["", "0", "1", "2"] : List Str), a.length + b.length ≤ sizeLine := by decide +kernel
structure MColAt (H : Hp) (kf : Str → Option Bool) (m : MCol) : Prop where
  at_det : H m.det = some (.tup [m.told, .str m.name])
  at_col : H m.col = some (.tup [.str m.name, .str (kW m.kind)])
  ex : ExAt H m.told m.ex
  kd : Kind kf m.ex m.kind
  dep : m.ex.dep ≤ 4
  nm : m.name ∈ lates
theorem MColAt.keep {H H' : Hp} {kf : Str → Option Bool} {m : MCol} (M : MColAt H kf m) (h : ∀ (a : Addr) (xs : List V), H a = some (.tup xs) → H' a = some (.tup xs)) : MColAt H' kf m :=
  ⟨h _ _ M.at_det, h _ _ M.at_col, M.ex.keep h, M.kd, M.dep, M.nm⟩
structure MapSt (H0 H : Hp) (kf : Str → Option Bool) (d s p1 p2 : Addr) (ns : List Int) (tl : List V) (ms : List MCol) : Prop where
  dr : ∃ n, DrawAt H d s ns tl n
  b : But d H0 H
  f1 : H0 p1 = none
  f2 : H0 p2 = none
  fs : ∃ o, H0 s = some o
  ne : p1 ≠ p2
  n1 : p1 ≠ d
  n2 : p2 ≠ d
  e1 : H p1 = some (.lst (ms.map fun m => .ref m.det))
  e2 : H p2 = some (.lst (ms.map fun m => .ref m.col))
  each : ∀ m ∈ ms, MColAt H kf m
  nod : (ms.map MCol.name).Nodup
theorem MapSt.step {H0 H H' : Hp} {kf : Str → Option Bool} {d s p1 p2 : Addr} {ns : List Int} {tl : List V} {ms : List MCol} {n : Int} (S : MapSt H0 H kf d s p1 p2 ns tl ms) (b : But d H H') (D : DrawAt H' d s ns tl n) : MapSt H0 H' kf d s p1 p2 ns tl ms := by
  obtain ⟨n0, D0⟩ := S.dr
  exact ⟨⟨n, D⟩, S.b.trans b, S.f1, S.f2, S.fs, S.ne, S.n1, S.n2, b _ _ S.n1 S.e1, b _ _ S.n2 S.e2, fun m hm => (S.each m hm).keep (b.tup D0.at_d), S.nod⟩
theorem MapSt.new {H0 H : Hp} {kf : Str → Option Bool} {d s p1 p2 p : Addr} {ns : List Int} {tl : List V} {ms : List MCol} {o : HO} (S : MapSt H0 H kf d s p1 p2 ns tl ms) (h : H p = none) : MapSt H0 (upd H p o) kf d s p1 p2 ns tl ms := by
  obtain ⟨n0, D0⟩ := S.dr
  exact S.step (same_but (same_upd h)) (D0.keep (same_upd h))
theorem MapSt.add {H0 H : Hp} {kf : Str → Option Bool} {d s p1 p2 : Addr} {ns : List Int} {tl : List V} {ms : List MCol} (S : MapSt H0 H kf d s p1 p2 ns tl ms) {m : MCol} (M : MColAt H kf m) (hn : m.name ∉ ms.map MCol.name) :
    MapSt H0 (upd (upd H p1 (.lst ((ms.map fun m => .ref m.det) ++ [.ref m.det]))) p2 (.lst ((ms.map fun m => .ref m.col) ++ [.ref m.col]))) kf d s p1 p2 ns tl (ms ++ [m]) := by
  obtain ⟨n0, D0⟩ := S.dr
  have kp : ∀ {a : Addr} {o : HO}, a ≠ p1 → a ≠ p2 → H a = some o → upd (upd H p1 (.lst ((ms.map fun m => .ref m.det) ++ [.ref m.det]))) p2 (.lst ((ms.map fun m => .ref m.col) ++ [.ref m.col])) a = some o := fun h1 h2 e => by
    rw [upd_ne h2, upd_ne h1]
    exact e
  have kt : ∀ (a : Addr) (xs : List V), H a = some (.tup xs) → upd (upd H p1 (.lst ((ms.map fun m => .ref m.det) ++ [.ref m.det]))) p2 (.lst ((ms.map fun m => .ref m.col) ++ [.ref m.col])) a = some (.tup xs) := fun a xs e =>
    kp (fun q => by rw [q, S.e1] at e; cases e) (fun q => by rw [q, S.e2] at e; cases e) e
  obtain ⟨os, es⟩ := S.fs
  have ks1 : s ≠ p1 := ne_of_none es S.f1
  have ks2 : s ≠ p2 := ne_of_none es S.f2
  have eP1 : upd (upd H p1 (.lst ((ms.map fun m => .ref m.det) ++ [.ref m.det]))) p2 (.lst ((ms.map fun m => .ref m.col) ++ [.ref m.col])) p1 = some (.lst ((ms.map fun m => .ref m.det) ++ [.ref m.det])) := by
    rw [upd_ne S.ne]
    exact upd_same
  refine ⟨⟨n0, kp S.n1.symm S.n2.symm D0.at_d, kp ks1 ks2 D0.at_s, D0.n0⟩, fun c o hc e => kp (ne_of_none e S.f1) (ne_of_none e S.f2) (S.b c o hc e), S.f1, S.f2, S.fs, S.ne, S.n1, S.n2, ?_, ?_, fun x hx => ?_, ?_⟩
  · rw [List.map_append]
    exact eP1
  · rw [List.map_append]
    exact upd_same
  · rcases List.mem_append.mp hx with hx | hx
    · exact (S.each x hx).keep kt
    · rw [List.mem_singleton.mp hx]
      exact M.keep kt
  · rw [List.map_append]
    exact List.nodup_append.mpr ⟨S.nod, by simp, fun a ha b hb e => hn (by
      have : b = m.name := List.mem_singleton.mp hb
      rw [← this, ← e]
      exact ha)⟩
theorem inV_str (z : Str) : ∀ l : List Str, inV (.str z) (l.map V.str) = decide (z ∈ l)
  | [] => rfl
  | x :: r => by
    have ih := inV_str z r
    show (x == z || inV (.str z) (r.map V.str)) = _
    rw [ih]
    by_cases h : x = z
    · subst h
      simp
    · have h' : ¬ z = x := fun e => h e.symm
      simp [h, h']
theorem upd_comm {H : Hp} {a b : Addr} {x y : HO} (h : a ≠ b) : upd (upd H a x) b y = upd (upd H b y) a x := by
  funext c
  by_cases h1 : c = b
  · rw [h1, upd_same, upd_ne h.symm, upd_same]
  · by_cases h2 : c = a
    · rw [h2, upd_ne h, upd_same, upd_same]
    · rw [upd_ne h1, upd_ne h2, upd_ne h2, upd_ne h1]
theorem str_num {i : Nat} (h : i < 3) : Str.ofString (toString ((0 : Int) + (i : Nat))) ∈ (["", "0", "1", "2"] : List Str) := by
  match i, h with
  | 0, _ => decide +kernel
  | 1, _ => decide +kernel
  | 2, _ => decide +kernel
theorem log_num {i : Nat} (h : i < 3) : ((0 : Int) + (i : Nat)).natAbs.log2 < 1920 := by
  match i, h with
  | 0, _ => decide +kernel
  | 1, _ => decide +kernel
  | 2, _ => decide +kernel
theorem notin_strs {z : Str} {l : List Str} {A B : Prop} (h1 : z ∉ l → A) (h2 : z ∈ l → B) : if (if true = true then !inV (.str z) (l.map V.str) else inV (.str z) (l.map V.str)) = true then A else B := by
  rw [if_pos rfl, inV_str]
  by_cases h : z ∈ l
  · rw [decide_eq_true h]
    exact iteF (h2 h)
  · rw [decide_eq_false h]
    exact iteT (h1 h)
theorem flat_strs : ∀ l : List Str, (l.map V.str).all flatV = true
  | [] => rfl
  | _ :: l => flat_strs l
abbrev N_law_map : List Str := ["draw", "columns", "at", "details", "found", "number", "name", "kind", "told", "late", "one", "by"]
def spMap : Sp := fun vs H Q _ => ∃ (d s cols : Addr) (at' : V) (cl : List Col) (kf : Str → Option Bool) (ns : List Int) (tl : List V) (n : Int), vs = [.ref d, .ref cols, at'] ∧ DrawAt H d s ns tl n ∧ ColsAt H cols cl ∧ (∀ c ∈ cl, kf c.2.1 = some c.2.2) ∧ cl ≠ [] ∧
  ∀ (r t f : Addr) (ms : List MCol) (n' : Int) (H' : Hp), H' r = some (.tup [.ref t, .ref f]) → H' t = some (.tup (ms.map fun m => .ref m.det)) → H' f = some (.lst (ms.map fun m => .ref m.col)) → (∀ m ∈ ms, MColAt H' kf m) → (ms.map MCol.name).Nodup → ms ≠ [] → ms.length ≤ 3 → But d H H' → DrawAt H' d s ns tl n' → Q (.ref r) H'
theorem sc_map : FnScope N_law_map ["draw", "columns", "at"] (defScope s_law_map) := ⟨rfl, rfl, rfl, by decide +kernel, rfl, by decide +kernel, by decide +kernel⟩
theorem ok_map {f : Addr} {fd : FuncData} (F : Fun K "_law_map" "_law_map" s_law_map f fd) (m_range : mg "range" = none) (m_str : mg "str" = none) (m_tuple : mg "tuple" = none) (G_law_next : Ready P w K mg base 3 "_law_next" ["draw", "bound"] spNext) (G_law_pick : Ready P w K mg base 4 "_law_pick" ["draw", "things"] (spPick K))
    (G_law_int : Ready P w K mg base 7 "_law_int" ["draw", "columns", "deep"] (spInt 3)) : FnOk P w K mg base CX0 8 f fd ["draw", "columns", "at"] spMap := by
  refine F.ok sc_map (fun vs H Q E h => ?_) (fun cdv A outer s0 H vs Q E hr h => ?_)
  · obtain ⟨d, s, cols, at', cl, kf, ns, tl, n, rfl, _⟩ := h
    rfl
  obtain ⟨d, s, cols, at', cl, kf, ns, tl, n, rfl, D, C, hk, hne, q⟩ := h
  have nd := sc_map.nd
  have hr4 : Room 4 _ := hr.mono (by omega)
  have hr3 : Room 3 _ := hr.mono (by omega)
  refine ⟨_, pss_cons (ps_par (i := 3) (j := 4) rfl nd rfl rfl (by decide) rfl rfl (pa_cons (pe_lst pa_nil) (pa_cons (pe_lst pa_nil) pa_nil)) rfl)
      (pss_cons (ps_for PassesOwn.never rfl (pi_range1 rfl m_range (pa_cons (pe_op op_add pe_int (pe_fn (G_law_next) hr3 (pa_cons (pv 0) (pa_cons pe_int pa_nil)))) pa_nil)) (pg_name (i := 5) nd rfl (.inl rfl)) (pss_cons (ps_if (pt_cmpR op_eq (pe_fn (G_law_next) hr3 (pa_cons (pv 0) (pa_cons pe_int pa_nil))) pe_int (nomark _)) (pss_cons (ps_asg (pe_fn (G_law_pick) hr4 (pa_cons (pv 0) (pa_cons (pv 1) pa_nil))) (pg_tup rfl (pgs_cons (pg_name (i := 6) nd rfl (.inl rfl)) (pgs_cons (pg_name (i := 7) nd rfl (.inl rfl)) pgs_nil))))
      (pss_one (ps_set (i := 8) nd rfl (.inl rfl) (pe_tup (pa_cons pe_str (pa_cons (pv 6) pa_nil)))))) (pss_one (ps_par (i := 8) (j := 7) rfl nd rfl rfl (by decide) rfl rfl (pa_cons (pe_fn (G_law_int) hr (pa_cons (pv 0) (pa_cons (pv 1) (pa_cons pe_int pa_nil)))) (pa_cons pe_str pa_nil)) rfl)))
      (pss_cons (ps_set (i := 9) nd rfl (.inl rfl) (pe_op op_add_str (pe_fn (G_law_pick) hr4 (pa_cons (pv 0) (pa_cons (pe_tup (pa_cons pe_str (pa_cons pe_str (pa_cons pe_str (pa_cons pe_str pa_nil))))) pa_nil))) (pe_ifExp (pt_cmpR op_eq (pe_fn (G_law_next) hr3 (pa_cons (pv 0) (pa_cons pe_int pa_nil))) pe_int (nomark _)) pe_str (pe_callTy call_str_int (by rfl) m_str PyProof.Rows.boot_str (pa_cons (pv 5) pa_nil)))))
      (pss_one (ps_if (pt_cmpR op_notIn_seq (pv 9) (pe_lc (own := [("one", 10), ("by", 11)]) (g := (gTup K 2 (gCons (gName 10) (gCons (gName 11) gNil)))) (tt := tYes) rfl nd (pi_list (pv 4)) (blkOk_by (N := N_law_map) (sc := defScope s_law_map) (by decide +kernel)) (fun _ _ _ _ _ => pg_tup rfl (pgs_cons (pg_name (i := 10) nd rfl (.inl rfl)) (pgs_cons (pg_name (i := 11) nd rfl (.inl rfl)) pgs_nil))) (fun _ _ _ _ _ => pts_nil) (fun _ _ _ _ _ => (pv 10))) rfl) (pss_cons (ps_expr (pe_bm PySem.F.plainAttrs_list PySem.F.slot_list_append PySem.F.type_list_append mt_append (pv 3) (pa_cons (pe_tup (pa_cons (pv 8) (pa_cons (pv 9) pa_nil))) pa_nil)))
      (pss_one (ps_expr (pe_bm PySem.F.plainAttrs_list PySem.F.slot_list_append PySem.F.type_list_append mt_append (pv 4) (pa_cons (pe_tup (pa_cons (pv 9) (pa_cons (pv 7) pa_nil))) pa_nil))))) (pss_nil))))))
      (pss_one (ps_ret (pe_tup (pa_cons (pe_callTy call_tuple_of (by rfl) m_tuple PyProof.Rows.boot_tuple (pa_cons (pv 3) pa_nil)) (pa_cons (pv 4) pa_nil)))))), ?_⟩
  refine ⟨Nat.zero_le _, fun p1 hp1 => ⟨Nat.zero_le _, fun p2 hp2 => ?_⟩⟩
  have hp2' : H p2 = none := by
    by_cases e : p2 = p1
    · rw [e, upd_same] at hp2
      cases hp2
    · rw [upd_ne e] at hp2
      exact hp2
  have S0 : MapSt H (upd (upd H p1 (.lst [])) p2 (.lst [])) kf d s p1 p2 ns tl [] := by
    have s1 := (same_upd (o := .lst []) hp1).trans (same_upd (o := .lst []) hp2)
    exact ⟨⟨n, D.keep s1⟩, same_but s1, hp1, hp2', ⟨_, D.at_s⟩, ne_of_none upd_same hp2, (ne_of_none D.at_d hp1).symm, (ne_of_none D.at_d hp2').symm, same_upd hp2 _ _ upd_same, upd_same, fun m hm => (List.not_mem_nil hm).elim, List.nodup_nil⟩
  obtain ⟨n0, D0⟩ := S0.dr
  refine ⟨_, _, rfl, ?_⟩
  refine ⟨_, rfl, d, s, ns, tl, _, _, rfl, D0, (by show (0 : Int) < 3; decide), fun r H1 r0 r1 b1 D1 => ?_⟩
  have S1 := S0.step b1 D1
  clear S0 D0 b1 D1 hp2
  refine ⟨_, _, rfl, rfl, _, rfl, by omega, by omega, ?_⟩
  have z2 : 2 ≤ sizeLine := by decide
  have z4 : 4 ≤ sizeLine := by decide
  have cne := C.ne D
  have clne : (cl.map fun c => V.ref c.1) ≠ [] := fun e => hne (List.map_eq_nil_iff.mp e)
  refine for_range (fun i σ H' => ∃ y5 y6 y7 y8 y9 y10 y11 ms, σ = [some (.ref d), some (.ref cols), some at', some (.ref p1), some (.ref p2), y5, y6, y7, y8, y9, y10, y11] ∧ MapSt H H' kf d s p1 p2 ns tl ms ∧ ms.length ≤ i ∧ (0 < i → ms ≠ [])) ⟨none, none, none, none, none, none, none, [], rfl, S1, Nat.le_refl _, fun h => absurd h (Nat.lt_irrefl _)⟩ ?_ ?_
  · rintro i σ H2 hi ⟨y5, y6, y7, y8, y9, y10, y11, ms, rfl, S2, hl, hz⟩
    obtain ⟨n2, D2⟩ := S2.dr
    refine ⟨_, rfl, d, s, ns, tl, _, _, rfl, D2, (by show (0 : Int) < 2; decide), fun r2 H3 _ _ b3 D3 => ?_⟩
    have S3 := S2.step b3 D3
    clear S2 D2 b3
    refine ⟨rfl, _, rfl, ite2 (fun c => ?_) (fun c => ?_)⟩
    · have C3 := C.but D S3.b
      refine ⟨_, rfl, _, rfl, d, s, cols, ns, tl, _, _, rfl, D3, cne, .inl (SqL.of C3.all), clne, fun v H4 hv b4 D4 => ?_⟩
      have S4 := S3.step b4 D4
      obtain ⟨⟨a, x, kb⟩, hc, rfl⟩ := List.mem_map.mp hv
      have C4 := C.but D S4.b
      refine ⟨a, _, rfl, SqT.of (C4.each _ hc), rfl, _, _, rfl, _, _, rfl, rfl, ?_⟩
      refine ⟨_, rfl, z2, fun t ht => ?_⟩
      have S5 := S4.new (o := .tup [.str "column", .str x]) ht
      obtain ⟨e, xe, ke, de⟩ : ∃ e, ExAt (upd H4 t (.tup [.str "column", .str x])) (.ref t) e ∧ Kind kf e kb ∧ e.dep ≤ 4 := ⟨.col x, ⟨t, rfl, upd_same⟩, .col (hk _ hc), by show 1 ≤ 4; omega⟩
      obtain ⟨kw, hw⟩ : ∃ kw, kw = kW kb := ⟨_, rfl⟩
      rw [← hw]
      obtain ⟨n5', D5'⟩ := S5.dr
      refine ⟨_, rfl, z4, fun q1 hq1 => ?_⟩
      have S6 := S5.new (o := .tup [.str "k", .str "v", .str "w", .str "x"]) hq1
      obtain ⟨n6, D6⟩ := S6.dr
      refine ⟨d, s, q1, ns, tl, _, [.str "k", .str "v", .str "w", .str "x"], rfl, D6, (ne_of_none D5'.at_d hq1).symm, .inr (SqT.of upd_same), (by intro z; cases z), fun v1 H7 hv1 b7 D7 => ?_⟩
      have S7 := S6.step b7 D7
      refine ⟨_, rfl, d, s, ns, tl, _, _, rfl, D7, (by show (0 : Int) < 2; decide), fun r3 H8 _ _ b8 D8 => ⟨rfl, _, rfl, ?_⟩⟩
      have S8 := S7.step b8 D8
      have x8 := ((xe.keep (fun a xs e => same_upd (o := .tup [.str "k", .str "v", .str "w", .str "x"]) hq1 _ _ e)).keep (b7.tup D6.at_d)).keep (b8.tup D7.at_d)
      obtain ⟨a1, ha1, rfl⟩ := mem_strs (l := ["k", "v", "w", "x"]) hv1
      clear S3 S5 S6 S7 xe b7 b8 D5' D6 D7 D8 D3
      refine ite2 (fun c => ⟨a1, "", rfl, rfl, late_len _ ha1 _ (by decide +kernel), ?_⟩) (fun c => ⟨_, rfl, _, rfl, log_num (by omega), a1, _, rfl, rfl, late_len a1 ha1 _ (str_num (by omega)), ?_⟩)
      · have hzl := late_in a1 ha1 "" (by decide +kernel)
        generalize a1 ++ ("" : Str) = z at hzl ⊢
        obtain ⟨n8, D8⟩ := S8.dr
        refine ⟨_, rfl, _, rfl, p2, rfl, ⟨_, SqL.of S8.e2⟩, fun D1 hD1 => lc_list (xs := ms.map fun m => .ref m.col) (fun j H' => Same H8 H' ∧ H' D1 = some (.lst ((ms.take j).map fun m => V.str m.name))) ⟨same_upd hD1, upd_same⟩ (fun j H' _ h => SqL.of (h.1 _ _ S8.e2)) ?_ ?_⟩
        · rintro j x' H' hx ⟨sm, e9⟩
          have nD : ∀ {o}, Same H8 (upd H' D1 o) := fun b o' e' => by
            rw [upd_ne (ne_of_none e' hD1)]
            exact sm _ _ e'
          rw [List.getElem?_map] at hx
          obtain ⟨m, hm, rfl⟩ := Option.map_eq_some_iff.mp hx
          have M := S8.each m (List.mem_of_getElem? hm)
          refine ⟨m.col, _, rfl, SqT.of (sm _ _ M.at_col), rfl, _, _, rfl, _, _, rfl, rfl, rfl, ?_⟩
          refine ⟨_, rfl, _, e9, ?_, nD, ?_⟩
          · rw [List.length_map]
            have h1 : (ms.take j).length ≤ ms.length := by rw [List.length_take]; omega
            exact Nat.lt_of_le_of_lt (show _ ≤ 3 by omega) (by decide)
          · have h1 : ms.take (j + 1) = ms.take j ++ [m] := by
              rw [List.take_add_one, hm]
              rfl
            rw [h1, List.map_append]
            exact upd_same
        rintro H9 ⟨s9, e9⟩
        have e9' : H9 D1 = some (.lst ((ms.map MCol.name).map V.str)) := by
          rw [List.length_map, List.take_length] at e9
          rw [List.map_map]
          exact e9
        have S9 := S8.step (same_but s9) (D8.keep s9)
        have x9 := x8.keep (fun a xs e => s9 a _ e)
        clear S8 D8 s9 e9 x8
        refine ⟨D1, (ms.map MCol.name).map V.str, rfl, .inl (SqL.of e9'), rfl, flat_strs _, _, rfl, notin_strs (fun hn => ?_) (fun hn => ?_)⟩
        · have m3 : ∀ {f : MCol → V}, (ms.map f).length < sizeLine := by
            intro f
            rw [List.length_map]
            exact Nat.lt_of_le_of_lt (show _ ≤ 3 by omega) (by decide)
          refine ⟨_, rfl, .inl ⟨rfl, _, SqL.of S9.e1⟩, _, rfl, _, rfl, z2, fun t1 ht1 => ?_⟩
          have S10 := S9.new (o := .tup [.ref t, .str z]) ht1
          refine ⟨p1, _, _, rfl, rfl, S10.e1, m3, ?_⟩
          have E2 := S10.e2
          refine ⟨_, rfl, .inl ⟨rfl, _, SqL.of (by rw [upd_ne S10.ne.symm]; exact E2)⟩, _, rfl, _, rfl, z2, fun t2 ht2 => ?_⟩
          have ne2 : p1 ≠ t2 := ne_of_none upd_same ht2
          have ht2' : upd H9 t1 (.tup [.ref t, .str z]) t2 = none := by
            rw [upd_ne ne2.symm] at ht2
            exact ht2
          rw [upd_comm ne2]
          have S11 := S10.new (o := .tup [.str z, .str kw]) ht2'
          refine ⟨p2, _, _, rfl, rfl, by rw [upd_ne S11.ne.symm]; exact S11.e2, m3, ?_⟩
          have M : MColAt _ kf { det := t1, col := t2, told := .ref t, ex := e, kind := kb, name := z } := ⟨same_upd ht2' _ _ upd_same, (by rw [← hw]; exact upd_same), (x9.keep (fun a xs e => same_upd ht1 _ _ e)).keep (fun a xs e => same_upd ht2' _ _ e), ke, de, hzl⟩
          exact ⟨_, _, _, _, _, _, _, _, rfl, S11.add M hn, (by rw [List.length_append]; show ms.length + 1 ≤ i + 1; omega), fun _ h => by cases ms <;> cases h⟩
        · exact ⟨_, _, _, _, _, _, _, ms, rfl, S9, by omega, fun _ h => by rw [h] at hn; cases hn⟩
      · have hzl := late_in a1 ha1 _ (str_num (i := i) (by omega))
        generalize a1 ++ Str.ofString (toString ((0 : Int) + (i : Nat))) = z at hzl ⊢
        obtain ⟨n8, D8⟩ := S8.dr
        refine ⟨_, rfl, _, rfl, p2, rfl, ⟨_, SqL.of S8.e2⟩, fun D1 hD1 => lc_list (xs := ms.map fun m => .ref m.col) (fun j H' => Same H8 H' ∧ H' D1 = some (.lst ((ms.take j).map fun m => V.str m.name))) ⟨same_upd hD1, upd_same⟩ (fun j H' _ h => SqL.of (h.1 _ _ S8.e2)) ?_ ?_⟩
        · rintro j x' H' hx ⟨sm, e9⟩
          have nD : ∀ {o}, Same H8 (upd H' D1 o) := fun b o' e' => by
            rw [upd_ne (ne_of_none e' hD1)]
            exact sm _ _ e'
          rw [List.getElem?_map] at hx
          obtain ⟨m, hm, rfl⟩ := Option.map_eq_some_iff.mp hx
          have M := S8.each m (List.mem_of_getElem? hm)
          refine ⟨m.col, _, rfl, SqT.of (sm _ _ M.at_col), rfl, _, _, rfl, _, _, rfl, rfl, rfl, ?_⟩
          refine ⟨_, rfl, _, e9, ?_, nD, ?_⟩
          · rw [List.length_map]
            have h1 : (ms.take j).length ≤ ms.length := by rw [List.length_take]; omega
            exact Nat.lt_of_le_of_lt (show _ ≤ 3 by omega) (by decide)
          · have h1 : ms.take (j + 1) = ms.take j ++ [m] := by
              rw [List.take_add_one, hm]
              rfl
            rw [h1, List.map_append]
            exact upd_same
        rintro H9 ⟨s9, e9⟩
        have e9' : H9 D1 = some (.lst ((ms.map MCol.name).map V.str)) := by
          rw [List.length_map, List.take_length] at e9
          rw [List.map_map]
          exact e9
        have S9 := S8.step (same_but s9) (D8.keep s9)
        have x9 := x8.keep (fun a xs e => s9 a _ e)
        clear S8 D8 s9 e9 x8
        refine ⟨D1, (ms.map MCol.name).map V.str, rfl, .inl (SqL.of e9'), rfl, flat_strs _, _, rfl, notin_strs (fun hn => ?_) (fun hn => ?_)⟩
        · have m3 : ∀ {f : MCol → V}, (ms.map f).length < sizeLine := by
            intro f
            rw [List.length_map]
            exact Nat.lt_of_le_of_lt (show _ ≤ 3 by omega) (by decide)
          refine ⟨_, rfl, .inl ⟨rfl, _, SqL.of S9.e1⟩, _, rfl, _, rfl, z2, fun t1 ht1 => ?_⟩
          have S10 := S9.new (o := .tup [.ref t, .str z]) ht1
          refine ⟨p1, _, _, rfl, rfl, S10.e1, m3, ?_⟩
          have E2 := S10.e2
          refine ⟨_, rfl, .inl ⟨rfl, _, SqL.of (by rw [upd_ne S10.ne.symm]; exact E2)⟩, _, rfl, _, rfl, z2, fun t2 ht2 => ?_⟩
          have ne2 : p1 ≠ t2 := ne_of_none upd_same ht2
          have ht2' : upd H9 t1 (.tup [.ref t, .str z]) t2 = none := by
            rw [upd_ne ne2.symm] at ht2
            exact ht2
          rw [upd_comm ne2]
          have S11 := S10.new (o := .tup [.str z, .str kw]) ht2'
          refine ⟨p2, _, _, rfl, rfl, by rw [upd_ne S11.ne.symm]; exact S11.e2, m3, ?_⟩
          have M : MColAt _ kf { det := t1, col := t2, told := .ref t, ex := e, kind := kb, name := z } := ⟨same_upd ht2' _ _ upd_same, (by rw [← hw]; exact upd_same), (x9.keep (fun a xs e => same_upd ht1 _ _ e)).keep (fun a xs e => same_upd ht2' _ _ e), ke, de, hzl⟩
          exact ⟨_, _, _, _, _, _, _, _, rfl, S11.add M hn, (by rw [List.length_append]; show ms.length + 1 ≤ i + 1; omega), fun _ h => by cases ms <;> cases h⟩
        · exact ⟨_, _, _, _, _, _, _, ms, rfl, S9, by omega, fun _ h => by rw [h] at hn; cases hn⟩
    · have C3 := C.but D S3.b
      refine ⟨_, rfl, _, rfl, d, s, cols, cl, kf, ns, tl, _, 2, rfl, D3, C3, hk, by decide, rfl, fun v e n5 H5 ke de xe b5 D5 => ⟨_, _, rfl, ?_⟩⟩
      have S5 := S3.step b5 D5
      obtain ⟨kb, hkb⟩ : ∃ kb : Bool, kb = true := ⟨_, rfl⟩
      have hw : ("int" : Str) = kW kb := by
        rw [hkb]
        rfl
      have ke : Kind kf e kb := hkb ▸ ke
      obtain ⟨n5', D5'⟩ := S5.dr
      refine ⟨_, rfl, z4, fun q1 hq1 => ?_⟩
      have S6 := S5.new (o := .tup [.str "k", .str "v", .str "w", .str "x"]) hq1
      obtain ⟨n6, D6⟩ := S6.dr
      refine ⟨d, s, q1, ns, tl, _, [.str "k", .str "v", .str "w", .str "x"], rfl, D6, (ne_of_none D5'.at_d hq1).symm, .inr (SqT.of upd_same), (by intro z; cases z), fun v1 H7 hv1 b7 D7 => ?_⟩
      have S7 := S6.step b7 D7
      refine ⟨_, rfl, d, s, ns, tl, _, _, rfl, D7, (by show (0 : Int) < 2; decide), fun r3 H8 _ _ b8 D8 => ⟨rfl, _, rfl, ?_⟩⟩
      have S8 := S7.step b8 D8
      have x8 := ((xe.keep (fun a xs e => same_upd (o := .tup [.str "k", .str "v", .str "w", .str "x"]) hq1 _ _ e)).keep (b7.tup D6.at_d)).keep (b8.tup D7.at_d)
      obtain ⟨a1, ha1, rfl⟩ := mem_strs (l := ["k", "v", "w", "x"]) hv1
      clear S3 S5 S6 S7 xe b7 b8 D5' D6 D7 D8 D3
      refine ite2 (fun c => ⟨a1, "", rfl, rfl, late_len _ ha1 _ (by decide +kernel), ?_⟩) (fun c => ⟨_, rfl, _, rfl, log_num (by omega), a1, _, rfl, rfl, late_len a1 ha1 _ (str_num (by omega)), ?_⟩)
      · have hzl := late_in a1 ha1 "" (by decide +kernel)
        generalize a1 ++ ("" : Str) = z at hzl ⊢
        obtain ⟨n8, D8⟩ := S8.dr
        refine ⟨_, rfl, _, rfl, p2, rfl, ⟨_, SqL.of S8.e2⟩, fun D1 hD1 => lc_list (xs := ms.map fun m => .ref m.col) (fun j H' => Same H8 H' ∧ H' D1 = some (.lst ((ms.take j).map fun m => V.str m.name))) ⟨same_upd hD1, upd_same⟩ (fun j H' _ h => SqL.of (h.1 _ _ S8.e2)) ?_ ?_⟩
        · rintro j x' H' hx ⟨sm, e9⟩
          have nD : ∀ {o}, Same H8 (upd H' D1 o) := fun b o' e' => by
            rw [upd_ne (ne_of_none e' hD1)]
            exact sm _ _ e'
          rw [List.getElem?_map] at hx
          obtain ⟨m, hm, rfl⟩ := Option.map_eq_some_iff.mp hx
          have M := S8.each m (List.mem_of_getElem? hm)
          refine ⟨m.col, _, rfl, SqT.of (sm _ _ M.at_col), rfl, _, _, rfl, _, _, rfl, rfl, rfl, ?_⟩
          refine ⟨_, rfl, _, e9, ?_, nD, ?_⟩
          · rw [List.length_map]
            have h1 : (ms.take j).length ≤ ms.length := by rw [List.length_take]; omega
            exact Nat.lt_of_le_of_lt (show _ ≤ 3 by omega) (by decide)
          · have h1 : ms.take (j + 1) = ms.take j ++ [m] := by
              rw [List.take_add_one, hm]
              rfl
            rw [h1, List.map_append]
            exact upd_same
        rintro H9 ⟨s9, e9⟩
        have e9' : H9 D1 = some (.lst ((ms.map MCol.name).map V.str)) := by
          rw [List.length_map, List.take_length] at e9
          rw [List.map_map]
          exact e9
        have S9 := S8.step (same_but s9) (D8.keep s9)
        have x9 := x8.keep (fun a xs e => s9 a _ e)
        clear S8 D8 s9 e9 x8
        refine ⟨D1, (ms.map MCol.name).map V.str, rfl, .inl (SqL.of e9'), rfl, flat_strs _, _, rfl, notin_strs (fun hn => ?_) (fun hn => ?_)⟩
        · have m3 : ∀ {f : MCol → V}, (ms.map f).length < sizeLine := by
            intro f
            rw [List.length_map]
            exact Nat.lt_of_le_of_lt (show _ ≤ 3 by omega) (by decide)
          refine ⟨_, rfl, .inl ⟨rfl, _, SqL.of S9.e1⟩, _, rfl, _, rfl, z2, fun t1 ht1 => ?_⟩
          have S10 := S9.new (o := .tup [v, .str z]) ht1
          refine ⟨p1, _, _, rfl, rfl, S10.e1, m3, ?_⟩
          have E2 := S10.e2
          refine ⟨_, rfl, .inl ⟨rfl, _, SqL.of (by rw [upd_ne S10.ne.symm]; exact E2)⟩, _, rfl, _, rfl, z2, fun t2 ht2 => ?_⟩
          have ne2 : p1 ≠ t2 := ne_of_none upd_same ht2
          have ht2' : upd H9 t1 (.tup [v, .str z]) t2 = none := by
            rw [upd_ne ne2.symm] at ht2
            exact ht2
          rw [upd_comm ne2]
          have S11 := S10.new (o := .tup [.str z, .str "int"]) ht2'
          refine ⟨p2, _, _, rfl, rfl, by rw [upd_ne S11.ne.symm]; exact S11.e2, m3, ?_⟩
          have M : MColAt _ kf { det := t1, col := t2, told := v, ex := e, kind := kb, name := z } := ⟨same_upd ht2' _ _ upd_same, (by rw [← hw]; exact upd_same), (x9.keep (fun a xs e => same_upd ht1 _ _ e)).keep (fun a xs e => same_upd ht2' _ _ e), ke, de, hzl⟩
          exact ⟨_, _, _, _, _, _, _, _, rfl, S11.add M hn, (by rw [List.length_append]; show ms.length + 1 ≤ i + 1; omega), fun _ h => by cases ms <;> cases h⟩
        · exact ⟨_, _, _, _, _, _, _, ms, rfl, S9, by omega, fun _ h => by rw [h] at hn; cases hn⟩
      · have hzl := late_in a1 ha1 _ (str_num (i := i) (by omega))
        generalize a1 ++ Str.ofString (toString ((0 : Int) + (i : Nat))) = z at hzl ⊢
        obtain ⟨n8, D8⟩ := S8.dr
        refine ⟨_, rfl, _, rfl, p2, rfl, ⟨_, SqL.of S8.e2⟩, fun D1 hD1 => lc_list (xs := ms.map fun m => .ref m.col) (fun j H' => Same H8 H' ∧ H' D1 = some (.lst ((ms.take j).map fun m => V.str m.name))) ⟨same_upd hD1, upd_same⟩ (fun j H' _ h => SqL.of (h.1 _ _ S8.e2)) ?_ ?_⟩
        · rintro j x' H' hx ⟨sm, e9⟩
          have nD : ∀ {o}, Same H8 (upd H' D1 o) := fun b o' e' => by
            rw [upd_ne (ne_of_none e' hD1)]
            exact sm _ _ e'
          rw [List.getElem?_map] at hx
          obtain ⟨m, hm, rfl⟩ := Option.map_eq_some_iff.mp hx
          have M := S8.each m (List.mem_of_getElem? hm)
          refine ⟨m.col, _, rfl, SqT.of (sm _ _ M.at_col), rfl, _, _, rfl, _, _, rfl, rfl, rfl, ?_⟩
          refine ⟨_, rfl, _, e9, ?_, nD, ?_⟩
          · rw [List.length_map]
            have h1 : (ms.take j).length ≤ ms.length := by rw [List.length_take]; omega
            exact Nat.lt_of_le_of_lt (show _ ≤ 3 by omega) (by decide)
          · have h1 : ms.take (j + 1) = ms.take j ++ [m] := by
              rw [List.take_add_one, hm]
              rfl
            rw [h1, List.map_append]
            exact upd_same
        rintro H9 ⟨s9, e9⟩
        have e9' : H9 D1 = some (.lst ((ms.map MCol.name).map V.str)) := by
          rw [List.length_map, List.take_length] at e9
          rw [List.map_map]
          exact e9
        have S9 := S8.step (same_but s9) (D8.keep s9)
        have x9 := x8.keep (fun a xs e => s9 a _ e)
        clear S8 D8 s9 e9 x8
        refine ⟨D1, (ms.map MCol.name).map V.str, rfl, .inl (SqL.of e9'), rfl, flat_strs _, _, rfl, notin_strs (fun hn => ?_) (fun hn => ?_)⟩
        · have m3 : ∀ {f : MCol → V}, (ms.map f).length < sizeLine := by
            intro f
            rw [List.length_map]
            exact Nat.lt_of_le_of_lt (show _ ≤ 3 by omega) (by decide)
          refine ⟨_, rfl, .inl ⟨rfl, _, SqL.of S9.e1⟩, _, rfl, _, rfl, z2, fun t1 ht1 => ?_⟩
          have S10 := S9.new (o := .tup [v, .str z]) ht1
          refine ⟨p1, _, _, rfl, rfl, S10.e1, m3, ?_⟩
          have E2 := S10.e2
          refine ⟨_, rfl, .inl ⟨rfl, _, SqL.of (by rw [upd_ne S10.ne.symm]; exact E2)⟩, _, rfl, _, rfl, z2, fun t2 ht2 => ?_⟩
          have ne2 : p1 ≠ t2 := ne_of_none upd_same ht2
          have ht2' : upd H9 t1 (.tup [v, .str z]) t2 = none := by
            rw [upd_ne ne2.symm] at ht2
            exact ht2
          rw [upd_comm ne2]
          have S11 := S10.new (o := .tup [.str z, .str "int"]) ht2'
          refine ⟨p2, _, _, rfl, rfl, by rw [upd_ne S11.ne.symm]; exact S11.e2, m3, ?_⟩
          have M : MColAt _ kf { det := t1, col := t2, told := v, ex := e, kind := kb, name := z } := ⟨same_upd ht2' _ _ upd_same, (by rw [← hw]; exact upd_same), (x9.keep (fun a xs e => same_upd ht1 _ _ e)).keep (fun a xs e => same_upd ht2' _ _ e), ke, de, hzl⟩
          exact ⟨_, _, _, _, _, _, _, _, rfl, S11.add M hn, (by rw [List.length_append]; show ms.length + 1 ≤ i + 1; omega), fun _ h => by cases ms <;> cases h⟩
        · exact ⟨_, _, _, _, _, _, _, ms, rfl, S9, by omega, fun _ h => by rw [h] at hn; cases hn⟩
  · rintro σ H2 ⟨y5, y6, y7, y8, y9, y10, y11, ms, rfl, S2, hl, hz⟩
    refine ⟨_, rfl, p1, _, rfl, .inl ⟨SqL.of S2.e1, fun t ht => ⟨_, rfl, z2, fun rr hrr => ?_⟩⟩⟩
    have S3 := S2.new (o := .tup (ms.map fun m => .ref m.det)) ht
    have S4 := S3.new (o := .tup [.ref t, .ref p2]) hrr
    obtain ⟨n4, D4⟩ := S4.dr
    exact q rr t p2 ms n4 _ upd_same (same_upd hrr _ _ upd_same) S4.e2 S4.each S4.nod (hz (by omega)) (by omega) S4.b D4
end
end Kx

namespace Kx
open PySem PySem.Spec PyProof.Rows L2
abbrev s_law_most : Stmt := topS 69
section
variable {P : Program} {w : World} {K : PySem.W.Frag} {mg : Str → Option Value} {base : Heap}
/-! ### _law_most -/
abbrev N_law_most : List Str := ["draw", "step", "some", "one"]
theorem sc_most : FnScope N_law_most ["draw", "step"] (defScope s_law_most) := ⟨rfl, rfl, rfl, by decide +kernel, rfl, by decide +kernel, by decide +kernel⟩
def spMost : Sp := fun vs H Q _ => ∃ (d s g st inp : Addr) (ns : List Int) (tl : List V) (n : Int) (nm det : V) (kind : Str) (is : List Str) (js : List Int) (kvs : List (L2.Key × V)), vs = [.ref d, .ref st] ∧ DrawAt H d s ns (.ref g :: tl) n ∧ H g = some (.dK kvs) ∧
  H st = some (.tup [nm, .str kind, .ref inp, det]) ∧ H inp = some (.tup (is.map V.str)) ∧ is.length = js.length ∧ js.length ≤ 1000 ∧ (∀ (i : Nat) (x : Str), is[i]? = some x → ∃ j : Int, js[i]? = some j ∧ valV kvs (.inr x) = some (.int j)) ∧
  (kind = "join" → ∃ a b : Int, js = [a, b] ∧ 0 ≤ a ∧ a ≤ 400 ∧ 0 ≤ b ∧ b ≤ 400 ∧ 0 ≤ a * b ∧ a * b ≤ 400) ∧ (kind ≠ "join" → 0 ≤ js.sum ∧ js.sum ≤ 400) ∧
  (kind = "sort" → ∃ (da : Addr) (x : V) (m : Int), det = .ref da ∧ H da = some (.tup [x, .int m]) ∧ 0 ≤ m) ∧ ∀ (j : Int) (H' : Hp), 0 ≤ j → j ≤ 400 → Same H H' → Q (.int j) H'
theorem at3 {a b c e : V} {tl : List V} : atI (a :: b :: c :: e :: tl) 3 = some e := atI_nat (j := 3) rfl
theorem ok_most {f : Addr} {fd : FuncData} (F : Fun K "_law_most" "_law_most" s_law_most f fd) (m_sum : mg "sum" = none) (m_min : mg "min" = none) : FnOk P w K mg base CX0 1 f fd ["draw", "step"] spMost := by
  refine F.ok sc_most (fun vs H Q E h => ?_) (fun cdv A outer s0 H vs Q E hr h => ?_)
  · obtain ⟨d, s, g, st, inp, ns, tl, n, nm, det, kind, is, js, kvs, rfl, _⟩ := h
    rfl
  obtain ⟨d, s, g, st, inp, ns, tl, n, nm, det, kind, is, js, kvs, rfl, D, eg, es, ei, il, jl, hv, hj, hj2, hs, q⟩ := h
  have nd := sc_most.nd
  have hu64 : _ + 64 < cLine := hr.units
  have z2 : 2 ≤ sizeLine := by decide
  have hu1 : _ + 1 < cLine := Nat.lt_of_le_of_lt (Nat.add_le_add_left (by decide : 1 ≤ 64) _) hu64
  refine ⟨_, pss_cons (ps_setLc (i := 2) (own := [("one", 3)]) (g := gName 3) (tt := tYes) rfl nd rfl rfl (sw_true rfl rfl rfl (by decide +kernel)) (pi_tup (pe_ix ix_tup (pv 1) pe_int (fun _ _ => rfl))) (blkOk_by (N := N_law_most) (sc := defScope s_law_most) (by decide +kernel)) (fun _ _ _ _ _ => pg_name (i := 3) nd rfl (Or.inl rfl)) (fun _ _ _ _ _ => pts_nil) (fun _ _ _ _ _ => (pe_dget hu1 (pe_ix (show IxR _ (rIxL K) from ix_list) (pv 0) pe_int (fun _ _ => rfl)) (pv 3) (fun _ _ => rfl))))
      (pss_cons (ps_if (pt_cmpR op_eq (pe_ix ix_tup (pv 1) pe_int (fun _ _ => rfl)) pe_str (nomark _)) (pss_one (ps_ret (pe_op op_mul (pe_ix ix_list (pv 2) pe_int (fun _ _ => rfl)) (pe_ix ix_list (pv 2) pe_int (fun _ _ => rfl))))) (pss_nil))
      (pss_one (ps_ret (pe_ifExp (pt_cmpR op_eq (pe_ix ix_tup (pv 1) pe_int (fun _ _ => rfl)) pe_str (nomark _)) (pe_callB (cr_min rfl) (by rfl) m_min boot_min (pa_cons (pe_lst (pa_cons (pe_callB (cr_sum rfl) (by rfl) m_sum boot_sum (pa_cons (pv 2) pa_nil)) (pa_cons (pe_ix ix_tup (pe_ix ix_tup (pv 1) pe_int (fun _ _ => rfl)) pe_int (fun _ _ => rfl)) pa_nil))) pa_nil)) (pe_callB (cr_sum rfl) (by rfl) m_sum boot_sum (pa_cons (pv 2) pa_nil)))))), ?_⟩
  refine ⟨_, rfl, st, _, 2, _, rfl, rfl, SqT.of es, rfl, inp, rfl, ⟨_, SqT.of ei⟩, fun D1 hD1 => lc_tup (xs := is.map V.str) (fun i H' => Same H H' ∧ H' D1 = some (.lst ((js.take i).map V.int))) ⟨same_upd hD1, upd_same⟩ (fun i H' _ h => SqT.of (h.1 _ _ ei)) ?_ ?_⟩
  · rintro i x H' hx ⟨sm, e⟩
    have nD : ∀ {o}, Same H (upd H' D1 o) := fun b o' e' => by
      rw [upd_ne (ne_of_none e' hD1)]
      exact sm _ _ e'
    rw [List.getElem?_map] at hx
    obtain ⟨z, hz, rfl⟩ := Option.map_eq_some_iff.mp hx
    obtain ⟨j, hj', ej⟩ := hv i z hz
    have gt : DGet H' g (.str z) (some (.int j)) := ej ▸ DGet.k (k := .inr z) (sm _ _ eg)
    refine ⟨rfl, ?_⟩
    refine ⟨_, rfl, d, _, 3, _, rfl, rfl, SqL.of (sm _ _ D.at_d), at3, _, rfl, g, _, rfl, gt, _, e, ?_, nD, ?_⟩
    · rw [List.length_map]
      have h1 : (js.take i).length ≤ js.length := by rw [List.length_take]; omega
      exact Nat.lt_of_le_of_lt (show _ ≤ 1000 by omega) (by decide)
    · have h1 : js.take (i + 1) = js.take i ++ [j] := by
        rw [List.take_add_one, hj']
        rfl
      rw [h1, List.map_append]
      exact upd_same
  rintro H1 ⟨s1, e1⟩
  rw [List.length_map, il, List.take_length] at e1
  refine ⟨_, rfl, st, _, 1, _, rfl, rfl, SqT.of (s1 _ _ es), rfl, rfl, _, rfl, ite2 (fun c => ?_) (fun c => ?_)⟩
  · have ek : kind = "join" := by
      have := of_decide_eq_true c
      injection this
    obtain ⟨a, b, rfl, a0, a1, b0, b1, p0, p1⟩ := hj ek
    refine ⟨_, rfl, D1, _, 0, _, rfl, rfl, SqL.of e1, rfl, _, rfl, D1, _, 1, _, rfl, rfl, SqL.of e1, rfl, _, _, rfl, rfl, ?_, ?_⟩
    · exact .inl (by show _ ∧ _; omega)
    · exact q _ _ p0 p1 s1
  · have nj : kind ≠ "join" := fun e => c (decide_eq_true (by rw [e]))
    obtain ⟨q0, q1⟩ := hj2 nj
    refine ⟨_, rfl, st, _, 1, _, rfl, rfl, SqT.of (s1 _ _ es), rfl, rfl, _, rfl, ite2 (fun c2 => ?_) (fun c2 => ⟨_, rfl, D1, js, rfl, SqL.of e1, q _ _ q0 q1 s1⟩)⟩
    have ek : kind = "sort" := by
      have := of_decide_eq_true c2
      injection this
    obtain ⟨da, x, m, rfl, ed, m0⟩ := hs ek
    refine ⟨_, rfl, D1, js, rfl, SqL.of e1, ?_⟩
    refine ⟨_, rfl, st, _, 3, _, rfl, rfl, SqT.of (s1 _ _ es), rfl, da, _, 1, _, rfl, rfl, SqT.of (s1 _ _ ed), rfl, z2, fun p hp => ?_⟩
    refine ⟨p, [_, m], rfl, SqL.of upd_same, (by show 0 < 2; decide), fun k hk hle => q _ _ ?_ ?_ (s1.trans (same_upd hp))⟩
    · rcases List.mem_cons.mp hk with rfl | hk
      · exact q0
      · rw [List.mem_singleton.mp hk]
        exact m0
    · exact Int.le_trans (hle _ List.mem_cons_self) q1
end
end Kx

namespace Kx
open PySem PySem.Spec PyProof.Rows L2
theorem nodup_len : ∀ {M ks : List L2.Key}, M.Nodup → (∀ z ∈ M, z ∈ ks) → M.length ≤ ks.length
  | [], _, _, _ => Nat.zero_le _
  | x :: M, ks, hn, hs => by
    have hn' := List.nodup_cons.mp hn
    obtain ⟨u, t, rfl⟩ := List.append_of_mem (hs x List.mem_cons_self)
    have h1 : M.length ≤ (u ++ t).length := nodup_len hn'.2 fun z hz => by
      have h2 := List.mem_append.mp (hs z (List.mem_cons_of_mem _ hz))
      rcases h2 with h2 | h2
      · exact List.mem_append_left _ h2
      rcases List.mem_cons.mp h2 with e | h2
      · rw [e] at hz
        exact absurd hz hn'.1
      · exact List.mem_append_right _ h2
    rw [List.length_append] at h1
    rw [List.length_append, List.length_cons, List.length_cons]
    omega
section
variable {X : Cx}
/-- len of a set of ints and texts -/
def rLenK (P : Program) (w : World) : List V → Hp → VK → Prop := fun vs H Q => ∃ (a : Addr) (L : List L2.Key), vs = [.ref a] ∧ H a = some (Yk.SetKO P w a L) ∧ Q (.int (L.length : Nat)) H
theorem cr_lenK : CallR X (.builtin "len") (rLenK X.prog X.w) := by
  intro pins s σ H vs us Q I r h
  obtain ⟨a, L, rfl, ha, q⟩ := h
  rw [Vals.ref1 r]
  obtain ⟨o, es, ep, t, ho, hex, hd, _, eL, _, hb, hf, _⟩ := Yk.setKO_get I ha
  have len : L.length = es.size := by
    rw [eL, List.length_map, Array.length_toList]
  have hb2 : es.size < 2 ^ 63 := Nat.lt_of_lt_of_le hb (by decide)
  exact call_len_set ho hex hd hf (by omega) ⟨.int (L.length : Nat), H, I.tok _, ⟨_, by rw [len]⟩, q⟩
end
/-- a list whose set has as many things has no thing twice -/
theorem len_nodup : ∀ {ks M : List L2.Key}, M.Nodup → (∀ z, z ∈ M ↔ z ∈ ks) → ks.length ≤ M.length → ks.Nodup
  | [], _, _, _, _ => List.nodup_nil
  | x :: r, M, hn, hm, hl => by
    by_cases hx : x ∈ r
    · have h1 := nodup_len (ks := r) hn fun z hz => by
        rcases List.mem_cons.mp ((hm z).mp hz) with e | h
        · rw [e]
          exact hx
        · exact h
      rw [List.length_cons] at hl
      omega
    · have xM : x ∈ M := (hm x).mpr List.mem_cons_self
      obtain ⟨u, v, rfl⟩ := List.append_of_mem xM
      have hp := List.nodup_cons.mp ((List.perm_middle (l₁ := u) (a := x) (l₂ := v)).nodup hn)
      refine List.nodup_cons.mpr ⟨hx, len_nodup (M := u ++ v) hp.2 (fun z => ?_) ?_⟩
      · have h0 := hm z
        rw [(List.perm_middle (l₁ := u) (a := x) (l₂ := v)).mem_iff, List.mem_cons, List.mem_cons] at h0
        constructor
        · intro h
          rcases h0.mp (.inr h) with e | h2
          · exact absurd (e ▸ h) hp.1
          · exact h2
        · intro h
          rcases h0.mpr (.inr h) with e | h2
          · exact absurd (e ▸ h) hx
          · exact h2
      · rw [List.length_append] at hl ⊢
        rw [List.length_cons, List.length_cons] at hl
        omega
theorem nodup_strs {l : List Str} (h : (l.map fun x => (Sum.inr x : L2.Key)).Nodup) : l.Nodup :=
  (List.pairwise_map.mp h).imp fun ne e => ne (congrArg Sum.inr e)
/-- every name that a drawn column can have -/
def allNames : List Str := (["k", "t", "n", "m", "f0", "f1", "f2", "c"] : List Str) ++ lates
theorem few_names {l : List Str} (hn : l.Nodup) (h : ∀ x ∈ l, x ∈ allNames) : l.length ≤ 24 := by
  have h1 := nodup_len (M := l.map fun x => (Sum.inr x : L2.Key)) (ks := allNames.map fun x => (Sum.inr x : L2.Key)) (List.pairwise_map.mpr (hn.imp fun ne e => ne (Sum.inr.inj e))) fun z hz => by
    obtain ⟨x, hx, rfl⟩ := List.mem_map.mp hz
    exact List.mem_map.mpr ⟨x, h x hx, rfl⟩
  rw [List.length_map, List.length_map] at h1
  exact h1
end Kx

namespace Kx
open PySem PySem.Spec PyProof.Rows L2
abbrev s_law_fold : Stmt := topS 67
/-- a fold that the law draws: where its detail stands, where its pair stands, its word, what it tells, its expression, that one's kind, its name -/
structure FCol where
  det : Addr
  col : Addr
  op : Str
  told : V
  ex : Option Ex
  kind : Bool
  name : Str
def folds6 : List Str := ["count", "sum", "least", "greatest", "mean", "unlike"]
def lateK (op : Str) (k : Bool) : Bool := if op ∈ (["least", "greatest"] : List Str) then k else true
def FTold (H : Hp) (kf : Str → Option Bool) (op : Str) (told : V) (k : Bool) : Option Ex → Prop
  | none => op = "count" ∧ told = .non ∧ k = true
  | some e => op ≠ "count" ∧ ExAt H told e ∧ Kind kf e k ∧ e.dep ≤ 3 ∧ (op ∉ (["least", "unlike", "greatest"] : List Str) → k = true)
theorem FTold.keep {H H' : Hp} {kf : Str → Option Bool} {op : Str} {told : V} {k : Bool} {oe : Option Ex} (t : FTold H kf op told k oe) (h : ∀ (a : Addr) (xs : List V), H a = some (.tup xs) → H' a = some (.tup xs)) : FTold H' kf op told k oe := by
  cases oe with
  | none => exact t
  | some e => exact ⟨t.1, t.2.1.keep h, t.2.2⟩
def fnames : List Str := ["f0", "f1", "f2", "c"]
structure FColAt (H : Hp) (kf : Str → Option Bool) (m : FCol) : Prop where
  at_det : H m.det = some (.tup [.str m.op, m.told, .str m.name])
  at_col : H m.col = some (.tup [.str m.name, .str (kW (lateK m.op m.kind))])
  told : FTold H kf m.op m.told m.kind m.ex
  op : m.op ∈ folds6
  nm : m.name ∈ fnames
theorem FColAt.keep {H H' : Hp} {kf : Str → Option Bool} {m : FCol} (M : FColAt H kf m) (h : ∀ (a : Addr) (xs : List V), H a = some (.tup xs) → H' a = some (.tup xs)) : FColAt H' kf m :=
  ⟨h _ _ M.at_det, h _ _ M.at_col, M.told.keep h, M.op, M.nm⟩
structure FSt (H0 H : Hp) (kf : Str → Option Bool) (d s p1 p2 : Addr) (ks : List Col) (ns : List Int) (tl : List V) (fs : List FCol) : Prop where
  dr : ∃ n, DrawAt H d s ns tl n
  b : But d H0 H
  f1 : H0 p1 = none
  f2 : H0 p2 = none
  fs' : ∃ o, H0 s = some o
  ne : p1 ≠ p2
  n1 : p1 ≠ d
  n2 : p2 ≠ d
  e1 : H p1 = some (.lst (fs.map fun m => .ref m.det))
  e2 : H p2 = some (.lst ((ks.map fun c => .ref c.1) ++ fs.map fun m => .ref m.col))
  each : ∀ m ∈ fs, FColAt H kf m
theorem FSt.step {H0 H H' : Hp} {kf : Str → Option Bool} {d s p1 p2 : Addr} {ks : List Col} {ns : List Int} {tl : List V} {fs : List FCol} {n : Int} (S : FSt H0 H kf d s p1 p2 ks ns tl fs) (b : But d H H') (D : DrawAt H' d s ns tl n) : FSt H0 H' kf d s p1 p2 ks ns tl fs := by
  obtain ⟨n0, D0⟩ := S.dr
  exact ⟨⟨n, D⟩, S.b.trans b, S.f1, S.f2, S.fs', S.ne, S.n1, S.n2, b _ _ S.n1 S.e1, b _ _ S.n2 S.e2, fun m hm => (S.each m hm).keep (b.tup D0.at_d)⟩
theorem FSt.new {H0 H : Hp} {kf : Str → Option Bool} {d s p1 p2 p : Addr} {ks : List Col} {ns : List Int} {tl : List V} {fs : List FCol} {o : HO} (S : FSt H0 H kf d s p1 p2 ks ns tl fs) (h : H p = none) : FSt H0 (upd H p o) kf d s p1 p2 ks ns tl fs := by
  obtain ⟨n0, D0⟩ := S.dr
  exact S.step (same_but (same_upd h)) (D0.keep (same_upd h))
theorem FSt.add {H0 H : Hp} {kf : Str → Option Bool} {d s p1 p2 : Addr} {ks : List Col} {ns : List Int} {tl : List V} {fs : List FCol} (S : FSt H0 H kf d s p1 p2 ks ns tl fs) {m : FCol} (M : FColAt H kf m) :
    FSt H0 (upd (upd H p1 (.lst ((fs.map fun m => .ref m.det) ++ [.ref m.det]))) p2 (.lst (((ks.map fun c => .ref c.1) ++ fs.map fun m => .ref m.col) ++ [.ref m.col]))) kf d s p1 p2 ks ns tl (fs ++ [m]) := by
  obtain ⟨n0, D0⟩ := S.dr
  have kp : ∀ {a : Addr} {o : HO}, a ≠ p1 → a ≠ p2 → H a = some o → upd (upd H p1 (.lst ((fs.map fun m => .ref m.det) ++ [.ref m.det]))) p2 (.lst (((ks.map fun c => .ref c.1) ++ fs.map fun m => .ref m.col) ++ [.ref m.col])) a = some o := fun h1 h2 e => by
    rw [upd_ne h2, upd_ne h1]
    exact e
  have kt : ∀ (a : Addr) (xs : List V), H a = some (.tup xs) → upd (upd H p1 (.lst ((fs.map fun m => .ref m.det) ++ [.ref m.det]))) p2 (.lst (((ks.map fun c => .ref c.1) ++ fs.map fun m => .ref m.col) ++ [.ref m.col])) a = some (.tup xs) := fun a xs e =>
    kp (fun q => by rw [q, S.e1] at e; cases e) (fun q => by rw [q, S.e2] at e; cases e) e
  obtain ⟨os, es⟩ := S.fs'
  have ks1 : s ≠ p1 := ne_of_none es S.f1
  have ks2 : s ≠ p2 := ne_of_none es S.f2
  refine ⟨⟨n0, kp S.n1.symm S.n2.symm D0.at_d, kp ks1 ks2 D0.at_s, D0.n0⟩, fun c o hc e => kp (ne_of_none e S.f1) (ne_of_none e S.f2) (S.b c o hc e), S.f1, S.f2, S.fs', S.ne, S.n1, S.n2, ?_, ?_, fun x hx => ?_⟩
  · rw [List.map_append, upd_ne S.ne]
    exact upd_same
  · rw [List.map_append, ← List.append_assoc]
    exact upd_same
  · rcases List.mem_append.mp hx with hx | hx
    · exact (S.each x hx).keep kt
    · rw [List.mem_singleton.mp hx]
      exact M.keep kt
theorem cut_2 (xs : List V) : cutV xs none (some 2) = xs.take 2 := by
  unfold cutV
  rw [HT.sIx_none, show (some (2 : Int)) = some ((2 : Nat) : Int) from rfl, HT.sIx_nat, List.drop_zero]
  match xs with
  | [] => rfl
  | [x] => rfl
  | x :: y :: r =>
    rw [List.length_cons, List.length_cons, show min 2 (r.length + 1 + 1) - 0 = 2 by omega]
theorem cut_two (ks : List Col) : ∃ ys : List Col, cutV (ks.map fun c => V.ref c.1) none (some 2) = (ys.map fun c => V.ref c.1) ∧ (∀ c ∈ ys, c ∈ ks) ∧ ys.length ≤ 2 := by
  have e : cutV (ks.map fun c => V.ref c.1) none (some 2) = (ks.take 2).map fun c => V.ref c.1 := by
    rw [List.map_take]
    exact cut_2 _
  exact ⟨_, e, fun c hc => List.mem_of_mem_take hc, by rw [List.length_take]; omega⟩
theorem f_name {i : Nat} (h : i < 3) : ("f" : Str) ++ Str.ofString (toString ((0 : Int) + (i : Nat))) ∈ fnames ∧ ("f" : Str).length + (Str.ofString (toString ((0 : Int) + (i : Nat)))).length ≤ sizeLine := by
  match i, h with
  | 0, _ => decide +kernel
  | 1, _ => decide +kernel
  | 2, _ => decide +kernel
theorem in_strs {z : Str} {l : List Str} {A B : Prop} (h1 : z ∈ l → A) (h2 : z ∉ l → B) : if (if false = true then !inV (.str z) (l.map V.str) else inV (.str z) (l.map V.str)) = true then A else B := by
  rw [if_neg Bool.false_ne_true, inV_str]
  by_cases h : z ∈ l
  · rw [decide_eq_true h]
    exact iteT (h1 h)
  · rw [decide_eq_false h]
    exact iteF (h2 h)
section
variable {P : Program} {w : World} {K : PySem.W.Frag} {mg : Str → Option Value} {base : Heap}
/-! ### _law_fold -/
abbrev N_law_fold : List Str := ["draw", "columns", "keys", "pair", "folds", "found", "number", "kind", "told", "late", "name", "names"]
def spFold : Sp := fun vs H Q _ => ∃ (d s cols : Addr) (cl : List Col) (kf : Str → Option Bool) (ns : List Int) (tl : List V) (n : Int), vs = [.ref d, .ref cols] ∧ DrawAt H d s ns tl n ∧ ColsAt H cols cl ∧ (∀ c ∈ cl, kf c.2.1 = some c.2.2) ∧ cl ≠ [] ∧
  ∀ (r t kt ft f : Addr) (ks : List Col) (fs : List FCol) (n' : Int) (H' : Hp), H' r = some (.tup [.ref t, .ref f]) → H' t = some (.tup [.ref kt, .ref ft]) → H' kt = some (.tup (ks.map fun c => .str c.2.1)) → H' ft = some (.tup (fs.map fun m => .ref m.det)) → H' f = some (.lst ((ks.map fun c => .ref c.1) ++ fs.map fun m => .ref m.col)) →
    (∀ c ∈ ks, c ∈ cl) → (∀ m ∈ fs, FColAt H' kf m) → ((ks.map fun c => c.2.1) ++ fs.map FCol.name).Nodup → fs ≠ [] → fs.length ≤ 3 → But d H H' → DrawAt H' d s ns tl n' → Q (.ref r) H'
theorem sc_fold : FnScope N_law_fold ["draw", "columns"] (defScope s_law_fold) := ⟨rfl, rfl, rfl, by decide +kernel, rfl, by decide +kernel, by decide +kernel⟩
theorem ok_fold {f : Addr} {fd : FuncData} (F : Fun K "_law_fold" "_law_fold" s_law_fold f fd) (m_range : mg "range" = none) (m_str : mg "str" = none) (m_tuple : mg "tuple" = none) (m_list : mg "list" = none) (m_len : mg "len" = none) (m_set : mg "set" = none) (G_law_next : Ready P w K mg base 3 "_law_next" ["draw", "bound"] spNext) (G_law_pick : Ready P w K mg base 4 "_law_pick" ["draw", "things"] (spPick K))
    (G_law_int : Ready P w K mg base 6 "_law_int" ["draw", "columns", "deep"] (spInt 2)) : FnOk P w K mg base CX0 8 f fd ["draw", "columns"] spFold := by
  refine F.ok sc_fold (fun vs H Q E h => ?_) (fun cdv A outer s0 H vs Q E hr h => ?_)
  · obtain ⟨d, s, cols, cl, kf, ns, tl, n, rfl, _⟩ := h
    rfl
  obtain ⟨d, s, cols, cl, kf, ns, tl, n, rfl, D, C, hk, hne, q⟩ := h
  have nd := sc_fold.nd
  have hu64 : _ + 64 < cLine := hr.units
  have hr6 : Room 6 _ := hr.mono (by omega)
  have hr4 : Room 4 _ := hr.mono (by omega)
  have hr3 : Room 3 _ := hr.mono (by omega)
  refine ⟨_, pss_cons (ps_set (i := 2) nd rfl (.inl rfl) (pe_slice sl_list (pe_lc (own := [("pair", 3)]) (g := gName 3) (tt := _) rfl nd (pi_list (pv 1)) (blkOk_by (N := N_law_fold) (sc := defScope s_law_fold) (by decide +kernel)) (fun _ _ _ _ _ => pg_name (i := 3) nd rfl (Or.inl rfl)) (fun _ _ _ _ _ => pts_one (pt_cmpR op_eq (pe_fn (G_law_next) hr3 (pa_cons (pv 0) (pa_cons pe_int pa_nil))) pe_int (nomark _))) (fun _ _ _ _ _ => (pv 3))) po_none (po_some pe_int)))
      (pss_cons (ps_par (i := 4) (j := 5) rfl nd rfl rfl (by decide) rfl rfl (pa_cons (pe_lst pa_nil) (pa_cons (pe_callTy call_list_of (by rfl) m_list PyProof.Rows.boot_list (pa_cons (pv 2) pa_nil)) pa_nil)) rfl)
      (pss_cons (ps_for PassesOwn.never rfl (pi_range1 rfl m_range (pa_cons (pe_op op_add pe_int (pe_fn (G_law_next) hr3 (pa_cons (pv 0) (pa_cons pe_int pa_nil)))) pa_nil)) (pg_name (i := 6) nd rfl (.inl rfl)) (pss_cons (ps_set (i := 7) nd rfl (.inl rfl) (pe_fn (G_law_pick) hr4 (pa_cons (pv 0) (pa_cons (pe_tup (pa_cons pe_str (pa_cons pe_str (pa_cons pe_str (pa_cons pe_str (pa_cons pe_str (pa_cons pe_str pa_nil))))))) pa_nil))))
      (C8.pss_cut (ps_asg (pe_ifExp (pt_cmpR op_eq (pv 7) pe_str (nomark _)) (pe_tup (pa_cons pe_non (pa_cons pe_str pa_nil))) (pe_tup (pa_cons (pe_fn (G_law_int) hr6 (pa_cons (pv 0) (pa_cons (pv 1) (pa_cons pe_int pa_nil)))) (pa_cons pe_str pa_nil)))) (pg_tup rfl (pgs_cons (pg_name (i := 8) nd rfl (.inl rfl)) (pgs_cons (pg_name (i := 9) nd rfl (.inl rfl)) pgs_nil))))
      (C8.pss_cut (ps_if (PW.pt (pw_and (pt_cmpR op_in_seq (pv 7) (pe_tup (pa_cons pe_str (pa_cons pe_str (pa_cons pe_str pa_nil)))) (by with_unfolding_all rfl)) (pw_and1 (pt_cmpR op_eq (pe_fn (G_law_next) hr3 (pa_cons (pv 0) (pa_cons pe_int pa_nil))) pe_int (nomark _))))) (pss_cons (ps_asg (pe_fn (G_law_pick) hr4 (pa_cons (pv 0) (pa_cons (pv 1) pa_nil))) (pg_tup rfl (pgs_cons (pg_name (i := 10) nd rfl (.inl rfl)) (pgs_cons (pg_name (i := 9) nd rfl (.inl rfl)) pgs_nil))))
      (pss_one (ps_set (i := 8) nd rfl (.inl rfl) (pe_tup (pa_cons pe_str (pa_cons (pv 10) pa_nil)))))) (pss_nil))
      (pss_cons (ps_expr (pe_bm PySem.F.plainAttrs_list PySem.F.slot_list_append PySem.F.type_list_append mt_append (pv 4) (pa_cons (pe_tup (pa_cons (pv 7) (pa_cons (pv 8) (pa_cons (pe_op op_add_str pe_str (pe_callTy call_str_int (by rfl) m_str PyProof.Rows.boot_str (pa_cons (pv 6) pa_nil))) pa_nil)))) pa_nil)))
      (pss_one (ps_expr (pe_bm PySem.F.plainAttrs_list PySem.F.slot_list_append PySem.F.type_list_append mt_append (pv 5) (pa_cons (pe_tup (pa_cons (pe_op op_add_str pe_str (pe_callTy call_str_int (by rfl) m_str PyProof.Rows.boot_str (pa_cons (pv 6) pa_nil))) (pa_cons (pe_ifExp (pt_cmpR op_in_seq (pv 7) (pe_tup (pa_cons pe_str (pa_cons pe_str pa_nil))) (by with_unfolding_all rfl)) (pv 9) pe_str) pa_nil))) pa_nil)))))))))
      (pss_cons (ps_setLc (i := 11) (own := [("name", 10), ("kind", 7)]) (g := (gTup K 2 (gCons (gName 10) (gCons (gName 7) gNil)))) (tt := tYes) rfl nd rfl rfl (sw_true rfl rfl rfl (by decide +kernel)) (pi_list (pv 5)) (blkOk_by (N := N_law_fold) (sc := defScope s_law_fold) (by decide +kernel)) (fun _ _ _ _ _ => pg_tup rfl (pgs_cons (pg_name (i := 10) nd rfl (.inl rfl)) (pgs_cons (pg_name (i := 7) nd rfl (.inl rfl)) pgs_nil))) (fun _ _ _ _ _ => pts_nil) (fun _ _ _ _ _ => (pv 10)))
      (pss_cons (ps_if (pt_cmpR op_lt (pe_callB cr_lenK (by rfl) m_len PySem.boot_len (pa_cons (pe_callTy (Yk.cr_setK rfl) (by rfl) m_set PyProof.Rows.boot_set (pa_cons (pv 11) pa_nil)) pa_nil)) (pe_callB call_len_seq (by rfl) m_len PySem.boot_len (pa_cons (pv 11) pa_nil)) (nomark _)) (pss_one (ps_ret (pe_tup (pa_cons (pe_tup (pa_cons (pe_tup pa_nil) (pa_cons (pe_tup (pa_cons (pe_tup (pa_cons pe_str (pa_cons pe_non (pa_cons pe_str pa_nil)))) pa_nil)) pa_nil))) (pa_cons (pe_lst (pa_cons (pe_tup (pa_cons pe_str (pa_cons pe_str pa_nil))) pa_nil)) pa_nil))))) (pss_nil))
      (pss_one (ps_ret (pe_tup (pa_cons (pe_tup (pa_cons (pe_callTy call_tuple_of (by rfl) m_tuple PyProof.Rows.boot_tuple (pa_cons (pe_lc (own := [("name", 10), ("kind", 7)]) (g := (gTup K 2 (gCons (gName 10) (gCons (gName 7) gNil)))) (tt := tYes) rfl nd (pi_list (pv 2)) (blkOk_by (N := N_law_fold) (sc := defScope s_law_fold) (by decide +kernel)) (fun _ _ _ _ _ => pg_tup rfl (pgs_cons (pg_name (i := 10) nd rfl (.inl rfl)) (pgs_cons (pg_name (i := 7) nd rfl (.inl rfl)) pgs_nil))) (fun _ _ _ _ _ => pts_nil) (fun _ _ _ _ _ => (pv 10))) pa_nil)) (pa_cons (pe_callTy call_tuple_of (by rfl) m_tuple PyProof.Rows.boot_tuple (pa_cons (pv 4) pa_nil)) pa_nil))) (pa_cons (pv 5) pa_nil))))))))), ?_⟩
  have z2 : 2 ≤ sizeLine := by decide
  have z3 : 3 ≤ sizeLine := by decide
  have z6 : 6 ≤ sizeLine := by decide
  have cne := C.ne D
  have clne : (cl.map fun c => V.ref c.1) ≠ [] := fun e => hne (List.map_eq_nil_iff.mp e)
  -- keys
  refine ⟨_, rfl, cols, rfl, ⟨_, SqL.of C.all⟩, fun D1 hD1 => ?_⟩
  have n1 : D1 ≠ d := (ne_of_none D.at_d hD1).symm
  refine lc_list (K := K) (a := cols) (xs := cl.map fun c => .ref c.1) (fun i H' => ∃ n' ks, DrawAt H' d s ns tl n' ∧ But d H H' ∧ H' D1 = some (.lst (ks.map fun c => .ref c.1)) ∧ (∀ c ∈ ks, c ∈ cl) ∧ ks.length ≤ i) ⟨n, [], D.keep (same_upd hD1), same_but (same_upd hD1), upd_same, fun c hc => absurd hc List.not_mem_nil, Nat.le_refl _⟩ (fun i H' _ h => ?_) ?_ ?_
  · obtain ⟨n', ks, D', b', _⟩ := h
    exact SqL.of (C.but D b').all
  · rintro i x H' hx ⟨n', ks, D', b', e', sub, le⟩
    rw [List.getElem?_map] at hx
    obtain ⟨c, hc, rfl⟩ := Option.map_eq_some_iff.mp hx
    have hi : i < cl.length := (List.getElem?_eq_some_iff.mp hc).1
    refine ⟨rfl, _, rfl, d, s, ns, tl, _, 2, rfl, D', by decide, fun r H3 r0 r1 b3 D3 => ⟨rfl, _, rfl, ite2 (fun cc => ?_) (fun cc => ?_)⟩⟩
    · have e3 := b3 _ _ n1 e'
      refine ⟨_, rfl, _, e3, ?_, n' + 1, ks ++ [c], ?_, ?_, ?_, ?_, ?_⟩
      · rw [List.length_map]
        have := C.few
        exact Nat.lt_of_le_of_lt (show ks.length ≤ 1000 by omega) (by decide)
      · exact ⟨by rw [upd_ne n1.symm]; exact D3.at_d, by rw [upd_ne (ne_of_none D.at_s hD1)]; exact D3.at_s, D3.n0⟩
      · exact fun b o hb e => by
          rw [upd_ne (ne_of_none e hD1)]
          exact (b'.trans b3) _ _ hb e
      · rw [upd_same, List.map_append]
        rfl
      · intro c' hc'
        rcases List.mem_append.mp hc' with hc' | hc'
        · exact sub _ hc'
        · rw [List.mem_singleton.mp hc']
          exact List.mem_of_getElem? hc
      · rw [List.length_append]
        exact Nat.succ_le_succ le
    · exact ⟨n' + 1, ks, D3, b'.trans b3, b3 _ _ n1 e', sub, Nat.le_succ_of_le le⟩
  rintro H1 ⟨nk, ks0, D1', b1, e1, sub0, le0⟩
  -- the first two
  refine ⟨_, rfl, D1, _, rfl, SqL.of e1, fun pk hpk => ?_⟩
  obtain ⟨ks, eks, subk, lek⟩ := cut_two ks0
  have hks : ks.length ≤ 2 := lek
  rw [eks]
  have sub : ∀ c ∈ ks, c ∈ cl := fun c hc => sub0 c (subk c hc)
  have b2 : But d H (upd H1 pk (.lst (ks.map fun c => .ref c.1))) := b1.trans (same_but (same_upd hpk))
  have D2 := D1'.keep (same_upd (o := .lst (ks.map fun c => .ref c.1)) hpk)
  have npk : pk ≠ d := (ne_of_none D1'.at_d hpk).symm
  have epk : upd H1 pk (.lst (ks.map fun c => .ref c.1)) pk = some (.lst (ks.map fun c => .ref c.1)) := upd_same
  generalize upd H1 pk (.lst (ks.map fun c => .ref c.1)) = H2 at b2 D2 epk ⊢
  clear D1' hpk e1 n1 b1 eks
  -- folds, found
  refine ⟨Nat.zero_le _, fun p1 hp1 => ?_⟩
  have s1 := same_upd (o := .lst []) hp1
  refine ⟨_, rfl, pk, _, rfl, .inl (SqL.of (s1 _ _ epk)), fun p2 hp2 => ⟨_, _, rfl, ?_⟩⟩
  have hp2' : H2 p2 = none := by
    by_cases e : p2 = p1
    · rw [e, upd_same] at hp2
      cases hp2
    · rw [upd_ne e] at hp2
      exact hp2
  have S0 : FSt H2 (upd (upd H2 p1 (.lst [])) p2 (.lst (ks.map fun c => .ref c.1))) kf d s p1 p2 ks ns tl [] := by
    have s2 := s1.trans (same_upd (o := .lst (ks.map fun c => .ref c.1)) hp2)
    exact ⟨⟨_, D2.keep s2⟩, same_but s2, hp1, hp2', ⟨_, D2.at_s⟩, ne_of_none upd_same hp2, (ne_of_none D2.at_d hp1).symm, (ne_of_none D2.at_d hp2').symm, same_upd hp2 _ _ upd_same, by rw [upd_same]; simp, fun m hm => (List.not_mem_nil hm).elim⟩
  obtain ⟨n0, D0⟩ := S0.dr
  refine ⟨_, rfl, d, s, ns, tl, _, _, rfl, D0, (by show (0 : Int) < 3; decide), fun r H1 r0 r1 b1 D1 => ?_⟩
  have S1 := S0.step b1 D1
  clear S0 D0 b1 D1 hp2
  refine ⟨_, _, rfl, rfl, _, rfl, by omega, by omega, ?_⟩
  have bC : ∀ {H' : Hp} {fs : List FCol}, FSt H2 H' kf d s p1 p2 ks ns tl fs → ColsAt H' cols cl := fun S => C.but D (b2.trans S.b)
  have e3 : ∀ {H' : Hp} {fs : List FCol}, FSt H2 H' kf d s p1 p2 ks ns tl fs → H' pk = some (.lst (ks.map fun c => .ref c.1)) := fun S => S.b _ _ npk epk
  refine for_range (fun i σ H' => ∃ y3 y6 y7 y8 y9 y10 y11 fs, σ = [some (.ref d), some (.ref cols), some (.ref pk), y3, some (.ref p1), some (.ref p2), y6, y7, y8, y9, y10, y11] ∧ FSt H2 H' kf d s p1 p2 ks ns tl fs ∧ fs.length ≤ i ∧ (0 < i → fs ≠ [])) ⟨none, none, none, none, none, none, none, [], rfl, S1, Nat.le_refl _, fun h => absurd h (Nat.lt_irrefl _)⟩ ?_ ?_
  · rintro i σ H3 hi ⟨y3, y6, y7, y8, y9, y10, y11, fs, rfl, S3, hl, hz⟩
    obtain ⟨n3, D3⟩ := S3.dr
    refine ⟨_, rfl, z6, fun q1 hq1 => ?_⟩
    have S4 := S3.new (o := .tup (folds6.map V.str)) hq1
    obtain ⟨n4, D4⟩ := S4.dr
    refine ⟨d, s, q1, ns, tl, _, folds6.map V.str, rfl, D4, (ne_of_none D3.at_d hq1).symm, .inr (SqT.of upd_same), (by intro z; cases z), fun v1 H5 hv1 b5 D5 => ?_⟩
    have S5 := S4.step b5 D5
    obtain ⟨op, hop, rfl⟩ := mem_strs (l := folds6) hv1
    clear S4 D4 b5 S3 D3 hq1 hv1
    refine ⟨fun σ H' => ∃ y10 tv oe k, σ = [some (.ref d), some (.ref cols), some (.ref pk), y3, some (.ref p1), some (.ref p2), some (.int ((0 : Int) + (i : Nat))), some (.str op), some tv, some (.str (kW k)), y10, y11] ∧ FSt H2 H' kf d s p1 p2 ks ns tl fs ∧ FTold H' kf op tv k oe, ?_, ?_⟩
    · refine ⟨_, rfl, rfl, _, rfl, ite2 (fun c => ?_) (fun c => ?_)⟩
      · refine ⟨z2, fun t ht => ⟨t, _, rfl, SqT.of upd_same, rfl, _, _, rfl, _, _, rfl, rfl, ?_⟩⟩
        exact ⟨_, .non, none, true, rfl, S5.new ht, by have := of_decide_eq_true c; injection this, rfl, rfl⟩
      · obtain ⟨n5, D5'⟩ := S5.dr
        refine ⟨_, rfl, _, rfl, d, s, cols, cl, kf, ns, tl, _, 1, rfl, D5', bC S5, hk, by decide, rfl, fun v e n6 H6 ke de xe b6 D6 => ?_⟩
        have S6 := S5.step b6 D6
        refine ⟨z2, fun t ht => ⟨t, _, rfl, SqT.of upd_same, rfl, _, _, rfl, _, _, rfl, rfl, ?_⟩⟩
        exact ⟨_, v, some e, true, rfl, S6.new ht, fun e' => c (decide_eq_true (by rw [e'])), xe.keep fun a xs z => same_upd ht _ _ z, ke, de, fun _ => rfl⟩
    clear S5 D5 y10
    rintro σ H6 ⟨y10, tv, oe, k, rfl, S6, T6⟩
    refine ⟨fun σ H' => ∃ y10 tv oe k, σ = [some (.ref d), some (.ref cols), some (.ref pk), y3, some (.ref p1), some (.ref p2), some (.int ((0 : Int) + (i : Nat))), some (.str op), some tv, some (.str (kW k)), y10, y11] ∧ FSt H2 H' kf d s p1 p2 ks ns tl fs ∧ FTold H' kf op tv k oe, ?_, ?_⟩
    · refine ⟨_, rfl, z3, fun q2 hq2 => ?_⟩
      have S7 := S6.new (o := .tup ((["least", "unlike", "greatest"] : List Str).map V.str)) hq2
      have T7 := T6.keep (H' := upd H6 q2 (.tup ((["least", "unlike", "greatest"] : List Str).map V.str))) fun a xs z => same_upd hq2 _ _ z
      refine ⟨q2, (["least", "unlike", "greatest"] : List Str).map V.str, rfl, .inr (SqT.of upd_same), rfl, flat_strs _, _, rfl, in_strs (fun hin => ?_) (fun hin => iteF ?_)⟩
      · obtain ⟨n7, D7⟩ := S7.dr
        refine ⟨_, rfl, d, s, ns, tl, _, _, rfl, D7, (by show (0 : Int) < 2; decide), fun r2 H8 _ _ b8 D8 => ?_⟩
        have S8 := S7.step b8 D8
        refine ⟨rfl, _, rfl, ite2 (fun c => ?_) (fun c => ?_)⟩
        · refine ⟨_, rfl, _, rfl, d, s, cols, ns, tl, _, _, rfl, D8, cne, .inl (SqL.of (bC S8).all), clne, fun v H9 hv b9 D9 => ?_⟩
          have S9 := S8.step b9 D9
          obtain ⟨⟨a, x, kb⟩, hc, rfl⟩ := List.mem_map.mp hv
          refine ⟨a, _, rfl, SqT.of ((bC S9).each _ hc), rfl, _, _, rfl, _, _, rfl, rfl, ?_⟩
          refine ⟨_, rfl, z2, fun t ht => ?_⟩
          exact ⟨_, .ref t, some (.col x), kb, rfl, S9.new ht, fun e => by rw [e] at hin; revert hin; decide +kernel, ⟨t, rfl, upd_same⟩, .col (hk _ hc), by show 1 ≤ 3; omega, fun hno => absurd hin hno⟩
        · exact ⟨_, tv, oe, k, rfl, S8, T7.keep (b8.tup D7.at_d)⟩
      · exact ⟨_, tv, oe, k, rfl, S7, T7⟩
    clear S6 T6 y10 tv oe k
    rintro σ H7 ⟨y10, tv, oe, k, rfl, S7, T7⟩
    obtain ⟨fn, fl⟩ := f_name (i := i) (by omega)
    have m3 : ∀ {g : FCol → V}, (fs.map g).length < sizeLine := by
      intro g
      rw [List.length_map]
      exact Nat.lt_of_le_of_lt (show _ ≤ 3 by omega) (by decide)
    have m9 : ((ks.map fun c => V.ref c.1) ++ fs.map fun m => V.ref m.col).length < sizeLine := by
      rw [List.length_append, List.length_map, List.length_map]
      exact Nat.lt_of_le_of_lt (show _ ≤ 1003 by omega) (by decide)
    refine ⟨_, rfl, .inl ⟨rfl, _, SqL.of S7.e1⟩, _, rfl, _, rfl, _, rfl, _, rfl, log_num (by omega), "f", _, rfl, rfl, fl, ?_⟩
    refine ⟨z3, fun t1 ht1 => ?_⟩
    have S8 := S7.new (o := .tup [.str op, tv, .str ("f" ++ Str.ofString (toString ((0 : Int) + (i : Nat))))]) ht1
    refine ⟨p1, _, _, rfl, rfl, S8.e1, m3, ?_⟩
    refine ⟨_, rfl, .inl ⟨rfl, _, SqL.of (by rw [upd_ne S8.ne.symm]; exact S8.e2)⟩, _, rfl, _, rfl, log_num (by omega), "f", _, rfl, rfl, fl, ?_⟩
    generalize ("f" : Str) ++ Str.ofString (toString ((0 : Int) + (i : Nat))) = z at fn S8 ⊢
    have fin : ∀ {H' : Hp} {t2 : Addr}, FSt H2 H' kf d s p1 p2 ks ns tl fs → FTold H' kf op tv k oe → H' t1 = some (.tup [.str op, tv, .str z]) → H' t2 = some (.tup [.str z, .str (kW (lateK op k))]) →
        FSt H2 (upd (upd H' p1 (.lst ((fs.map fun m => .ref m.det) ++ [.ref t1]))) p2 (.lst (((ks.map fun c => .ref c.1) ++ fs.map fun m => .ref m.col) ++ [.ref t2]))) kf d s p1 p2 ks ns tl (fs ++ [⟨t1, t2, op, tv, oe, k, z⟩]) := fun {H' t2} S T e1 e2 => S.add (m := ⟨t1, t2, op, tv, oe, k, z⟩) ⟨e1, e2, T, hop, fn⟩
    have T8 := T7.keep (H' := upd H7 t1 (.tup [.str op, tv, .str z])) fun a xs e => same_upd ht1 _ _ e
    have et1 : upd H7 t1 (.tup [.str op, tv, .str z]) t1 = some (.tup [.str op, tv, .str z]) := upd_same
    generalize upd H7 t1 (.tup [.str op, tv, .str z]) = H8 at S8 T8 et1 ⊢
    clear S7 T7 ht1
    refine ⟨_, rfl, z2, fun q3 hq3 => ?_⟩
    have nq3 : p1 ≠ q3 := ne_of_none upd_same hq3
    have hq3' : H8 q3 = none := by
      rw [upd_ne nq3.symm] at hq3
      exact hq3
    rw [upd_comm nq3]
    have S9 := S8.new (o := .tup [.str "least", .str "greatest"]) hq3'
    have T9 := T8.keep (H' := upd H8 q3 (.tup [.str "least", .str "greatest"])) fun a xs e => same_upd hq3' _ _ e
    have et9 := same_upd (o := .tup [.str "least", .str "greatest"]) hq3' _ _ et1
    have eq9 : upd (upd H8 q3 (.tup [.str "least", .str "greatest"])) p1 (.lst ((fs.map fun m => .ref m.det) ++ [.ref t1])) q3 = some (.tup [.str "least", .str "greatest"]) := by
      rw [upd_ne nq3.symm]
      exact upd_same
    refine ⟨q3, (["least", "greatest"] : List Str).map V.str, rfl, .inr (SqT.of eq9), rfl, flat_strs _, _, rfl, ?_⟩
    generalize upd H8 q3 (.tup [.str "least", .str "greatest"]) = H9 at S9 T9 et9 eq9 ⊢
    clear S8 T8 et1 hq3' hq3 nq3 eq9
    refine in_strs (fun hin => ⟨_, rfl, z2, fun t2 ht2 => ?_⟩) (fun hin => ⟨z2, fun t2 ht2 => ?_⟩)
    · have nt2 : p1 ≠ t2 := ne_of_none upd_same ht2
      have ht2' : H9 t2 = none := by
        rw [upd_ne nt2.symm] at ht2
        exact ht2
      rw [upd_comm nt2]
      have S10 := S9.new (o := .tup [.str z, .str (kW k)]) ht2'
      refine ⟨p2, _, _, rfl, rfl, by rw [upd_ne S10.ne.symm]; exact S10.e2, m9, ?_⟩
      have lk : lateK op k = k := if_pos hin
      exact ⟨_, _, _, _, _, _, _, _, rfl, fin S10 (T9.keep fun a xs e => same_upd ht2' _ _ e) (same_upd ht2' _ _ et9) (by rw [lk]; exact upd_same), by rw [List.length_append]; show fs.length + 1 ≤ i + 1; omega, fun _ h => by cases fs <;> cases h⟩
    · have nt2 : p1 ≠ t2 := ne_of_none upd_same ht2
      have ht2' : H9 t2 = none := by
        rw [upd_ne nt2.symm] at ht2
        exact ht2
      rw [upd_comm nt2]
      have S10 := S9.new (o := .tup [.str z, .str "int"]) ht2'
      refine ⟨p2, _, _, rfl, rfl, by rw [upd_ne S10.ne.symm]; exact S10.e2, m9, ?_⟩
      have lk : lateK op k = true := if_neg hin
      exact ⟨_, _, _, _, _, _, _, _, rfl, fin S10 (T9.keep fun a xs e => same_upd ht2' _ _ e) (same_upd ht2' _ _ et9) (by rw [lk]; exact upd_same), by rw [List.length_append]; show fs.length + 1 ≤ i + 1; omega, fun _ h => by cases fs <;> cases h⟩
  · rintro σ H3 ⟨y3, y6, y7, y8, y9, y10, y11, fs, rfl, S3, hl, hz⟩
    have hl3 : fs.length ≤ 3 := by omega
    have hfs : fs ≠ [] := hz (by omega)
    -- names
    obtain ⟨prs, eprs, enm⟩ : ∃ prs : List (Addr × Str), prs = (ks.map fun c => (c.1, c.2.1)) ++ fs.map (fun m => (m.col, m.name)) ∧ prs.map (·.2) = (ks.map fun c => c.2.1) ++ fs.map FCol.name := ⟨_, rfl, by rw [List.map_append, List.map_map, List.map_map]; rfl⟩
    have er : (ks.map fun c => V.ref c.1) ++ (fs.map fun m => V.ref m.col) = prs.map fun p => V.ref p.1 := by
      rw [eprs, List.map_append, List.map_map, List.map_map]
      rfl
    have lp : prs.length ≤ 1003 := by
      rw [eprs, List.length_append, List.length_map, List.length_map]
      omega
    have each : ∀ p ∈ prs, ∃ u, H3 p.1 = some (.tup [.str p.2, u]) := fun p hp => by
      rw [eprs] at hp
      rcases List.mem_append.mp hp with hp | hp
      · obtain ⟨c, hc, rfl⟩ := List.mem_map.mp hp
        exact ⟨_, (bC S3).each c (sub c hc)⟩
      · obtain ⟨m, hm, rfl⟩ := List.mem_map.mp hp
        exact ⟨_, (S3.each m hm).at_col⟩
    have e2 := S3.e2
    rw [er] at e2
    refine ⟨_, rfl, p2, rfl, ⟨_, SqL.of e2⟩, fun D4 hD4 => lc_list (K := K) (a := p2) (xs := prs.map fun p => .ref p.1) (fun i H' => Same H3 H' ∧ H' D4 = some (.lst (((prs.map (·.2)).take i).map V.str))) ⟨same_upd hD4, upd_same⟩ (fun i H' _ h => SqL.of (h.1 _ _ e2)) ?_ ?_⟩
    · rintro i x H' hx ⟨sm, e⟩
      rw [List.getElem?_map] at hx
      obtain ⟨p, hp, rfl⟩ := Option.map_eq_some_iff.mp hx
      obtain ⟨u, eu⟩ := each p (List.mem_of_getElem? hp)
      refine ⟨p.1, _, rfl, SqT.of (sm _ _ eu), rfl, _, _, rfl, _, _, rfl, rfl, rfl, _, rfl, _, e, ?_, fun b o' e' => ?_, ?_⟩
      · rw [List.length_map, List.length_take, List.length_map]
        exact Nat.lt_of_le_of_lt (show _ ≤ 1003 by omega) (by decide)
      · rw [upd_ne (ne_of_none e' hD4)]
        exact sm _ _ e'
      · have h1 : (prs.map (·.2)).take (i + 1) = (prs.map (·.2)).take i ++ [p.2] := by
          rw [List.take_add_one, List.getElem?_map, hp]
          rfl
        rw [h1, List.map_append]
        exact upd_same
    rintro H4 ⟨s4, e4⟩
    rw [List.length_map, List.take_of_length_le (by rw [List.length_map]; exact Nat.le_refl _), enm] at e4
    obtain ⟨n3, D3⟩ := S3.dr
    have S4 := S3.step (same_but s4) (D3.keep s4)
    clear each e2 er S3 D3 s4
    have ek : (((ks.map fun c => c.2.1) ++ fs.map FCol.name).map (fun x => (Sum.inr x : L2.Key))).map kV = ((ks.map fun c => c.2.1) ++ fs.map FCol.name).map V.str := by
      rw [List.map_map]
      rfl
    refine ⟨_, rfl, D4, ((ks.map fun c => c.2.1) ++ fs.map FCol.name).map (fun x => (Sum.inr x : L2.Key)), rfl, .inl (SqL.of (by rw [ek]; exact e4)), ?_, fun p M nM mM hp => ?_⟩
    · rw [List.length_map, List.length_append, List.length_map, List.length_map]
      omega
    have S5 := S4.new (o := Yk.SetKO P w p M) hp
    have e5 := same_upd (o := Yk.SetKO P w p M) hp _ _ e4
    have z1 : 1 ≤ sizeLine := by decide
    refine ⟨p, M, rfl, upd_same, _, rfl, D4, _, rfl, .inl (SqL.of e5), _, _, rfl, rfl, _, rfl, ite2 (fun c => ?_) (fun c => ?_)⟩
    · refine ⟨Nat.zero_le _, fun e0 h0 => ⟨z3, fun x hx => ⟨z1, fun y hy => ⟨z2, fun zt hzt => ⟨z2, fun wt hwt => ⟨z1, fun l hl => ⟨z2, fun rr hrr => ?_⟩⟩⟩⟩⟩⟩⟩
      have S12 := ((((((S5.new (o := .tup []) h0).new (o := .tup [.str "count", .non, .str "c"]) hx).new (o := .tup [.ref x]) hy).new (o := .tup [.ref e0, .ref y]) hzt).new (o := .tup [.str "c", .str "int"]) hwt).new (o := .lst [.ref wt]) hl).new (o := .tup [.ref zt, .ref l]) hrr
      obtain ⟨n12, D12⟩ := S12.dr
      have u1 := same_upd (o := .tup [.ref zt, .ref l]) hrr
      have u2 := (same_upd (o := .lst [.ref wt]) hl).trans u1
      have u3 := (same_upd (o := .tup [.str "c", .str "int"]) hwt).trans u2
      have u4 := (same_upd (o := .tup [.ref e0, .ref y]) hzt).trans u3
      have u5 := (same_upd (o := .tup [.ref x]) hy).trans u4
      have u6 := (same_upd (o := .tup [.str "count", .non, .str "c"]) hx).trans u5
      exact q rr zt e0 y l [] [⟨x, wt, "count", .non, none, true, "c"⟩] n12 _ upd_same (u3 _ _ upd_same) (u6 _ _ upd_same) (u4 _ _ upd_same) (u1 _ _ upd_same) (fun c hc => absurd hc List.not_mem_nil)
        (fun m hm => by
          rw [List.mem_singleton.mp hm]
          exact ⟨u5 _ _ upd_same, u2 _ _ upd_same, ⟨rfl, rfl, rfl⟩, (show ("count" : Str) ∈ folds6 by decide +kernel), (show ("c" : Str) ∈ fnames by decide +kernel)⟩) (List.nodup_cons.mpr ⟨List.not_mem_nil, List.nodup_nil⟩) (by intro z; cases z) (show 1 ≤ 3 by decide) (b2.trans S12.b) D12
    · have hnd : ((ks.map fun c => c.2.1) ++ fs.map FCol.name).Nodup := nodup_strs (len_nodup nM mM (by
        have h1 : ¬ ((M.length : Nat) : Int) < (((((ks.map fun c => c.2.1) ++ fs.map FCol.name).map V.str).length : Nat) : Int) := fun z => c (decide_eq_true z)
        rw [List.length_map] at h1 ⊢
        omega))
      have ek5 := e3 S5
      have C5 := bC S5
      obtain ⟨n5, D5⟩ := S5.dr
      refine ⟨_, rfl, pk, rfl, ⟨_, SqL.of ek5⟩, fun D6 hD6 => lc_list (K := K) (a := pk) (xs := ks.map fun c => .ref c.1) (fun i H' => Same (upd H4 p (Yk.SetKO P w p M)) H' ∧ H' D6 = some (.lst (((ks.map fun c => c.2.1).take i).map V.str))) ⟨same_upd hD6, upd_same⟩ (fun i H' _ h => SqL.of (h.1 _ _ ek5)) ?_ ?_⟩
      · rintro i x H' hx ⟨sm, e⟩
        rw [List.getElem?_map] at hx
        obtain ⟨p, hp, rfl⟩ := Option.map_eq_some_iff.mp hx
        have eu := C5.each p (sub p (List.mem_of_getElem? hp))
        refine ⟨p.1, _, rfl, SqT.of (sm _ _ eu), rfl, _, _, rfl, _, _, rfl, rfl, rfl, _, rfl, _, e, ?_, fun b o' e' => ?_, ?_⟩
        · rw [List.length_map, List.length_take, List.length_map]
          exact Nat.lt_of_le_of_lt (show _ ≤ 1003 by omega) (by decide)
        · rw [upd_ne (ne_of_none e' hD6)]
          exact sm _ _ e'
        · have h1 : (ks.map fun c => c.2.1).take (i + 1) = (ks.map fun c => c.2.1).take i ++ [p.2.1] := by
            rw [List.take_add_one, List.getElem?_map, hp]
            rfl
          rw [h1, List.map_append]
          exact upd_same
      rintro H6 ⟨s6, e6⟩
      rw [List.length_map, List.take_of_length_le (by rw [List.length_map]; exact Nat.le_refl _), List.map_map] at e6
      have S6 := S5.step (same_but s6) (D5.keep s6)
      refine ⟨D6, _, rfl, .inl ⟨SqL.of e6, fun kt hkt => ?_⟩⟩
      have S7 := S6.new (o := .tup (ks.map (V.str ∘ fun c => c.2.1))) hkt
      refine ⟨_, rfl, p1, _, rfl, .inl ⟨SqL.of S7.e1, fun ft hft => ?_⟩⟩
      have S8 := S7.new (o := .tup (fs.map fun m => .ref m.det)) hft
      refine ⟨z2, fun t ht => ⟨_, rfl, z2, fun rr hrr => ?_⟩⟩
      have S9 := (S8.new (o := .tup [.ref kt, .ref ft]) ht).new (o := .tup [.ref t, .ref p2]) hrr
      obtain ⟨n9, D9⟩ := S9.dr
      have u1 := same_upd (o := .tup [.ref t, .ref p2]) hrr
      have u2 := (same_upd (o := .tup [.ref kt, .ref ft]) ht).trans u1
      have u3 := (same_upd (o := .tup (fs.map fun m => .ref m.det)) hft).trans u2
      exact q rr t kt ft p2 ks fs n9 _ upd_same (u1 _ _ upd_same) (u3 _ _ upd_same) (u2 _ _ upd_same) S9.e2 sub S9.each hnd hfs hl3 (b2.trans S9.b) D9
end
end Kx

namespace Kx
open PySem PySem.Spec PyProof.Rows L2
abbrev s_law_join : Stmt := topS 68
abbrev NC : Type := Str × Bool
def colD (c : NC) : PyData := .tuple [.str c.1, .str (kW c.2)]
theorem kW_inj {a b : Bool} (h : kW a = kW b) : a = b := by
  cases a <;> cases b <;> first | rfl | (exfalso; revert h; decide +kernel)
theorem colD_eqv (a b : NC) : PyData.eqv (colD a) (colD b) = decide (a = b) := by
  show ((a.1 == b.1) && ((kW a.2 == kW b.2) && true)) = _
  rw [Bool.and_true]
  by_cases h : a = b
  · rw [h, decide_eq_true rfl, beq_self_eq_true, beq_self_eq_true]
    rfl
  · rw [decide_eq_false h]
    by_cases h1 : a.1 = b.1
    · have h2 : ¬ kW a.2 = kW b.2 := fun e => h (Prod.ext h1 (kW_inj e))
      rw [beq_eq_false_iff_ne.mpr h2, Bool.and_false]
    · rw [beq_eq_false_iff_ne.mpr h1]
      rfl
theorem any_col (c : NC) : ∀ l : List NC, (l.map colD).any (fun z => PyData.eqv z (colD c)) = decide (c ∈ l)
  | [] => by simp
  | a :: l => by
    rw [List.map_cons, List.any_cons, colD_eqv, any_col c l]
    by_cases h : a = c
    · simp [h]
    · have h' : ¬ c = a := fun e => h e.symm
      simp [h, h']
theorem colD_ok {c : NC} (h : PyData.canLay0 (.str c.1) = true) : PyData.canLay0 (colD c) = true := by
  show (PyData.canLay0 (.str c.1) && (PyData.canLay0 (.str (kW c.2)) && true)) = true
  rw [h]
  cases c.2 <;> decide +kernel
theorem colsD_ok : ∀ l : List NC, (∀ c ∈ l, PyData.canLay0 (.str c.1) = true) → PyData.canLayAll0 (l.map colD) = true
  | [], _ => rfl
  | c :: l, h => by
    show (PyData.canLay0 (colD c) && PyData.canLayAll0 (l.map colD)) = true
    rw [colD_ok (h c List.mem_cons_self), colsD_ok l fun x hx => h x (List.mem_cons_of_mem _ hx)]
    rfl
theorem colsD_dep : ∀ l : List NC, PyData.depthAll (l.map colD) ≤ 1
  | [] => Nat.zero_le _
  | c :: l => by
    show max (PyData.depth (colD c)) (PyData.depthAll (l.map colD)) ≤ 1
    exact Nat.max_le.mpr ⟨Nat.le_refl 1, colsD_dep l⟩
theorem colD_sh {c : NC} (h : PyData.canLay0 (.str c.1) = true) : SeqAt.shaped (colD c) = true := by
  show (PyData.canLay0 (colD c) && decide (PyData.depth (colD c) ≤ 64)) = true
  rw [colD_ok h]
  rfl
theorem colsD_sh {l : List NC} (h : ∀ c ∈ l, PyData.canLay0 (.str c.1) = true) : SeqAt.shaped (.list (l.map colD)) = true := by
  have d := colsD_dep l
  show (PyData.canLayAll0 (l.map colD) && decide (PyData.depthAll (l.map colD) + 1 ≤ 64)) = true
  rw [colsD_ok l h, decide_eq_true (by omega)]
  rfl
def PairsAt (H : Hp) (cl : List Col) : Prop := ∀ c ∈ cl, H c.1 = some (.tup [.str c.2.1, .str (kW c.2.2)])
theorem col_dp {K : PySem.W.Frag} {H : Hp} {c : Col} (h : H c.1 = some (.tup [.str c.2.1, .str (kW c.2.2)])) : Dp K H (.ref c.1) (colD c.2) := .tup (SqT.of h) (.cons (.str _) (.cons (.str _) .nil))
theorem cols_dpA {K : PySem.W.Frag} {H : Hp} : ∀ {cl : List Col}, PairsAt H cl → DpAll K H (cl.map fun c => .ref c.1) ((cl.map (·.2)).map colD)
  | [], _ => .nil
  | c :: cl, h => .cons (col_dp (h c List.mem_cons_self)) (cols_dpA fun x hx => h x (List.mem_cons_of_mem _ hx))
theorem cols_dp {K : PySem.W.Frag} {H : Hp} {a : Addr} {cl : List Col} (e : H a = some (.lst (cl.map fun c => .ref c.1))) (h : PairsAt H cl) : Dp K H (.ref a) (.list ((cl.map (·.2)).map colD)) := .lst (SqL.of e) (cols_dpA h)
/-- a table that the law knows: where its columns' list stands -/
structure Tab (H : Hp) (a : Addr) (cl : List Col) : Prop where
  cols : ColsAt H a cl
  nod : (cl.map fun c => c.2.1).Nodup
  inn : ∀ c ∈ cl, c.2.1 ∈ allNames
  ne : cl ≠ []
theorem Tab.few {H : Hp} {a : Addr} {cl : List Col} (T : Tab H a cl) : cl.length ≤ 24 := by
  have := few_names T.nod fun x hx => by
    obtain ⟨c, hc, rfl⟩ := List.mem_map.mp hx
    exact T.inn c hc
  rw [List.length_map] at this
  exact this
theorem all_ok : ∀ x ∈ allNames, PyData.canLay0 (.str x) = true := by decide +kernel
theorem Tab.keep {H H' : Hp} {a : Addr} {cl : List Col} (T : Tab H a cl) (h : Same H H') : Tab H' a cl := ⟨T.cols.keep h, T.nod, T.inn, T.ne⟩
theorem Tab.but {H H' : Hp} {a d s : Addr} {cl : List Col} {ns : List Int} {tl : List V} {n : Int} (T : Tab H a cl) (D : DrawAt H d s ns tl n) (h : But d H H') : Tab H' a cl := ⟨T.cols.but D h, T.nod, T.inn, T.ne⟩
/-- what the law knows: names, where their columns stand, the columns -/
abbrev Knw : Type := List (Str × Addr × List Col)
structure KnowsAt (H : Hp) (kd g : Addr) (kn : Knw) : Prop where
  at_k : H kd = some (.dK (kn.map fun e => (.inr e.1, .ref e.2.1)))
  tabs : ∀ e ∈ kn, Tab H e.2.1 e.2.2
  nod : (kn.map (·.1)).Nodup
  few : kn.length ≤ 40
  sizes : ∃ kvs : List (L2.Key × V), H g = some (.dK kvs) ∧ kvs.length ≤ 40 ∧ ∀ e ∈ kn, ∃ j : Int, valV kvs (.inr e.1) = some (.int j) ∧ 0 ≤ j ∧ j ≤ 400
  nms : ∀ e ∈ kn, PyData.canLay0 (.str e.1) = true
theorem KnowsAt.keep {H H' : Hp} {kd g : Addr} {kn : Knw} (k : KnowsAt H kd g kn) (h : Same H H') : KnowsAt H' kd g kn := by
  obtain ⟨kvs, h1, h2⟩ := k.sizes
  exact ⟨h _ _ k.at_k, fun e he => (k.tabs e he).keep h, k.nod, k.few, ⟨kvs, h _ _ h1, h2⟩, k.nms⟩
theorem KnowsAt.but {H H' : Hp} {kd g d s : Addr} {kn : Knw} {ns : List Int} {tl : List V} {n : Int} (k : KnowsAt H kd g kn) (D : DrawAt H d s ns tl n) (h : But d H H') : KnowsAt H' kd g kn := by
  obtain ⟨kvs, h1, h2⟩ := k.sizes
  have nd : ∀ {a : Addr} {q : List (L2.Key × V)}, H a = some (.dK q) → a ≠ d := fun e z => by
    rw [z, D.at_d] at e
    cases e
  exact ⟨h _ _ (nd k.at_k) k.at_k, fun e he => (k.tabs e he).but D h, k.nod, k.few, ⟨kvs, h _ _ (nd h1) h1, h2⟩, k.nms⟩
theorem val_key {α : Type} {f : α → V} {nm : α → Str} : ∀ {l : List α}, (l.map nm).Nodup → ∀ {e : α}, e ∈ l → valV (l.map fun e => ((.inr (nm e) : L2.Key), f e)) (.inr (nm e)) = some (f e)
  | [], _, e, h => absurd h List.not_mem_nil
  | x :: l, hn, e, h => by
    unfold valV
    rw [List.map_cons, List.find?_cons]
    by_cases hx : nm x = nm e
    · have hxe : x = e := by
        rcases List.mem_cons.mp h with rfl | h
        · rfl
        · exact absurd (by rw [hx]; exact List.mem_map.mpr ⟨e, h, rfl⟩) (List.nodup_cons.mp hn).1
      rw [decide_eq_true (show (Sum.inr (nm x) : L2.Key) = Sum.inr (nm e) by rw [hx]), hxe]
      rfl
    · rw [decide_eq_false (show ¬ (Sum.inr (nm x) : L2.Key) = Sum.inr (nm e) from fun z => hx (Sum.inr.inj z))]
      have hl : e ∈ l := by
        rcases List.mem_cons.mp h with rfl | h
        · exact absurd rfl hx
        · exact h
      exact val_key (List.nodup_cons.mp hn).2 hl
theorem KnowsAt.get {H : Hp} {kd g : Addr} {kn : Knw} (k : KnowsAt H kd g kn) {e : Str × Addr × List Col} (he : e ∈ kn) : DGet H kd (.str e.1) (some (.ref e.2.1)) := by
  have := val_key (f := fun e : Str × Addr × List Col => V.ref e.2.1) (nm := fun e => e.1) k.nod he
  exact this ▸ DGet.k (k := .inr e.1) k.at_k
def joinC (f s k : List NC) : List NC := k ++ (f.filter (fun c => decide (c ∉ k)) ++ s.filter fun c => decide (c ∉ k))
theorem filt_yes {P : Col → Bool} {cl : List Col} {i : Nat} {c : Col} (h : cl[i]? = some c) (hp : P c = true) : (cl.take (i + 1)).filter P = (cl.take i).filter P ++ [c] := by
  rw [take_at h, List.filter_append, List.filter_cons, hp]
  rfl
theorem filt_no {P : Col → Bool} {cl : List Col} {i : Nat} {c : Col} (h : cl[i]? = some c) (hp : P c = false) : (cl.take (i + 1)).filter P = (cl.take i).filter P := by
  rw [take_at h, List.filter_append, List.filter_cons, hp]
  show _ ++ [] = _
  rw [List.append_nil]
theorem filt_len {P : Col → Bool} (cl : List Col) : (cl.filter P).length ≤ cl.length := List.length_filter_le _ _
theorem cut_nat (xs : List V) (m : Nat) : cutV xs none (some (m : Int)) = xs.take m := by
  unfold cutV
  rw [HT.sIx_none, HT.sIx_nat, List.drop_zero, Nat.sub_zero]
  by_cases h : m ≤ xs.length
  · rw [Nat.min_eq_left h]
  · rw [Nat.min_eq_right (by omega), List.take_length, List.take_of_length_le (by omega)]
theorem room65 {k : Nat} {A : Around} (r : Room k A) : A.units + 65 < cLine := by
  have := r.un
  omega
section
variable {P : Program} {w : World} {K : PySem.W.Frag} {mg : Str → Option Value} {base : Heap}
/-! ### _law_join -/
abbrev N_law_join : List Str := ["draw", "known", "one", "other", "first", "second", "keys", "pair", "rest", "names", "name", "kind"]
def spJoin : Sp := fun vs H Q _ => ∃ (d s kd g : Addr) (kn : Knw) (one : Str) (a1 : Addr) (c1 : List Col) (ns : List Int) (n : Int), vs = [.ref d, .ref kd, .str one] ∧ DrawAt H d s ns [.ref g] n ∧ KnowsAt H kd g kn ∧ (one, a1, c1) ∈ kn ∧
  (∀ (r : Addr) (n' : Int) (H' : Hp), H' r = some (.tup [.non, .non]) → But d H H' → DrawAt H' d s ns [.ref g] n' → Q (.ref r) H') ∧
  ∀ (r t kt f a2 : Addr) (other : Str) (c2 ks cl : List Col) (n' : Int) (H' : Hp), H' r = some (.tup [.ref t, .ref f]) → H' t = some (.tup [.str other, .ref kt]) → H' kt = some (.tup (ks.map fun c => .str c.2.1)) → (other, a2, c2) ∈ kn → Tab H' f cl → ks ≠ [] →
    (∀ c ∈ ks, c ∈ c1 ∧ c.2 ∈ c2.map (·.2)) → cl.map (·.2) = joinC (c1.map (·.2)) (c2.map (·.2)) (ks.map (·.2)) → (∀ kvs x y, H g = some (.dK kvs) → valV kvs (.inr one) = some (.int x) → valV kvs (.inr other) = some (.int y) → x * y ≤ 400) → But d H H' → DrawAt H' d s ns [.ref g] n' → Q (.ref r) H'
theorem sc_join : FnScope N_law_join ["draw", "known", "one"] (defScope s_law_join) := ⟨rfl, rfl, rfl, by decide +kernel, rfl, by decide +kernel, by decide +kernel⟩
theorem ok_join {f : Addr} {fd : FuncData} (F : Fun K "_law_join" "_law_join" s_law_join f fd) (m_tuple : mg "tuple" = none) (m_len : mg "len" = none) (m_set : mg "set" = none) (m_sorted : mg "sorted" = none) (G_law_next : Ready P w K mg base 3 "_law_next" ["draw", "bound"] spNext) (G_law_pick : Ready P w K mg base 4 "_law_pick" ["draw", "things"] (spPick K)) :
    FnOk P w K mg base CX0 5 f fd ["draw", "known", "one"] spJoin := by
  refine F.ok sc_join (fun vs H Q E h => ?_) (fun cdv A outer s0 H vs Q E hr h => ?_)
  · obtain ⟨d, s, kd, g, kn, one, a1, c1, ns, n, rfl, _⟩ := h
    rfl
  obtain ⟨d, s, kd, g, kn, one, a1, c1, ns, n, rfl, D, KN, h1, q0, q⟩ := h
  have nd := sc_join.nd
  have hr4 : Room 4 _ := hr
  have hr3 : Room 3 _ := hr.mono (by omega)
  have hu64 : _ + 64 < cLine := hr.units
  have hu65 := room65 hr
  have hu1 : _ + 1 < cLine := Nat.lt_of_le_of_lt (Nat.add_le_add_left (by decide : 1 ≤ 64) _) hu64
  refine ⟨_, pss_cons (ps_set (i := 3) nd rfl (.inl rfl) (pe_fn (G_law_pick) hr4 (pa_cons (pv 0) (pa_cons (pe_callB (call_sortedD rfl) (by rfl) m_sorted (by decide +kernel) (pa_cons (pv 1) pa_nil)) pa_nil))))
      (pss_cons (ps_if (pt_cmpR op_gt (pe_op op_mul (pe_dget hu1 (pe_ix (show IxR _ (rIxL K) from ix_list) (pv 0) pe_int (fun _ _ => rfl)) (pv 2) (fun _ _ => rfl)) (pe_dget hu1 (pe_ix (show IxR _ (rIxL K) from ix_list) (pv 0) pe_int (fun _ _ => rfl)) (pv 3) (fun _ _ => rfl))) pe_int (nomark _)) (pss_one (ps_ret (pe_tup (pa_cons pe_non (pa_cons pe_non pa_nil))))) (pss_nil))
      (pss_cons (ps_asg (pe_tup (pa_cons (pe_dget hu1 (pv 1) (pv 2) (fun _ _ => rfl)) (pa_cons (pe_dget hu1 (pv 1) (pv 3) (fun _ _ => rfl)) pa_nil))) (pg_tup rfl (pgs_cons (pg_name (i := 4) nd rfl (.inl rfl)) (pgs_cons (pg_name (i := 5) nd rfl (.inr rfl)) pgs_nil))))
      (pss_cons (ps_set (i := 6) nd rfl (.inr rfl) (pe_slice sl_list (pe_lc (own := [("pair", 7)]) (g := gName 7) (tt := tTest (tOp (rInD K) (tVar 7) (tVar 5))) rfl nd (pi_list (pv 4)) (blkOk_by (N := N_law_join) (sc := defScope s_law_join) (by decide +kernel)) (fun _ _ _ _ _ => pg_name (i := 7) nd rfl (Or.inl rfl)) (fun _ _ _ _ _ => pts_one (pt_cmpR (op_inD hu65) (pv 7) (pv 5) rfl)) (fun _ _ _ _ _ => (pv 7))) po_none (po_some (pe_op op_add pe_int (pe_fn (G_law_next) hr3 (pa_cons (pv 0) (pa_cons pe_int pa_nil)))))))
      (pss_cons (ps_set (i := 8) nd rfl (.inl rfl) (pe_op op_cat (pe_lc (own := [("pair", 7)]) (g := gName 7) (tt := tTest (tOp (rNotInD K) (tVar 7) (tVar 6))) rfl nd (pi_list (pv 4)) (blkOk_by (N := N_law_join) (sc := defScope s_law_join) (by decide +kernel)) (fun _ _ _ _ _ => pg_name (i := 7) nd rfl (Or.inl rfl)) (fun _ _ _ _ _ => pts_one (pt_cmpR (op_notInD hu65) (pv 7) (pv 6) rfl)) (fun _ _ _ _ _ => (pv 7))) (pe_lc (own := [("pair", 7)]) (g := gName 7) (tt := tTest (tOp (rNotInD K) (tVar 7) (tVar 6))) rfl nd (pi_list (pv 5)) (blkOk_by (N := N_law_join) (sc := defScope s_law_join) (by decide +kernel)) (fun _ _ _ _ _ => pg_name (i := 7) nd rfl (Or.inl rfl)) (fun _ _ _ _ _ => pts_one (pt_cmpR (op_notInD hu65) (pv 7) (pv 6) rfl)) (fun _ _ _ _ _ => (pv 7)))))
      (pss_cons (ps_setLc (i := 9) (own := [("name", 10), ("kind", 11)]) (g := (gTup K 2 (gCons (gName 10) (gCons (gName 11) gNil)))) (tt := tYes) rfl nd rfl rfl (sw_true rfl rfl rfl (by decide +kernel)) (pi_list (pe_op op_cat (pv 6) (pv 8))) (blkOk_by (N := N_law_join) (sc := defScope s_law_join) (by decide +kernel)) (fun _ _ _ _ _ => pg_tup rfl (pgs_cons (pg_name (i := 10) nd rfl (.inl rfl)) (pgs_cons (pg_name (i := 11) nd rfl (.inl rfl)) pgs_nil))) (fun _ _ _ _ _ => pts_nil) (fun _ _ _ _ _ => (pv 10)))
      (pss_cons (ps_if (PW.pt (pw_or (pt_cmpR (op_eqD hu64) (pv 6) (pe_lst pa_nil) (nomark _)) (pw_or1 (pt_cmpR op_lt (pe_callB cr_lenK (by rfl) m_len PySem.boot_len (pa_cons (pe_callTy (Yk.cr_setK rfl) (by rfl) m_set PyProof.Rows.boot_set (pa_cons (pv 9) pa_nil)) pa_nil)) (pe_callB call_len_seq (by rfl) m_len PySem.boot_len (pa_cons (pv 9) pa_nil)) (nomark _))))) (pss_one (ps_ret (pe_tup (pa_cons pe_non (pa_cons pe_non pa_nil))))) (pss_nil))
      (pss_one (ps_ret (pe_tup (pa_cons (pe_tup (pa_cons (pv 3) (pa_cons (pe_callTy call_tuple_of (by rfl) m_tuple PyProof.Rows.boot_tuple (pa_cons (pe_lc (own := [("name", 10), ("kind", 11)]) (g := (gTup K 2 (gCons (gName 10) (gCons (gName 11) gNil)))) (tt := tYes) rfl nd (pi_list (pv 6)) (blkOk_by (N := N_law_join) (sc := defScope s_law_join) (by decide +kernel)) (fun _ _ _ _ _ => pg_tup rfl (pgs_cons (pg_name (i := 10) nd rfl (.inl rfl)) (pgs_cons (pg_name (i := 11) nd rfl (.inl rfl)) pgs_nil))) (fun _ _ _ _ _ => pts_nil) (fun _ _ _ _ _ => (pv 10))) pa_nil)) pa_nil))) (pa_cons (pe_op op_cat (pv 6) (pv 8)) pa_nil))))))))))), ?_⟩
  have z2 : 2 ≤ sizeLine := by decide
  obtain ⟨kvs, eg, lkv, hsz⟩ := KN.sizes
  -- other
  refine ⟨_, rfl, _, rfl, kd, _, kn.map (·.1), rfl, .inl KN.at_k, (by rw [List.map_map, List.map_map]; rfl), (by rw [List.length_map]; have := KN.few; omega), fun ys p pm _ hp => ?_⟩
  have sp := same_upd (o := .lst (ys.map V.str)) hp
  refine ⟨d, s, p, ns, [.ref g], n, ys.map V.str, rfl, D.keep sp, (ne_of_none D.at_d hp).symm, .inl (SqL.of upd_same), ?_, fun v H1 hv b1 D1 => ?_⟩
  · intro z
    have h0 : ys = [] := List.map_eq_nil_iff.mp z
    rw [h0] at pm
    have h2 := pm.nil_eq
    rw [List.map_eq_nil_iff.mp h2.symm] at h1
    exact absurd h1 List.not_mem_nil
  obtain ⟨other, ho, rfl⟩ := mem_strs hv
  obtain ⟨e2, he2, rfl⟩ := List.mem_map.mp (pm.mem_iff.mp ho)
  obtain ⟨other, a2, c2⟩ := e2
  have b01 : But d H H1 := (same_but sp).trans b1
  have KN1 := KN.but D b01
  obtain ⟨j1, g1, j10, j11⟩ := hsz _ h1
  obtain ⟨j2, g2, j20, j21⟩ := hsz _ he2
  have ng : g ≠ d := fun z => by
    rw [z, D.at_d] at eg
    cases eg
  have eg1 := b01 _ _ ng eg
  have gt1 : DGet H1 g (.str one) (some (.int j1)) := g1 ▸ DGet.k (k := .inr one) eg1
  have gt2 : DGet H1 g (.str other) (some (.int j2)) := g2 ▸ DGet.k (k := .inr other) eg1
  clear hv pm ho sp hp b1
  -- sizes
  refine ⟨_, rfl, d, _, 3, _, rfl, rfl, SqL.of D1.at_d, at3, _, rfl, g, _, rfl, gt1, _, rfl, d, _, 3, _, rfl, rfl, SqL.of D1.at_d, at3, _, rfl, g, _, rfl, gt2, _, _, rfl, rfl, ?_, ?_⟩
  · have p0 := Int.mul_nonneg j10 j20
    have p1 : j1 * j2 ≤ 400 * 400 := Int.mul_le_mul j11 j21 j20 (by decide)
    exact .inl (by show _ ∧ _; omega)
  refine ⟨_, _, rfl, rfl, _, rfl, ite2 (fun c => ⟨z2, fun r hr => q0 r _ _ upd_same (b01.trans (same_but (same_upd hr))) (D1.keep (same_upd hr))⟩) (fun c => ?_)⟩
  have j12 : j1 * j2 ≤ 400 := by
    rcases Int.lt_or_le 400 (j1 * j2) with z | z
    · exact absurd (decide_eq_true z) c
    · exact z
  refine ⟨_, rfl, _, rfl, kd, _, rfl, KN1.get h1, _, rfl, _, rfl, kd, _, rfl, KN1.get he2, z2, fun t0 ht0 => ⟨t0, _, rfl, SqT.of upd_same, rfl, _, _, rfl, _, _, rfl, rfl, ?_⟩⟩
  have u0 := same_upd (o := .tup [.ref a1, .ref a2]) ht0
  replace KN1 := KN1.keep u0
  replace b01 := b01.trans (same_but (d := d) u0)
  replace D1 := D1.keep u0
  clear gt1 gt2 eg1 u0
  dsimp only at KN1 b01 D1 ⊢
  generalize upd H1 t0 (.tup [.ref a1, .ref a2]) = H3 at KN1 b01 D1 ⊢
  have T1 := KN1.tabs _ h1
  have T2 := KN1.tabs _ he2
  dsimp only at T1 T2 ⊢
  -- keys
  refine ⟨_, rfl, a1, rfl, ⟨_, SqL.of T1.cols.all⟩, fun D2 hD2 => ?_⟩
  refine lc_list (K := K) (a := a1) (xs := c1.map fun c => .ref c.1) (fun i H' => Same H3 H' ∧ H' D2 = some (.lst (((c1.take i).filter (fun c : Col => decide (c.2 ∈ c2.map (·.2)))).map fun c => .ref c.1))) ⟨same_upd hD2, upd_same⟩ (fun i H' _ h => SqL.of (h.1 _ _ T1.cols.all)) ?_ ?_
  · rintro i x H' hx ⟨sm, e⟩
    rw [List.getElem?_map] at hx
    obtain ⟨c, hc, rfl⟩ := Option.map_eq_some_iff.mp hx
    have cm := List.mem_of_getElem? hc
    refine ⟨rfl, _, rfl, _, rfl, colD c.2, _, col_dp (sm _ _ (T1.cols.each c cm)), cols_dp (sm _ _ T2.cols.all) (fun c hc => sm _ _ (T2.cols.each c hc)), colD_sh (T1.cols.ok c cm), colsD_sh (fun z hz => by
      obtain ⟨c, hc, rfl⟩ := List.mem_map.mp hz
      exact T2.cols.ok c hc), _, rfl, ?_⟩
    rw [any_col]
    have lf : (((c1.take i).filter (fun c : Col => decide (c.2 ∈ c2.map (·.2)))).map fun c => V.ref c.1).length < sizeLine := by
      rw [List.length_map]
      have h1 := filt_len (P := (fun c : Col => decide (c.2 ∈ c2.map (·.2)))) (c1.take i)
      have h2 : (c1.take i).length ≤ c1.length := by rw [List.length_take]; omega
      have h3 := T1.few
      exact Nat.lt_of_le_of_lt (show _ ≤ 24 by omega) (by decide)
    refine ite2 (fun cc => ⟨_, rfl, _, e, lf, fun b o e' => ?_, ?_⟩) (fun cc => ⟨sm, ?_⟩)
    · rw [upd_ne (ne_of_none e' hD2)]
      exact sm _ _ e'
    · rw [filt_yes hc (by simpa using cc), List.map_append]
      exact upd_same
    · rw [filt_no hc (by simpa using cc)]
      exact e
  rintro H4 ⟨s4, e4⟩
  rw [List.length_map, List.take_length] at e4
  have n2 : D2 ≠ d := (ne_of_none D1.at_d hD2).symm
  have D4 := D1.keep s4
  refine ⟨_, rfl, d, s, ns, [.ref g], _, 2, rfl, D4, by decide, fun r H5 r0 r1 b5 D5 => ?_⟩
  refine ⟨_, _, rfl, rfl, _, rfl, D2, _, rfl, SqL.of (b5 _ _ n2 e4), fun pk hpk => ?_⟩
  obtain ⟨m, rfl⟩ := Int.eq_ofNat_of_zero_le r0
  have e1m : (1 : Int) + (m : Int) = ((1 + m : Nat) : Int) := by omega
  rw [e1m, cut_nat, ← List.map_take]
  obtain ⟨ks, eks⟩ : ∃ ks, ks = (c1.filter (fun c : Col => decide (c.2 ∈ c2.map (·.2)))).take (1 + m) := ⟨_, rfl⟩
  rw [← eks]
  have hks : ∀ c ∈ ks, c ∈ c1 ∧ c.2 ∈ c2.map (·.2) := fun c hc => by
    rw [eks] at hc
    have h2 := List.mem_filter.mp (List.mem_of_mem_take hc)
    exact ⟨h2.1, of_decide_eq_true h2.2⟩
  have lks : ks.length ≤ 2 := by
    rw [eks, List.length_take]
    omega
  have b35 : But d H3 (upd H5 pk (.lst (ks.map fun c => .ref c.1))) := ((same_but s4).trans b5).trans (same_but (same_upd hpk))
  have D6 := D5.keep (same_upd (o := .lst (ks.map fun c => .ref c.1)) hpk)
  have epk : upd H5 pk (.lst (ks.map fun c => .ref c.1)) pk = some (.lst (ks.map fun c => .ref c.1)) := upd_same
  generalize upd H5 pk (.lst (ks.map fun c => .ref c.1)) = H6 at b35 D6 epk ⊢
  replace T1 := T1.but D1 b35
  replace T2 := T2.but D1 b35
  replace KN1 := KN1.but D1 b35
  replace b01 := b01.trans b35
  clear D4 s4 e4 b5 D5 hpk hD2 n2 b35 D1 eks
  have ksA : PairsAt H6 ks := fun c hc => T1.cols.each c (hks c hc).1
  have ksO : ∀ z ∈ ks.map (·.2), PyData.canLay0 (.str z.1) = true := fun z hz => by
    obtain ⟨c, hc, rfl⟩ := List.mem_map.mp hz
    exact T1.cols.ok c (hks c hc).1
  -- rest
  refine ⟨_, rfl, a1, rfl, ⟨_, SqL.of T1.cols.all⟩, fun DA hDA => ?_⟩
  refine lc_list (K := K) (a := a1) (xs := c1.map fun c => .ref c.1) (fun i H' => Same H6 H' ∧ H' DA = some (.lst (((c1.take i).filter (fun c : Col => decide (c.2 ∉ ks.map (·.2)))).map fun c => .ref c.1))) ⟨same_upd hDA, upd_same⟩ (fun i H' _ h => SqL.of (h.1 _ _ T1.cols.all)) ?_ ?_
  · rintro i x H' hx ⟨sm, e⟩
    rw [List.getElem?_map] at hx
    obtain ⟨c, hc, rfl⟩ := Option.map_eq_some_iff.mp hx
    have cm := List.mem_of_getElem? hc
    refine ⟨rfl, _, rfl, _, rfl, colD c.2, _, col_dp (sm _ _ (T1.cols.each c cm)), cols_dp (sm _ _ epk) (fun c hc => sm _ _ (ksA c hc)), colD_sh (T1.cols.ok c cm), colsD_sh ksO, _, rfl, ?_⟩
    rw [any_col]
    have lf : (((c1.take i).filter (fun c : Col => decide (c.2 ∉ ks.map (·.2)))).map fun c => V.ref c.1).length < sizeLine := by
      rw [List.length_map]
      have h1 := filt_len (P := (fun c : Col => decide (c.2 ∉ ks.map (·.2)))) (c1.take i)
      have h2 : (c1.take i).length ≤ c1.length := by rw [List.length_take]; omega
      have h3 := T1.few
      exact Nat.lt_of_le_of_lt (show _ ≤ 24 by omega) (by decide)
    refine ite2 (fun cc => ⟨_, rfl, _, e, lf, fun b o e' => ?_, ?_⟩) (fun cc => ⟨sm, ?_⟩)
    · rw [upd_ne (ne_of_none e' hDA)]
      exact sm _ _ e'
    · rw [filt_yes hc (by simpa using cc), List.map_append]
      exact upd_same
    · rw [filt_no hc (by simpa using cc)]
      exact e
  rintro H7 ⟨s7, eA⟩
  rw [List.length_map, List.take_length] at eA
  replace T1 := T1.keep s7
  replace T2 := T2.keep s7
  replace b01 := b01.trans (same_but (d := d) s7)
  replace epk := s7 _ _ epk
  replace ksA : PairsAt H7 ks := fun c hc => s7 _ _ (ksA c hc)
  replace D6 := D6.keep s7
  clear s7 hDA KN1
  refine ⟨_, rfl, a2, rfl, ⟨_, SqL.of T2.cols.all⟩, fun DB hDB => ?_⟩
  refine lc_list (K := K) (a := a2) (xs := c2.map fun c => .ref c.1) (fun i H' => Same H7 H' ∧ H' DB = some (.lst (((c2.take i).filter (fun c : Col => decide (c.2 ∉ ks.map (·.2)))).map fun c => .ref c.1))) ⟨same_upd hDB, upd_same⟩ (fun i H' _ h => SqL.of (h.1 _ _ T2.cols.all)) ?_ ?_
  · rintro i x H' hx ⟨sm, e⟩
    rw [List.getElem?_map] at hx
    obtain ⟨c, hc, rfl⟩ := Option.map_eq_some_iff.mp hx
    have cm := List.mem_of_getElem? hc
    refine ⟨rfl, _, rfl, _, rfl, colD c.2, _, col_dp (sm _ _ (T2.cols.each c cm)), cols_dp (sm _ _ epk) (fun c hc => sm _ _ (ksA c hc)), colD_sh (T2.cols.ok c cm), colsD_sh ksO, _, rfl, ?_⟩
    rw [any_col]
    have lf : (((c2.take i).filter (fun c : Col => decide (c.2 ∉ ks.map (·.2)))).map fun c => V.ref c.1).length < sizeLine := by
      rw [List.length_map]
      have h1 := filt_len (P := (fun c : Col => decide (c.2 ∉ ks.map (·.2)))) (c2.take i)
      have h2 : (c2.take i).length ≤ c2.length := by rw [List.length_take]; omega
      have h3 := T2.few
      exact Nat.lt_of_le_of_lt (show _ ≤ 24 by omega) (by decide)
    refine ite2 (fun cc => ⟨_, rfl, _, e, lf, fun b o e' => ?_, ?_⟩) (fun cc => ⟨sm, ?_⟩)
    · rw [upd_ne (ne_of_none e' hDB)]
      exact sm _ _ e'
    · rw [filt_yes hc (by simpa using cc), List.map_append]
      exact upd_same
    · rw [filt_no hc (by simpa using cc)]
      exact e
  rintro H8 ⟨s8, eB⟩
  rw [List.length_map, List.take_length] at eB
  replace T1 := T1.keep s8
  replace T2 := T2.keep s8
  replace b01 := b01.trans (same_but (d := d) s8)
  replace epk := s8 _ _ epk
  replace ksA : PairsAt H8 ks := fun c hc => s8 _ _ (ksA c hc)
  replace D6 := D6.keep s8
  replace eA := s8 _ _ eA
  clear s8 hDB
  obtain ⟨lA, elA⟩ : ∃ l, l = c1.filter (fun c : Col => decide (c.2 ∉ ks.map (·.2))) := ⟨_, rfl⟩
  obtain ⟨lB, elB⟩ : ∃ l, l = c2.filter (fun c : Col => decide (c.2 ∉ ks.map (·.2))) := ⟨_, rfl⟩
  rw [← elA] at eA
  rw [← elB] at eB
  have lnA : lA.length ≤ 24 := by
    rw [elA]
    exact Nat.le_trans (filt_len _) T1.few
  have lnB : lB.length ≤ 24 := by
    rw [elB]
    exact Nat.le_trans (filt_len _) T2.few
  have s50 : ∀ {n : Nat}, n ≤ 50 → n ≤ sizeLine := fun h => Nat.le_trans h (by decide)
  have s50' : ∀ {n : Nat}, n ≤ 50 → n < sizeLine := fun h => Nat.lt_of_le_of_lt h (by decide)
  refine ⟨DA, DB, _, _, rfl, rfl, eA, eB, (by rw [List.length_map, List.length_map]; exact s50 (by omega)), fun pr hpr => ?_⟩
  rw [← List.map_append]
  have allA : PairsAt H8 (ks ++ (lA ++ lB)) := fun c hc => by
    rcases List.mem_append.mp hc with hc | hc
    · exact ksA c hc
    rcases List.mem_append.mp hc with hc | hc
    · rw [elA] at hc
      exact T1.cols.each c (List.mem_filter.mp hc).1
    · rw [elB] at hc
      exact T2.cols.each c (List.mem_filter.mp hc).1
  have inn : ∀ c ∈ ks ++ (lA ++ lB), c.2.1 ∈ allNames := fun c hc => by
    rcases List.mem_append.mp hc with hc | hc
    · exact T1.inn c (hks c hc).1
    rcases List.mem_append.mp hc with hc | hc
    · rw [elA] at hc
      exact T1.inn c (List.mem_filter.mp hc).1
    · rw [elB] at hc
      exact T2.inn c (List.mem_filter.mp hc).1
  have s9 := same_upd (o := .lst ((lA ++ lB).map fun c => .ref c.1)) hpr
  have epr : upd H8 pr (.lst ((lA ++ lB).map fun c => .ref c.1)) pr = some (.lst ((lA ++ lB).map fun c => .ref c.1)) := upd_same
  generalize upd H8 pr (.lst ((lA ++ lB).map fun c => .ref c.1)) = H9 at s9 epr ⊢
  replace b01 := b01.trans (same_but (d := d) s9)
  replace epk := s9 _ _ epk
  replace D6 := D6.keep s9
  replace allA : PairsAt H9 (ks ++ (lA ++ lB)) := fun c hc => s9 _ _ (allA c hc)
  clear s9 hpr eA eB ksA T1 T2
  have lall : (ks ++ (lA ++ lB)).length ≤ 50 := by
    rw [List.length_append, List.length_append]
    omega
  have lcat : (ks.map fun c => V.ref c.1).length + ((lA ++ lB).map fun c => V.ref c.1).length ≤ sizeLine := by
    rw [List.length_map, List.length_map, ← List.length_append]
    exact s50 lall
  -- names
  refine ⟨_, rfl, _, rfl, pk, pr, _, _, rfl, rfl, epk, epr, lcat, fun pn hpn => ?_⟩
  rw [← List.map_append]
  have sn := same_upd (o := .lst ((ks ++ (lA ++ lB)).map fun c => .ref c.1)) hpn
  have epn : upd H9 pn (.lst ((ks ++ (lA ++ lB)).map fun c => .ref c.1)) pn = some (.lst ((ks ++ (lA ++ lB)).map fun c => .ref c.1)) := upd_same
  generalize upd H9 pn (.lst ((ks ++ (lA ++ lB)).map fun c => .ref c.1)) = H10 at sn epn ⊢
  refine ⟨pn, rfl, ⟨_, SqL.of epn⟩, fun DN hDN => lc_list (K := K) (a := pn) (xs := (ks ++ (lA ++ lB)).map fun c => .ref c.1) (fun i H' => Same H10 H' ∧ H' DN = some (.lst ((((ks ++ (lA ++ lB)).map fun c => c.2.1).take i).map V.str))) ⟨same_upd hDN, upd_same⟩ (fun i H' _ h => SqL.of (h.1 _ _ epn)) ?_ ?_⟩
  · rintro i x H' hx ⟨sm, e⟩
    rw [List.getElem?_map] at hx
    obtain ⟨p, hp, rfl⟩ := Option.map_eq_some_iff.mp hx
    have eu := sn _ _ (allA p (List.mem_of_getElem? hp))
    refine ⟨p.1, _, rfl, SqT.of (sm _ _ eu), rfl, _, _, rfl, _, _, rfl, rfl, rfl, _, rfl, _, e, ?_, fun b o' e' => ?_, ?_⟩
    · rw [List.length_map, List.length_take, List.length_map]
      exact s50' (by omega)
    · rw [upd_ne (ne_of_none e' hDN)]
      exact sm _ _ e'
    · have h1 : ((ks ++ (lA ++ lB)).map fun c => c.2.1).take (i + 1) = ((ks ++ (lA ++ lB)).map fun c => c.2.1).take i ++ [p.2.1] := by
        rw [List.take_add_one, List.getElem?_map, hp]
        rfl
      rw [h1, List.map_append (f := V.str)]
      exact upd_same
  rintro H11 ⟨s11, e11⟩
  rw [List.length_map, List.take_of_length_le (by rw [List.length_map]; exact Nat.le_refl _)] at e11
  replace s11 := sn.trans s11
  replace b01 := b01.trans (same_but (d := d) s11)
  replace epk := s11 _ _ epk
  replace epr := s11 _ _ epr
  replace D6 := D6.keep s11
  replace allA : PairsAt H11 (ks ++ (lA ++ lB)) := fun c hc => s11 _ _ (allA c hc)
  clear s11 hDN sn epn hpn
  -- the test
  refine ⟨_, rfl, Nat.zero_le _, fun p0 hp0 => ?_⟩
  have s12 := same_upd (o := .lst []) hp0
  have e0 : upd H11 p0 (.lst []) p0 = some (.lst []) := upd_same
  generalize upd H11 p0 (.lst []) = H12 at s12 e0 ⊢
  replace b01 := b01.trans (same_but (d := d) s12)
  replace epk := s12 _ _ epk
  replace epr := s12 _ _ epr
  replace e11 := s12 _ _ e11
  replace D6 := D6.keep s12
  replace allA : PairsAt H12 (ks ++ (lA ++ lB)) := fun c hc => s12 _ _ (allA c hc)
  clear s12 hp0
  refine ⟨_, _, cols_dp epk (fun c hc => allA c (List.mem_append_left _ hc)), .lst (SqL.of e0) .nil, colsD_sh ksO, by decide, _, rfl, ite2 (fun c => iteT ⟨z2, fun r hr => q0 r _ _ upd_same (b01.trans (same_but (same_upd hr))) (D6.keep (same_upd hr))⟩) (fun cne => ?_)⟩
  have hne : ks ≠ [] := fun z => by
    rw [z] at cne
    exact cne rfl
  have ek : (((ks ++ (lA ++ lB)).map fun c => c.2.1).map (fun x => (Sum.inr x : L2.Key))).map kV = ((ks ++ (lA ++ lB)).map fun c => c.2.1).map V.str := by
    rw [List.map_map]
    rfl
  refine ⟨_, rfl, DN, ((ks ++ (lA ++ lB)).map fun c => c.2.1).map (fun x => (Sum.inr x : L2.Key)), rfl, .inl (SqL.of (by rw [ek]; exact e11)), ?_, fun p M nM mM hp => ?_⟩
  · rw [List.length_map, List.length_map]
    omega
  have s13 := same_upd (o := Yk.SetKO P w p M) hp
  refine ⟨p, M, rfl, upd_same, _, rfl, DN, _, rfl, .inl (SqL.of (s13 _ _ e11)), _, _, rfl, rfl, _, rfl, ite2 (fun c => ?_) (fun c => ?_)⟩
  · exact ⟨z2, fun r hr => q0 r _ _ upd_same ((b01.trans (same_but s13)).trans (same_but (same_upd hr))) ((D6.keep s13).keep (same_upd hr))⟩
  have hnd : ((ks ++ (lA ++ lB)).map fun c => c.2.1).Nodup := nodup_strs (len_nodup nM mM (by
    have h1 : ¬ ((M.length : Nat) : Int) < (((((ks ++ (lA ++ lB)).map fun c => c.2.1).map V.str).length : Nat) : Int) := fun z => c (decide_eq_true z)
    rw [List.length_map] at h1 ⊢
    omega))
  refine ⟨_, rfl, _, rfl, pk, rfl, ⟨_, SqL.of (s13 _ _ epk)⟩, fun D7 hD7 => lc_list (K := K) (a := pk) (xs := ks.map fun c => .ref c.1) (fun i H' => Same (upd H12 p (Yk.SetKO P w p M)) H' ∧ H' D7 = some (.lst (((ks.map fun c => c.2.1).take i).map V.str))) ⟨same_upd hD7, upd_same⟩ (fun i H' _ h => SqL.of (h.1 _ _ (s13 _ _ epk))) ?_ ?_⟩
  · rintro i x H' hx ⟨sm, e⟩
    rw [List.getElem?_map] at hx
    obtain ⟨p', hp', rfl⟩ := Option.map_eq_some_iff.mp hx
    have eu := s13 _ _ (allA p' (List.mem_append_left _ (List.mem_of_getElem? hp')))
    refine ⟨p'.1, _, rfl, SqT.of (sm _ _ eu), rfl, _, _, rfl, _, _, rfl, rfl, rfl, _, rfl, _, e, ?_, fun b o' e' => ?_, ?_⟩
    · rw [List.length_map, List.length_take, List.length_map]
      exact s50' (by omega)
    · rw [upd_ne (ne_of_none e' hD7)]
      exact sm _ _ e'
    · have h1 : (ks.map fun c => c.2.1).take (i + 1) = (ks.map fun c => c.2.1).take i ++ [p'.2.1] := by
        rw [List.take_add_one, List.getElem?_map, hp']
        rfl
      rw [h1, List.map_append]
      exact upd_same
  rintro H14 ⟨s14, e14⟩
  rw [List.length_map, List.take_of_length_le (by rw [List.length_map]; exact Nat.le_refl _), List.map_map] at e14
  refine ⟨D7, _, rfl, .inl ⟨SqL.of e14, fun kt hkt => ⟨z2, fun t ht => ?_⟩⟩⟩
  have s15 := ((s13.trans s14).trans (same_upd (o := .tup (ks.map (V.str ∘ fun c => c.2.1))) hkt)).trans (same_upd (o := .tup [.str other, .ref kt]) ht)
  refine ⟨_, rfl, _, rfl, pk, pr, _, _, rfl, rfl, s15 _ _ epk, s15 _ _ epr, lcat, fun f' hf' => ⟨z2, fun r hr => ?_⟩⟩
  rw [← List.map_append] at hr ⊢
  have v1 := same_upd (o := .tup [.ref t, .ref f']) hr
  have v2 := (same_upd (o := .lst ((ks ++ (lA ++ lB)).map fun c => .ref c.1)) hf').trans v1
  have v3 := (same_upd (o := .tup [.str other, .ref kt]) ht).trans v2
  have v4 := s15.trans v2
  refine q r t kt f' a2 other c2 ks (ks ++ (lA ++ lB)) _ _ upd_same (v2 _ _ upd_same) (v3 _ _ upd_same) he2 ⟨⟨v1 _ _ upd_same, fun c hc => v4 _ _ (allA c hc), by omega, fun c hc => all_ok _ (inn c hc)⟩, hnd, inn, fun z => hne (List.append_eq_nil_iff.mp z).1⟩ hne hks ?_ (fun kvs' x y hg hx hy => ?_) (b01.trans (same_but v4)) (D6.keep v4)
  · unfold joinC
    rw [List.map_append, List.map_append, elA, elB, List.filter_map, List.filter_map]
    rfl
  · rw [eg] at hg
    cases hg
    rw [g1] at hx
    rw [g2] at hy
    cases hx
    cases hy
    exact j12
end
end Kx

set_option maxHeartbeats 8000000
namespace Kx
open PySem PySem.Spec PyProof.Rows L2
abbrev s_law_step : Stmt := topS 70
/-! ### jobs as data -/
abbrev MC : Type := Ex × Bool × Str
abbrev FC : Type := Str × Option Ex × Bool × Str
inductive Det where
  | read (cs : List NC)
  | filter (e : Ex)
  | map (ms : List MC)
  | fold (ks : List NC) (fs : List FC)
  | join (ks : List NC)
  | union
  | unlike
  | sort (ws : List (Str × Str)) (m : Int)
def Det.what : Det → Str
  | .read _ => "read"
  | .filter _ => "filter"
  | .map _ => "map"
  | .fold _ _ => "fold"
  | .join _ => "join"
  | .union => "union"
  | .unlike => "unlike"
  | .sort _ _ => "sort"
def FTo (H : Hp) (told : V) : Option Ex → Prop
  | none => told = .non
  | some e => ExAt H told e
/-- a tuple of which it is known that it has no dict of its own -/
def TupF (H : Hp) (a : Addr) (xs : List V) : Prop := ∃ o : Obj, o.dict = none ∧ H a = some (.frz o (.tup xs))
theorem TupF.sq {K : PySem.W.Frag} {H : Hp} {a : Addr} {xs : List V} (t : TupF H a xs) : SqT K H a xs := let ⟨o, _, e⟩ := t; .inl (.inr ⟨o, e⟩)
abbrev KeepF (H H' : Hp) : Prop := ∀ (a : Addr) (xs : List V), TupF H a xs → TupF H' a xs
theorem same_f {H H' : Hp} (h : Same H H') : KeepF H H' := fun a xs ⟨o, d, e⟩ => ⟨o, d, h _ _ e⟩
theorem But.tupF {H H' : Hp} {d : Addr} {l : List V} (h : But d H H') (hd : H d = some (.lst l)) : KeepF H H' := fun a xs ⟨o, dn, e⟩ => ⟨o, dn, h a _ (fun q => by rw [q, hd] at e; cases e) e⟩
def DetAt (H : Hp) (v : V) : Det → Prop
  | .read cs => ∃ (t : Addr) (as : List Col), v = .ref t ∧ TupF H t (as.map fun c => .ref c.1) ∧ PairsAt H as ∧ as.map (·.2) = cs
  | .filter e => ExAt H v e
  | .map ms => ∃ (t : Addr) (as : List (Addr × MC)), v = .ref t ∧ H t = some (.tup (as.map fun p => .ref p.1)) ∧ (∀ p ∈ as, ∃ told, H p.1 = some (.tup [told, .str p.2.2.2]) ∧ ExAt H told p.2.1) ∧ as.map (·.2) = ms
  | .fold ks fs => ∃ (t kt ft : Addr) (as : List (Addr × FC)), v = .ref t ∧ H t = some (.tup [.ref kt, .ref ft]) ∧ H kt = some (.tup (ks.map fun k => .str k.1)) ∧ H ft = some (.tup (as.map fun p => .ref p.1)) ∧ (∀ p ∈ as, ∃ told, H p.1 = some (.tup [.str p.2.1, told, .str p.2.2.2.2]) ∧ FTo H told p.2.2.1) ∧ as.map (·.2) = fs
  | .join ks => ∃ t : Addr, v = .ref t ∧ H t = some (.tup (ks.map fun k => .str k.1))
  | .union => ∃ t : Addr, v = .ref t ∧ H t = some (.tup [])
  | .unlike => ∃ t : Addr, v = .ref t ∧ H t = some (.tup [])
  | .sort ws m => ∃ (t wt : Addr) (as : List (Addr × Str × Str)), v = .ref t ∧ H t = some (.tup [.ref wt, .int m]) ∧ H wt = some (.tup (as.map fun p => .ref p.1)) ∧ (∀ p ∈ as, H p.1 = some (.tup [.str p.2.1, .str p.2.2])) ∧ as.map (·.2) = ws
abbrev KeepT (H H' : Hp) : Prop := ∀ (a : Addr) (xs : List V), H a = some (.tup xs) → H' a = some (.tup xs)
theorem FTo.keep {H H' : Hp} (h : KeepT H H') {told : V} : ∀ {o : Option Ex}, FTo H told o → FTo H' told o
  | none, q => q
  | some _, q => ExAt.keep h q
theorem DetAt.keep {H H' : Hp} (h : KeepT H H') (hf : KeepF H H') {v : V} : ∀ {d : Det}, DetAt H v d → DetAt H' v d
  | .read _, ⟨t, as, e, h1, h2, h3⟩ => ⟨t, as, e, hf _ _ h1, fun c hc => h _ _ (h2 c hc), h3⟩
  | .filter _, q => ExAt.keep h q
  | .map _, ⟨t, as, e, h1, h2, h3⟩ => ⟨t, as, e, h _ _ h1, fun p hp => let ⟨told, a, b⟩ := h2 p hp; ⟨told, h _ _ a, b.keep h⟩, h3⟩
  | .fold _ _, ⟨t, kt, ft, as, e, h1, h2, h3, h4, h5⟩ => ⟨t, kt, ft, as, e, h _ _ h1, h _ _ h2, h _ _ h3, fun p hp => let ⟨told, a, b⟩ := h4 p hp; ⟨told, h _ _ a, b.keep h⟩, h5⟩
  | .join _, ⟨t, e, h1⟩ => ⟨t, e, h _ _ h1⟩
  | .union, ⟨t, e, h1⟩ => ⟨t, e, h _ _ h1⟩
  | .unlike, ⟨t, e, h1⟩ => ⟨t, e, h _ _ h1⟩
  | .sort _ _, ⟨t, wt, as, e, h1, h2, h3, h4⟩ => ⟨t, wt, as, e, h _ _ h1, h _ _ h2, fun p hp => h _ _ (h3 p hp), h4⟩
structure Stp where
  name : Str
  ins : List Str
  det : Det
def StpAt (H : Hp) (a : Addr) (s : Stp) : Prop := ∃ (inp : Addr) (dv : V), H a = some (.tup [.str s.name, .str s.det.what, .ref inp, dv]) ∧ H inp = some (.tup (s.ins.map V.str)) ∧ DetAt H dv s.det
theorem StpAt.keep {H H' : Hp} (h : KeepT H H') (hf : KeepF H H') {a : Addr} {s : Stp} : StpAt H a s → StpAt H' a s := fun ⟨inp, dv, h1, h2, h3⟩ => ⟨inp, dv, h _ _ h1, h _ _ h2, h3.keep h hf⟩
theorem same_t {H H' : Hp} (h : Same H H') : KeepT H H' := fun a xs e => h a _ e
/-- the kind of a column, by its name -/
def kfN (cs : List NC) (x : Str) : Option Bool := (cs.find? fun c => decide (c.1 = x)).map (·.2)
theorem kfN_of : ∀ {cs : List NC}, (cs.map (·.1)).Nodup → ∀ {c : NC}, c ∈ cs → kfN cs c.1 = some c.2
  | [], _, c, h => absurd h List.not_mem_nil
  | x :: cs, hn, c, h => by
    unfold kfN
    rw [List.find?_cons]
    by_cases hx : x.1 = c.1
    · have e : x = c := by
        rcases List.mem_cons.mp h with rfl | h
        · rfl
        · exact absurd (by show x.1 ∈ _; rw [hx]; exact List.mem_map.mpr ⟨c, h, rfl⟩) (List.nodup_cons.mp hn).1
      rw [decide_eq_true hx, e]
      rfl
    · rw [decide_eq_false hx]
      have hl : c ∈ cs := by
        rcases List.mem_cons.mp h with rfl | h
        · exact absurd rfl hx
        · exact h
      exact kfN_of (List.nodup_cons.mp hn).2 hl
def FOk (cs : List NC) (m : FC) : Prop := m.1 ∈ folds6 ∧ match m.2.1 with
  | none => m.1 = "count" ∧ m.2.2.1 = true
  | some e => m.1 ≠ "count" ∧ Kind (kfN cs) e m.2.2.1 ∧ e.dep ≤ 3 ∧ (m.1 ∉ (["least", "unlike", "greatest"] : List Str) → m.2.2.1 = true)
inductive StepOk (kn : List (Str × List NC)) : List Str → Det → List NC → Prop where
  | filter {one : Str} {cs : List NC} {e : Ex} (h : (one, cs) ∈ kn) (k : Kind (kfN cs) e true) (d : e.dep ≤ 4) : StepOk kn [one] (.filter e) cs
  | map {one : Str} {cs : List NC} {ms : List MC} (h : (one, cs) ∈ kn) (k : ∀ m ∈ ms, Kind (kfN cs) m.1 m.2.1 ∧ m.1.dep ≤ 4) (nd : (ms.map (·.2.2)).Nodup) (ne : ms ≠ []) (l : ms.length ≤ 3) : StepOk kn [one] (.map ms) (ms.map fun m => (m.2.2, m.2.1))
  | fold {one : Str} {cs ks : List NC} {fs : List FC} (h : (one, cs) ∈ kn) (hk : ∀ k ∈ ks, k ∈ cs) (hf : ∀ m ∈ fs, FOk cs m) (nd : (ks.map (·.1) ++ fs.map (·.2.2.2)).Nodup) (ne : fs ≠ []) (l : fs.length ≤ 3) : StepOk kn [one] (.fold ks fs) (ks ++ fs.map fun m => (m.2.2.2, lateK m.1 m.2.2.1))
  | join {one other : Str} {f s ks : List NC} (h1 : (one, f) ∈ kn) (h2 : (other, s) ∈ kn) (ne : ks ≠ []) (hk : ∀ k ∈ ks, k ∈ f ∧ k ∈ s) (nd : ((joinC f s ks).map (·.1)).Nodup) : StepOk kn [one, other] (.join ks) (joinC f s ks)
  | union {one other : Str} {cs : List NC} (h1 : (one, cs) ∈ kn) (h2 : (other, cs) ∈ kn) : StepOk kn [one, other] .union cs
  | unlike {one : Str} {cs : List NC} (h : (one, cs) ∈ kn) : StepOk kn [one] .unlike cs
  | sort {one : Str} {cs : List NC} {ws : List (Str × Str)} {m : Int} (h : (one, cs) ∈ kn) (ne : ws ≠ []) (hw : ∀ x ∈ ws, (∃ k, (x.1, k) ∈ cs) ∧ (x.2 = "up" ∨ x.2 = "down")) (l : ws.length ≤ 2) (m1 : 1 ≤ m) (m5 : m ≤ 5) : StepOk kn [one] (.sort ws m) cs
def abs (kn : Knw) : List (Str × List NC) := kn.map fun e => (e.1, e.2.2.map (·.2))
theorem abs_mem {kn : Knw} {e : Str × Addr × List Col} (h : e ∈ kn) : (e.1, e.2.2.map (·.2)) ∈ abs kn := List.mem_map.mpr ⟨e, h, rfl⟩
def SizeOk (kvs : List (L2.Key × V)) (ins : List Str) (what : Str) : Prop := ∃ js : List Int, ins.length = js.length ∧ (∀ (i : Nat) (x : Str), ins[i]? = some x → ∃ j : Int, js[i]? = some j ∧ valV kvs (.inr x) = some (.int j)) ∧
  (what = "join" → ∃ a b : Int, js = [a, b] ∧ 0 ≤ a ∧ a ≤ 400 ∧ 0 ≤ b ∧ b ≤ 400 ∧ 0 ≤ a * b ∧ a * b ≤ 400) ∧ (what ≠ "join" → 0 ≤ js.sum ∧ js.sum ≤ 400)
theorem size_one {kvs : List (L2.Key × V)} {one what : Str} {j : Int} (h : valV kvs (.inr one) = some (.int j)) (h0 : 0 ≤ j) (h1 : j ≤ 400) (nj : what ≠ "join") : SizeOk kvs [one] what :=
  by
  refine ⟨[j], rfl, fun i x e => ?_, fun z => absurd z nj, fun _ => ?_⟩
  · match i, e with
    | 0, e =>
      cases e
      exact ⟨j, rfl, h⟩
    | i + 1, e => cases e
  · show 0 ≤ j + 0 ∧ j + 0 ≤ 400
    omega
theorem size_two {kvs : List (L2.Key × V)} {one other what : Str} {a b : Int} (h : valV kvs (.inr one) = some (.int a)) (h' : valV kvs (.inr other) = some (.int b)) (a0 : 0 ≤ a) (a1 : a ≤ 400) (b0 : 0 ≤ b) (b1 : b ≤ 400) (hj : what = "join" → a * b ≤ 400) (hs : what ≠ "join" → a + b ≤ 400) : SizeOk kvs [one, other] what :=
  by
  refine ⟨[a, b], rfl, fun i x e => ?_, fun z => ⟨a, b, rfl, a0, a1, b0, b1, Int.mul_nonneg a0 b0, hj z⟩, fun z => ?_⟩
  · match i, e with
    | 0, e =>
      cases e
      exact ⟨a, rfl, h⟩
    | 1, e =>
      cases e
      exact ⟨b, rfl, h'⟩
    | i + 2, e => cases e
  · have := hs z
    show 0 ≤ a + (b + 0) ∧ a + (b + 0) ≤ 400
    omega
theorem colsA_eqv : ∀ l m : List NC, PyData.eqvAll (l.map colD) (m.map colD) = decide (l = m)
  | [], [] => rfl
  | [], _ :: _ => rfl
  | _ :: _, [] => rfl
  | a :: l, b :: m => by
    show (PyData.eqv (colD a) (colD b) && PyData.eqvAll (l.map colD) (m.map colD)) = _
    rw [colD_eqv, colsA_eqv l m]
    by_cases h1 : a = b
    · by_cases h2 : l = m
      · simp [h1, h2]
      · simp [h1, h2]
    · simp [h1]
theorem colsD_eqv (l m : List NC) : PyData.eqv (.list (l.map colD)) (.list (m.map colD)) = decide (l = m) := colsA_eqv l m
def WaysAt (H : Hp) (cl : List Col) (as : List (Addr × Str × Str)) : Prop := ∀ p ∈ as, H p.1 = some (.tup [.str p.2.1, .str p.2.2]) ∧ (∃ k, (p.2.1, k) ∈ cl.map (·.2)) ∧ (p.2.2 = "up" ∨ p.2.2 = "down") ∧ PyData.canLay0 (.str p.2.1) = true
theorem WaysAt.keep {H H' : Hp} {cl : List Col} {as : List (Addr × Str × Str)} (W : WaysAt H cl as) (h : KeepT H H') : WaysAt H' cl as := fun p hp => ⟨h _ _ (W p hp).1, (W p hp).2⟩
def wayD (x : Str × Str) : PyData := .tuple [.str x.1, .str x.2]
theorem ways_dp {K : PySem.W.Frag} {H : Hp} {cl : List Col} : ∀ {as : List (Addr × Str × Str)}, WaysAt H cl as → DpAll K H (as.map fun p => .ref p.1) (as.map fun p => wayD p.2)
  | [], _ => .nil
  | p :: as, h => .cons (.tup (SqT.of (h p List.mem_cons_self).1) (.cons (.str _) (.cons (.str _) .nil))) (ways_dp fun x hx => h x (List.mem_cons_of_mem _ hx))
theorem way_ok {x : Str × Str} (h : PyData.canLay0 (.str x.1) = true) (w : x.2 = "up" ∨ x.2 = "down") : PyData.canLay0 (wayD x) = true := by
  show (PyData.canLay0 (.str x.1) && (PyData.canLay0 (.str x.2) && true)) = true
  rw [h]
  rcases w with w | w
  · rw [w]
    decide +kernel
  · rw [w]
    decide +kernel
theorem ways_ok {H : Hp} {cl : List Col} : ∀ {as : List (Addr × Str × Str)}, WaysAt H cl as → PyData.canLayAll0 (as.map fun p => wayD p.2) = true
  | [], _ => rfl
  | p :: as, h => by
    show (PyData.canLay0 (wayD p.2) && PyData.canLayAll0 (as.map fun p => wayD p.2)) = true
    rw [way_ok (h p List.mem_cons_self).2.2.2 (h p List.mem_cons_self).2.2.1, ways_ok fun x hx => h x (List.mem_cons_of_mem _ hx)]
    rfl
theorem ways_dep : ∀ as : List (Addr × Str × Str), PyData.depthAll (as.map fun p => wayD p.2) ≤ 1
  | [] => Nat.zero_le _
  | p :: as => by
    show max (PyData.depth (wayD p.2)) (PyData.depthAll (as.map fun p => wayD p.2)) ≤ 1
    exact Nat.max_le.mpr ⟨Nat.le_refl 1, ways_dep as⟩
theorem ways_sh {H : Hp} {cl : List Col} {as : List (Addr × Str × Str)} (W : WaysAt H cl as) : SeqAt.shaped (.tuple (as.map fun p => wayD p.2)) = true := by
  have d := ways_dep as
  show (PyData.canLayAll0 (as.map fun p => wayD p.2) && decide (PyData.depthAll (as.map fun p => wayD p.2) + 1 ≤ 64)) = true
  rw [ways_ok W, decide_eq_true (by omega)]
  rfl
theorem fn_all : ∀ x ∈ fnames, x ∈ allNames := by decide +kernel
section
variable {P : Program} {w : World} {K : PySem.W.Frag} {mg : Str → Option Value} {base : Heap}
/-! ### _law_step -/
abbrev N_law_step : List Str := ["draw", "known", "name", "one", "columns", "kind", "details", "late", "pair", "some", "other", "ways"]
def spStep : Sp := fun vs H Q _ => ∃ (d s kd g : Addr) (kn : Knw) (name one : Str) (a1 : Addr) (c1 : List Col) (ns : List Int) (n : Int), vs = [.ref d, .ref kd, .str name, .str one] ∧ DrawAt H d s ns [.ref g] n ∧ KnowsAt H kd g kn ∧ (one, a1, c1) ∈ kn ∧
  ∀ (r st f : Addr) (ins : List Str) (det : Det) (cl : List Col) (n' : Int) (H' : Hp), H' r = some (.tup [.ref st, .ref f]) → StpAt H' st ⟨name, ins, det⟩ → Tab H' f cl → StepOk (abs kn) ins det (cl.map (·.2)) → (∀ kvs, H g = some (.dK kvs) → SizeOk kvs ins det.what) → But d H H' → DrawAt H' d s ns [.ref g] n' → Q (.ref r) H'
theorem sc_step : FnScope N_law_step ["draw", "known", "name", "one"] (defScope s_law_step) := ⟨rfl, rfl, rfl, by decide +kernel, rfl, by decide +kernel, by decide +kernel⟩
theorem ok_step {f : Addr} {fd : FuncData} (F : Fun K "_law_step" "_law_step" s_law_step f fd) (m_tuple : mg "tuple" = none) (m_sorted : mg "sorted" = none) (G_law_next : Ready P w K mg base 3 "_law_next" ["draw", "bound"] spNext) (G_law_pick : Ready P w K mg base 4 "_law_pick" ["draw", "things"] (spPick K))
    (G_law_int : Ready P w K mg base 7 "_law_int" ["draw", "columns", "deep"] (spInt 3)) (G_law_map : Ready P w K mg base 8 "_law_map" ["draw", "columns", "at"] spMap) (G_law_fold : Ready P w K mg base 8 "_law_fold" ["draw", "columns"] spFold) (G_law_join : Ready P w K mg base 5 "_law_join" ["draw", "known", "one"] spJoin) :
    FnOk P w K mg base CX0 9 f fd ["draw", "known", "name", "one"] spStep := by
  refine F.ok sc_step (fun vs H Q E h => ?_) (fun cdv A outer s0 H vs Q E hr h => ?_)
  · obtain ⟨d, s, kd, g, kn, name, one, a1, c1, ns, n, rfl, _⟩ := h
    rfl
  obtain ⟨d, s, kd, g, kn, name, one, a1, c1, ns, n, rfl, D, KN, h1, q⟩ := h
  have nd := sc_step.nd
  have hr8 : Room 8 _ := hr
  have hr7 : Room 7 _ := hr.mono (by omega)
  have hr5 : Room 5 _ := hr.mono (by omega)
  have hr4 : Room 4 _ := hr.mono (by omega)
  have hr3 : Room 3 _ := hr.mono (by omega)
  have hu64 : _ + 64 < cLine := hr.units
  have hu1 : _ + 1 < cLine := Nat.lt_of_le_of_lt (Nat.add_le_add_left (by decide : 1 ≤ 64) _) hu64
  refine ⟨_, pss_cons (ps_asg (pe_tup (pa_cons (pe_dget hu1 (pv 1) (pv 3) (fun _ _ => rfl)) (pa_cons (pe_fn (G_law_next) hr3 (pa_cons (pv 0) (pa_cons pe_int pa_nil))) pa_nil))) (pg_tup rfl (pgs_cons (pg_name (i := 4) nd rfl (.inr rfl)) (pgs_cons (pg_name (i := 5) nd rfl (.inl rfl)) pgs_nil))))
      (pss_cons (ps_if (pt_cmpR op_lt (pv 5) pe_int (nomark _)) (pss_one (ps_ret (pe_tup (pa_cons (pe_tup (pa_cons (pv 2) (pa_cons pe_str (pa_cons (pe_tup (pa_cons (pv 3) pa_nil)) (pa_cons (pe_fn (G_law_int) hr7 (pa_cons (pv 0) (pa_cons (pv 4) (pa_cons pe_int pa_nil)))) pa_nil))))) (pa_cons (pv 4) pa_nil))))) (pss_nil))
      (pss_cons (ps_if (pt_cmpR op_eq (pv 5) pe_int (nomark _)) (pss_cons (ps_asg (pe_fn (G_law_map) hr8 (pa_cons (pv 0) (pa_cons (pv 4) (pa_cons pe_int pa_nil)))) (pg_tup rfl (pgs_cons (pg_name (i := 6) nd rfl (.inl rfl)) (pgs_cons (pg_name (i := 7) nd rfl (.inl rfl)) pgs_nil))))
      (pss_one (ps_ret (pe_tup (pa_cons (pe_tup (pa_cons (pv 2) (pa_cons pe_str (pa_cons (pe_tup (pa_cons (pv 3) pa_nil)) (pa_cons (pv 6) pa_nil))))) (pa_cons (pv 7) pa_nil)))))) (pss_nil))
      (pss_cons (ps_if (pt_cmpR op_lt (pv 5) pe_int (nomark _)) (pss_cons (ps_asg (pe_fn (G_law_fold) hr8 (pa_cons (pv 0) (pa_cons (pv 4) pa_nil))) (pg_tup rfl (pgs_cons (pg_name (i := 6) nd rfl (.inl rfl)) (pgs_cons (pg_name (i := 7) nd rfl (.inl rfl)) pgs_nil))))
      (pss_one (ps_ret (pe_tup (pa_cons (pe_tup (pa_cons (pv 2) (pa_cons pe_str (pa_cons (pe_tup (pa_cons (pv 3) pa_nil)) (pa_cons (pv 6) pa_nil))))) (pa_cons (pv 7) pa_nil)))))) (pss_nil))
      (C8.pss_cut (ps_if (pt_cmpR op_eq (pv 5) pe_int (nomark _)) (pss_cons (ps_asg (pe_fn (G_law_join) hr5 (pa_cons (pv 0) (pa_cons (pv 1) (pa_cons (pv 3) pa_nil)))) (pg_tup rfl (pgs_cons (pg_name (i := 8) nd rfl (.inl rfl)) (pgs_cons (pg_name (i := 7) nd rfl (.inl rfl)) pgs_nil))))
      (pss_one (ps_if (pt_cmpR op_notN (pv 8) pe_non (nomark _)) (pss_one (ps_ret (pe_tup (pa_cons (pe_tup (pa_cons (pv 2) (pa_cons pe_str (pa_cons (pe_tup (pa_cons (pv 3) (pa_cons (pe_ix ix_tup (pv 8) pe_int (fun _ _ => rfl)) pa_nil))) (pa_cons (pe_ix ix_tup (pv 8) pe_int (fun _ _ => rfl)) pa_nil))))) (pa_cons (pv 7) pa_nil))))) (pss_nil)))) (pss_nil))
      (C8.pss_cut (ps_if (pt_cmpR op_eq (pv 5) pe_int (nomark _)) (pss_cons (ps_setLc (i := 9) (own := [("other", 10)]) (g := gName 10) (tt := tAnd (tTest (tOp (rEqD K) (tDGet (tVar 1) (tVar 10)) (tVar 4))) (tTest (tOp (rI0 fun i j => V.bl (decide (i ≤ j))) (tOp (rI0 fun i j => V.int (i + j)) (tDGet (tOp (rIxL K) (tVar 0) (tC (V.int 3))) (tVar 3)) (tDGet (tOp (rIxL K) (tVar 0) (tC (V.int 3))) (tVar 10))) (tC (V.int 60))))) rfl nd rfl rfl (sw_true rfl rfl rfl (by decide +kernel)) (pi_list (pe_callB (call_sortedD rfl) (by rfl) m_sorted (by decide +kernel) (pa_cons (pv 1) pa_nil))) (blkOk_by (N := N_law_step) (sc := defScope s_law_step) (by decide +kernel)) (fun _ _ _ _ _ => pg_name (i := 10) nd rfl (Or.inl rfl)) (fun _ _ _ _ _ => pts_one (PW.pt (pw_and (pt_cmpR (op_eqD hu64) (pe_dget hu1 (pv 1) (pv 10) (fun _ _ => rfl)) (pv 4) (nomark _)) (pw_and1 (pt_cmpR op_le (pe_op op_add (pe_dget hu1 (pe_ix (show IxR _ (rIxL K) from ix_list) (pv 0) pe_int (fun _ _ => rfl)) (pv 3) (fun _ _ => rfl)) (pe_dget hu1 (pe_ix (show IxR _ (rIxL K) from ix_list) (pv 0) pe_int (fun _ _ => rfl)) (pv 10) (fun _ _ => rfl))) pe_int (nomark _)))))) (fun _ _ _ _ _ => (pv 10)))
      (pss_one (ps_if (pt_cmpR (op_neD hu64) (pv 9) (pe_lst pa_nil) (nomark _)) (pss_one (ps_ret (pe_tup (pa_cons (pe_tup (pa_cons (pv 2) (pa_cons pe_str (pa_cons (pe_tup (pa_cons (pv 3) (pa_cons (pe_fn (G_law_pick) hr4 (pa_cons (pv 0) (pa_cons (pv 9) pa_nil))) pa_nil))) (pa_cons (pe_tup pa_nil) pa_nil))))) (pa_cons (pv 4) pa_nil))))) (pss_nil)))) (pss_nil))
      (C8.pss_cut (ps_if (pt_cmpR op_eq (pv 5) pe_int (nomark _)) (pss_cons (ps_set (i := 11) nd rfl (.inl rfl) (pe_callTy call_tuple_of (by rfl) m_tuple PyProof.Rows.boot_tuple (pa_cons (pe_slice sl_list (pe_lc (own := [("pair", 8)]) (g := gName 8) (tt := _) (te := tTup (tCons (tOp (rIxT K) (tVar 8) (tC (V.int 0))) (tCons (tCall (spPick K) [] E0 (tCons (tVar 0) (tCons (tTup (tCons (tC (V.str "up")) (tCons (tC (V.str "down")) tNil))) tNil))) tNil))) rfl nd (pi_list (pv 4)) (blkOk_by (N := N_law_step) (sc := defScope s_law_step) (by decide +kernel)) (fun _ _ _ _ _ => pg_name (i := 8) nd rfl (Or.inl rfl)) (fun _ _ _ _ _ => pts_one (pt_cmpR op_eq (pe_fn (G_law_next) hr3 (pa_cons (pv 0) (pa_cons pe_int pa_nil))) pe_int (nomark _))) (fun _ _ _ _ _ => (pe_tup (pa_cons (pe_ix ix_tup (pv 8) pe_int (fun _ _ => rfl)) (pa_cons (pe_fn (G_law_pick) hr4 (pa_cons (pv 0) (pa_cons (pe_tup (pa_cons pe_str (pa_cons pe_str pa_nil))) pa_nil))) pa_nil))))) po_none (po_some pe_int)) pa_nil)))
      (pss_one (ps_if (pt_cmpR (op_neD hu64) (pv 11) (pe_tup pa_nil) (nomark _)) (pss_one (ps_ret (pe_tup (pa_cons (pe_tup (pa_cons (pv 2) (pa_cons pe_str (pa_cons (pe_tup (pa_cons (pv 3) pa_nil)) (pa_cons (pe_tup (pa_cons (pv 11) (pa_cons (pe_op op_add pe_int (pe_fn (G_law_next) hr3 (pa_cons (pv 0) (pa_cons pe_int pa_nil)))) pa_nil))) pa_nil))))) (pa_cons (pv 4) pa_nil))))) (pss_nil)))) (pss_nil))
      (pss_one (ps_ret (pe_tup (pa_cons (pe_tup (pa_cons (pv 2) (pa_cons pe_str (pa_cons (pe_tup (pa_cons (pv 3) pa_nil)) (pa_cons (pe_tup pa_nil) pa_nil))))) (pa_cons (pv 4) pa_nil))))))))))), ?_⟩
  have z1 : 1 ≤ sizeLine := by decide
  have z2 : 2 ≤ sizeLine := by decide
  have z4 : 4 ≤ sizeLine := by decide
  obtain ⟨kvs, eg, lkv, hsz⟩ := KN.sizes
  have ret : ∀ (H' : Hp) (inp f : Addr) (dv : V) (ins : List Str) (det : Det) (cl : List Col) (n' : Int), H' inp = some (.tup (ins.map V.str)) → DetAt H' dv det → Tab H' f cl → StepOk (abs kn) ins det (cl.map (·.2)) → (∀ kvs, H g = some (.dK kvs) → SizeOk kvs ins det.what) → But d H H' → DrawAt H' d s ns [.ref g] n' →
      ∀ st, H' st = none → ∀ r, upd H' st (.tup [.str name, .str det.what, .ref inp, dv]) r = none → Q (.ref r) (upd (upd H' st (.tup [.str name, .str det.what, .ref inp, dv])) r (.tup [.ref st, .ref f])) := fun H' inp f dv ins det cl n' ei xd T O Z b D' st hst r hr => by
    have s1 := same_upd (o := .tup [.str name, .str det.what, .ref inp, dv]) hst
    have s2 := s1.trans (same_upd (o := .tup [.ref st, .ref f]) hr)
    exact q r st f ins det cl n' _ upd_same ⟨inp, dv, same_upd hr _ _ upd_same, s2 _ _ ei, xd.keep (same_t s2) (same_f s2)⟩ (T.keep s2) O Z (b.trans (same_but s2)) (D'.keep s2)
  have one_sz : ∀ {what : Str}, what ≠ "join" → ∀ kvs', H g = some (.dK kvs') → SizeOk kvs' [one] what := fun hw kvs' h => by
    rw [eg] at h
    cases h
    obtain ⟨j, g1, j0, j1⟩ := hsz _ h1
    exact size_one g1 j0 j1 hw
  have kn1 : (one, c1.map (·.2)) ∈ abs kn := abs_mem h1
  have hk : ∀ c ∈ c1, kfN (c1.map (·.2)) c.2.1 = some c.2.2 := fun c hc => kfN_of (by rw [List.map_map]; exact (KN.tabs _ h1).nod) (List.mem_map.mpr ⟨c, hc, rfl⟩)
  -- columns, kind
  refine ⟨_, rfl, _, rfl, kd, _, rfl, KN.get h1, _, rfl, d, s, ns, [.ref g], n, 9, rfl, D, by decide, fun kd0 H1 r0 r1 b1 D1 => ⟨z2, fun t0 ht0 => ⟨t0, _, rfl, SqT.of upd_same, rfl, _, _, rfl, _, _, rfl, rfl, ?_⟩⟩⟩
  dsimp only at D1 ht0 ⊢
  have u0 := same_upd (o := .tup [.ref a1, .int kd0]) ht0
  have b0 : But d H (upd H1 t0 (.tup [.ref a1, .int kd0])) := b1.trans (same_but u0)
  replace D1 := D1.keep u0
  generalize upd H1 t0 (.tup [.ref a1, .int kd0]) = H2 at b0 D1 ⊢
  clear u0 ht0 b1
  have T1 : ∀ {H' : Hp}, But d H H' → Tab H' a1 c1 := fun b => (KN.tabs _ h1).but D b
  -- filter
  refine ⟨_, rfl, _, _, rfl, rfl, _, rfl, ite2 (fun c => ?_) (fun c => ?_)⟩
  · refine ⟨_, rfl, _, rfl, z1, fun inp hinp => ?_⟩
    have s1 := same_upd (o := .tup [.str one]) hinp
    have ei : upd H2 inp (.tup [.str one]) inp = some (.tup [.str one]) := upd_same
    have D2 := D1.keep s1
    have b2 : But d H (upd H2 inp (.tup [.str one])) := b0.trans (same_but s1)
    refine ⟨_, rfl, _, rfl, d, s, a1, c1, kfN (c1.map (·.2)), ns, [.ref g], _, 2, rfl, D2, (T1 b2).cols, hk, by decide, rfl, fun v e n5 H5 ke de xe b5 D5 => ⟨z4, fun st hst => ⟨_, rfl, z2, fun r hr => ?_⟩⟩⟩
    exact ret H5 inp a1 v [one] (.filter e) c1 n5 (b5.tup D2.at_d _ _ ei) xe (T1 (b2.trans b5)) (.filter kn1 ke de) (one_sz (show ("filter" : Str) ≠ "join" by decide +kernel)) (b2.trans b5) D5 st hst r hr
  clear c
  -- map
  refine ⟨_, rfl, rfl, _, rfl, ite2 (fun c => ?_) (fun c => ?_)⟩
  · refine ⟨_, rfl, _, rfl, d, s, a1, .int 0, c1, kfN (c1.map (·.2)), ns, [.ref g], _, rfl, D1, (T1 b0).cols, hk, (KN.tabs _ h1).ne, fun r0 t f0 ms n5 H5 er et ef hms hnd hne hl b5 D5 => ?_⟩
    refine ⟨r0, _, rfl, SqT.of er, rfl, _, _, rfl, _, _, rfl, rfl, ?_⟩
    refine ⟨_, rfl, _, rfl, z1, fun inp hinp => ⟨_, rfl, z4, fun st hst => ⟨_, rfl, z2, fun r hr => ?_⟩⟩⟩
    have s1 := same_upd (o := .tup [.str one]) hinp
    have hms' := fun m hm => (hms m hm).keep (same_t s1)
    refine ret _ inp f0 (.ref t) [one] (.map (ms.map fun m => (m.ex, m.kind, m.name))) (ms.map fun m => (m.col, m.name, m.kind)) n5 upd_same ⟨t, ms.map fun m => (m.det, m.ex, m.kind, m.name), rfl, ?_, fun p hp => ?_, ?_⟩ ⟨⟨?_, fun c hc => ?_, ?_, fun c hc => ?_⟩, ?_, fun c hc => ?_, ?_⟩ ?_ (one_sz (show ("map" : Str) ≠ "join" by decide +kernel)) ((b0.trans b5).trans (same_but s1)) (D5.keep s1) st hst r hr
    · rw [List.map_map]
      exact s1 _ _ et
    · obtain ⟨m, hm, rfl⟩ := List.mem_map.mp hp
      exact ⟨m.told, (hms' m hm).at_det, (hms' m hm).ex⟩
    · rw [List.map_map]
      rfl
    · rw [List.map_map]
      exact s1 _ _ ef
    · obtain ⟨m, hm, rfl⟩ := List.mem_map.mp hc
      exact (hms' m hm).at_col
    · rw [List.length_map]
      omega
    · obtain ⟨m, hm, rfl⟩ := List.mem_map.mp hc
      exact lates_ok _ (hms m hm).nm
    · rw [List.map_map]
      exact hnd
    · obtain ⟨m, hm, rfl⟩ := List.mem_map.mp hc
      exact List.mem_append_right _ (hms m hm).nm
    · exact fun z => hne (List.map_eq_nil_iff.mp z)
    · have := StepOk.map (ms := ms.map fun m => (m.ex, m.kind, m.name)) kn1 (fun m' hm' => by
        obtain ⟨m, hm, rfl⟩ := List.mem_map.mp hm'
        exact ⟨(hms m hm).kd, (hms m hm).dep⟩) (by rw [List.map_map]; exact hnd) (fun z => hne (List.map_eq_nil_iff.mp z)) (by rw [List.length_map]; exact hl)
      rw [List.map_map] at this ⊢
      exact this
  clear c
  -- fold
  refine ⟨_, rfl, _, _, rfl, rfl, _, rfl, ite2 (fun c => ?_) (fun c => ?_)⟩
  · refine ⟨_, rfl, _, rfl, d, s, a1, c1, kfN (c1.map (·.2)), ns, [.ref g], _, rfl, D1, (T1 b0).cols, hk, (KN.tabs _ h1).ne, fun r0 t kt ft f0 ks fs n5 H5 er et ekt eft ef hks hfs hnd hne hl b5 D5 => ?_⟩
    refine ⟨r0, _, rfl, SqT.of er, rfl, _, _, rfl, _, _, rfl, rfl, ?_⟩
    refine ⟨_, rfl, _, rfl, z1, fun inp hinp => ⟨_, rfl, z4, fun st hst => ⟨_, rfl, z2, fun r hr => ?_⟩⟩⟩
    have s1 := same_upd (o := .tup [.str one]) hinp
    have hfs' := fun m hm => (hfs m hm).keep (same_t s1)
    have C6 := (T1 (b0.trans b5)).keep s1
    have lk : ks.length ≤ 24 := by
      have h2 := few_names (l := ks.map fun c => c.2.1) (List.nodup_append.mp hnd).1 fun x hx => by
        obtain ⟨c, hc, rfl⟩ := List.mem_map.mp hx
        exact C6.inn c (hks c hc)
      rw [List.length_map] at h2
      exact h2
    refine ret _ inp f0 (.ref t) [one] (.fold (ks.map (·.2)) (fs.map fun m => (m.op, m.ex, m.kind, m.name))) (ks ++ fs.map fun m => (m.col, m.name, lateK m.op m.kind)) n5 upd_same ⟨t, kt, ft, fs.map fun m => (m.det, m.op, m.ex, m.kind, m.name), rfl, s1 _ _ et, ?_, ?_, fun p hp => ?_, ?_⟩ ⟨⟨?_, fun c hc => ?_, ?_, fun c hc => ?_⟩, ?_, fun c hc => ?_, ?_⟩ ?_ (one_sz (show ("fold" : Str) ≠ "join" by decide +kernel)) ((b0.trans b5).trans (same_but s1)) (D5.keep s1) st hst r hr
    · rw [List.map_map]
      exact s1 _ _ ekt
    · rw [List.map_map]
      exact s1 _ _ eft
    · obtain ⟨m, hm, rfl⟩ := List.mem_map.mp hp
      refine ⟨m.told, (hfs' m hm).at_det, ?_⟩
      have tt := (hfs' m hm).told
      show FTo _ m.told m.ex
      cases hx : m.ex with
      | none =>
        rw [hx] at tt
        exact tt.2.1
      | some e =>
        rw [hx] at tt
        exact tt.2.1
    · rw [List.map_map]
      rfl
    · rw [List.map_append, List.map_map]
      exact s1 _ _ ef
    · rcases List.mem_append.mp hc with hc | hc
      · exact C6.cols.each c (hks c hc)
      · obtain ⟨m, hm, rfl⟩ := List.mem_map.mp hc
        exact (hfs' m hm).at_col
    · rw [List.length_append, List.length_map]
      omega
    · rcases List.mem_append.mp hc with hc | hc
      · exact C6.cols.ok c (hks c hc)
      · obtain ⟨m, hm, rfl⟩ := List.mem_map.mp hc
        exact all_ok _ (fn_all _ (hfs m hm).nm)
    · rw [List.map_append, List.map_map]
      exact hnd
    · rcases List.mem_append.mp hc with hc | hc
      · exact C6.inn c (hks c hc)
      · obtain ⟨m, hm, rfl⟩ := List.mem_map.mp hc
        exact fn_all _ (hfs m hm).nm
    · exact fun z => hne (List.map_eq_nil_iff.mp (List.append_eq_nil_iff.mp z).2)
    · have := StepOk.fold (ks := ks.map (·.2)) (fs := fs.map fun m => (m.op, m.ex, m.kind, m.name)) kn1 (fun k hk' => by
        obtain ⟨c, hc, rfl⟩ := List.mem_map.mp hk'
        exact List.mem_map.mpr ⟨c, hks c hc, rfl⟩) (fun m' hm' => by
        obtain ⟨m, hm, rfl⟩ := List.mem_map.mp hm'
        refine ⟨(hfs m hm).op, ?_⟩
        have tt := (hfs m hm).told
        dsimp only
        cases hx : m.ex with
        | none =>
          rw [hx] at tt
          exact ⟨tt.1, tt.2.2⟩
        | some e =>
          rw [hx] at tt
          exact ⟨tt.1, tt.2.2⟩) (by rw [List.map_map, List.map_map]; exact hnd) (fun z => hne (List.map_eq_nil_iff.mp z)) (by rw [List.length_map]; exact hl)
      rw [List.map_map] at this
      rw [List.map_append, List.map_map]
      exact this
  clear c
  -- join
  let Mid : L2.St → Hp → Prop := fun σ H' => ∃ y6 y7 y8 y9 y10 y11 n', σ = [some (.ref d), some (.ref kd), some (.str name), some (.str one), some (.ref a1), some (.int kd0), y6, y7, y8, y9, y10, y11] ∧ But d H H' ∧ DrawAt H' d s ns [.ref g] n'
  refine ⟨Mid, ?_, ?_⟩
  · refine ⟨_, rfl, rfl, _, rfl, ite2 (fun c => ?_) (fun c => ⟨_, _, _, _, _, _, _, rfl, b0, D1⟩)⟩
    refine ⟨_, rfl, _, rfl, _, rfl, d, s, kd, g, kn, one, a1, c1, ns, _, rfl, D1, KN.but D b0, h1, fun r0 n5 H5 er b5 D5 => ?_, fun r0 t kt f0 a2 other c2 ks cl n5 H5 er et ek ho T hne hks hcl hsz' b5 D5 => ?_⟩
    · refine ⟨r0, _, rfl, SqT.of er, rfl, _, _, rfl, _, _, rfl, rfl, ?_⟩
      refine ⟨_, rfl, rfl, _, rfl, ?_⟩
      exact ⟨_, _, _, _, _, _, _, rfl, b0.trans b5, D5⟩
    · refine ⟨r0, _, rfl, SqT.of er, rfl, _, _, rfl, _, _, rfl, rfl, ?_⟩
      refine ⟨_, rfl, rfl, _, rfl, ?_⟩
      refine iteT ?_
      refine ⟨_, rfl, _, rfl, _, rfl, t, _, 0, _, rfl, rfl, SqT.of et, rfl, z2, fun inp hinp => ?_⟩
      have s1 := same_upd (o := .tup [.str one, .str other]) hinp
      refine ⟨_, rfl, t, _, 1, _, rfl, rfl, SqT.of (s1 _ _ et), rfl, z4, fun st hst => ⟨_, rfl, z2, fun r hr => ?_⟩⟩
      refine ret _ inp f0 (.ref kt) [one, other] (.join (ks.map (·.2))) cl n5 upd_same ⟨kt, rfl, by rw [List.map_map]; exact s1 _ _ ek⟩ (T.keep s1) ?_ (fun kvs' hg => ?_) ((b0.trans b5).trans (same_but s1)) (D5.keep s1) st hst r hr
      · rw [hcl]
        refine .join kn1 (abs_mem ho) (fun z => hne (List.map_eq_nil_iff.mp z)) (fun k hk' => ?_) ?_
        · obtain ⟨c, hc, rfl⟩ := List.mem_map.mp hk'
          exact ⟨List.mem_map.mpr ⟨c, (hks c hc).1, rfl⟩, (hks c hc).2⟩
        · rw [← hcl, List.map_map]
          exact T.nod
      · rw [eg] at hg
        cases hg
        obtain ⟨j1, g1, j10, j11⟩ := hsz _ h1
        obtain ⟨j2, g2, j20, j21⟩ := hsz _ ho
        refine size_two g1 g2 j10 j11 j20 j21 (fun _ => ?_) (fun z => absurd rfl z)
        exact hsz' kvs j1 j2 (b0 _ _ (fun z => by rw [z, D.at_d] at eg; cases eg) eg) g1 g2
  clear b0 D1
  rintro σ H3 ⟨y6, y7, y8, y9, y10, y11, n3, rfl, b0, D1⟩
  -- union
  refine ⟨Mid, ?_, ?_⟩
  · refine ⟨_, rfl, rfl, _, rfl, ite2 (fun c => ?_) (fun c => ⟨_, _, _, _, _, _, _, rfl, b0, D1⟩)⟩
    have KN3 := KN.but D b0
    refine ⟨_, rfl, kd, _, kn.map (·.1), rfl, .inl KN3.at_k, (by rw [List.map_map, List.map_map]; rfl), (by rw [List.length_map]; have := KN.few; omega), fun ys p pm _ hp => ?_⟩
    have sp := same_upd (o := .lst (ys.map V.str)) hp
    have ep : upd H3 p (.lst (ys.map V.str)) p = some (.lst (ys.map V.str)) := upd_same
    have ly : ys.length ≤ 40 := by
      rw [pm.length_eq, List.length_map]
      exact KN.few
    refine ⟨p, rfl, ⟨_, SqL.of ep⟩, fun D9 hD9 => ?_⟩
    have KN4 := KN3.keep sp
    have D4 := D1.keep sp
    have b4 : But d H (upd H3 p (.lst (ys.map V.str))) := b0.trans (same_but sp)
    generalize upd H3 p (.lst (ys.map V.str)) = H4 at ep KN4 D4 b4 hD9 ⊢
    have g3 : ∀ {H' : Hp}, But d H H' → H' g = some (.dK kvs) := fun b => b _ _ (fun z => by rw [z, D.at_d] at eg; cases eg) eg
    refine lc_list (K := K) (a := p) (xs := ys.map V.str) (fun i H' => Same H4 H' ∧ ∃ os : List Str, H' D9 = some (.lst (os.map V.str)) ∧ os.length ≤ i ∧ ∀ o ∈ os, ∃ a2 c2 j1 j2, (o, a2, c2) ∈ kn ∧ c2.map (·.2) = c1.map (·.2) ∧ valV kvs (.inr one) = some (.int j1) ∧ valV kvs (.inr o) = some (.int j2) ∧ 0 ≤ j1 ∧ 0 ≤ j2 ∧ j1 + j2 ≤ 60) ⟨same_upd hD9, [], upd_same, Nat.le_refl _, fun o ho => absurd ho List.not_mem_nil⟩ (fun i H' _ h => SqL.of (h.1 _ _ ep)) ?_ ?_
    · rintro i x H' hx ⟨sm, os, e9, lo, hos⟩
      rw [List.getElem?_map] at hx
      obtain ⟨o, ho, rfl⟩ := Option.map_eq_some_iff.mp hx
      have hi : i < ys.length := (List.getElem?_eq_some_iff.mp ho).1
      obtain ⟨e2, he2, rfl⟩ := List.mem_map.mp (pm.mem_iff.mp (List.mem_of_getElem? ho))
      have KN5 := KN4.keep sm
      have T2 := KN5.tabs _ he2
      have T1' := KN5.tabs _ h1
      obtain ⟨j1, g1, j10, j11⟩ := hsz _ h1
      obtain ⟨j2, g2, j20, j21⟩ := hsz _ he2
      have ok2 : ∀ {a : Addr} {c : List Col}, Tab H' a c → ∀ z ∈ c.map (·.2), PyData.canLay0 (.str z.1) = true := fun T z hz => by
        obtain ⟨c, hc, rfl⟩ := List.mem_map.mp hz
        exact T.cols.ok c hc
      refine ⟨rfl, ?_⟩
      refine ⟨_, rfl, _, rfl, kd, _, rfl, KN5.get he2, _, rfl, _, _, cols_dp T2.cols.all T2.cols.each, cols_dp T1'.cols.all T1'.cols.each, colsD_sh (ok2 T2), colsD_sh (ok2 T1'), _, rfl, ?_⟩
      rw [colsD_eqv]
      refine ite2 (fun ce => ?_) (fun ce => ⟨sm, os, e9, Nat.le_succ_of_le lo, hos⟩)
      have eg5 := g3 (b4.trans (same_but (d := d) sm))
      have D5 := D4.keep sm
      have gt1 : DGet H' g (.str one) (some (.int j1)) := g1 ▸ DGet.k (k := .inr one) eg5
      have gt2 : DGet H' g (.str e2.1) (some (.int j2)) := g2 ▸ DGet.k (k := .inr e2.1) eg5
      refine ⟨_, rfl, d, _, 3, _, rfl, rfl, SqL.of D5.at_d, at3, _, rfl, g, _, rfl, gt1, _, rfl, d, _, 3, _, rfl, rfl, SqL.of D5.at_d, at3, _, rfl, g, _, rfl, gt2, _, _, rfl, rfl, _, _, rfl, rfl, _, rfl, ite2 (fun cs => ?_) (fun cs => ⟨sm, os, e9, Nat.le_succ_of_le lo, hos⟩)⟩
      refine ⟨_, rfl, _, e9, Nat.lt_of_le_of_lt (show _ ≤ 40 by rw [List.length_map]; omega) (by decide), fun b o' e' => ?_, os ++ [e2.1], ?_, ?_, fun o ho' => ?_⟩
      · rw [upd_ne (ne_of_none e' hD9)]
        exact sm _ _ e'
      · rw [upd_same, List.map_append]
        rfl
      · rw [List.length_append]
        exact Nat.succ_le_succ lo
      · rcases List.mem_append.mp ho' with ho' | ho'
        · exact hos o ho'
        · rw [List.mem_singleton.mp ho']
          exact ⟨e2.2.1, e2.2.2, j1, j2, he2, of_decide_eq_true ce, g1, g2, j10, j20, of_decide_eq_true cs⟩
    rintro H5 ⟨s5, os, e9, lo, hos⟩
    rw [List.length_map] at lo
    have b5 := b4.trans (same_but (d := d) s5)
    have D5 := D4.keep s5
    have n9 : D9 ≠ d := (ne_of_none D4.at_d hD9).symm
    have okos : ∀ x ∈ os, PyData.canLay0 (.str x) = true := fun x hx => by
      obtain ⟨a2, c2, _, _, h2, _⟩ := hos x hx
      exact KN.nms _ h2
    refine ⟨_, rfl, Nat.zero_le _, fun p0 hp0 => ?_⟩
    have s6 := same_upd (o := .lst []) hp0
    refine ⟨_, _, .lst (SqL.of (s6 _ _ e9)) (dpa_strs os), .lst (SqL.of upd_same) .nil, strs_shaped okos, by decide, _, rfl, ite2 (fun cn => ?_) (fun cn => ⟨_, _, _, _, _, _, _, rfl, b5.trans (same_but s6), D5.keep s6⟩)⟩
    have hne := strs_ne cn
    have b6 := b5.trans (same_but (d := d) s6)
    have D6 := D5.keep s6
    refine ⟨_, rfl, _, rfl, _, rfl, _, rfl, d, s, D9, ns, [.ref g], _, os.map V.str, rfl, D6, n9, .inl (SqL.of (s6 _ _ e9)), hne, fun v H8 hv b8 D8 => ?_⟩
    obtain ⟨o, ho, rfl⟩ := mem_strs hv
    obtain ⟨a2, c2, j1, j2, h2, ec, g1, g2, j10, j20, j12⟩ := hos o ho
    refine ⟨z2, fun inp hinp => ⟨Nat.zero_le _, fun et het => ⟨z4, fun st hst => ⟨_, rfl, z2, fun r hr => ?_⟩⟩⟩⟩
    have s1 := (same_upd (o := .tup [.str one, .str o]) hinp).trans (same_upd (o := .tup []) het)
    refine ret _ inp a1 (.ref et) [one, o] .union c1 _ (same_upd het _ _ upd_same) ⟨et, rfl, upd_same⟩ ((T1 (b6.trans b8)).keep s1) ?_ (fun kvs' hg => ?_) ((b6.trans b8).trans (same_but s1)) (D8.keep s1) st hst r hr
    · exact .union kn1 (ec ▸ abs_mem h2)
    · rw [eg] at hg
      cases hg
      exact size_two g1 g2 j10 (by omega) j20 (by omega) (fun z => absurd z (by decide +kernel)) (fun _ => by omega)
  clear b0 D1 y6 y7 y8 y9 y10 y11 n3
  rintro σ H3 ⟨y6, y7, y8, y9, y10, y11, n3, rfl, b0, D1⟩
  -- sort
  refine ⟨Mid, ?_, ?_⟩
  · refine ⟨_, rfl, rfl, _, rfl, ite2 (fun c => ?_) (fun c => ⟨_, _, _, _, _, _, _, rfl, b0, D1⟩)⟩
    have TT := T1 b0
    refine ⟨_, rfl, a1, rfl, ⟨_, SqL.of TT.cols.all⟩, fun D9 hD9 => ?_⟩
    have n9 : D9 ≠ d := (ne_of_none D1.at_d hD9).symm
    refine lc_list (K := K) (a := a1) (xs := c1.map fun c => .ref c.1) (fun i H' => ∃ n' as, DrawAt H' d s ns [.ref g] n' ∧ But d H3 H' ∧ WaysAt H' c1 as ∧ H' D9 = some (.lst (as.map fun p => .ref p.1)) ∧ as.length ≤ i) ⟨_, [], D1.keep (same_upd hD9), same_but (same_upd hD9), fun p hp => absurd hp List.not_mem_nil, upd_same, Nat.le_refl _⟩ (fun i H' _ h => ?_) ?_ ?_
    · obtain ⟨n', as, D', b', _⟩ := h
      exact SqL.of (TT.cols.but D1 b').all
    · rintro i x H' hx ⟨n', as, D', b', W, e', le⟩
      rw [List.getElem?_map] at hx
      obtain ⟨c, hc, rfl⟩ := Option.map_eq_some_iff.mp hx
      have hi : i < c1.length := (List.getElem?_eq_some_iff.mp hc).1
      have cm := List.mem_of_getElem? hc
      refine ⟨rfl, _, rfl, d, s, ns, [.ref g], _, 2, rfl, D', by decide, fun r H4 r0 r1 b3 D4 => ⟨rfl, _, rfl, ite2 (fun cc => ?_) (fun cc => ?_)⟩⟩
      · have e4 := b3 _ _ n9 e'
        have W4 := W.keep (b3.tup D'.at_d)
        have c4 := (TT.cols.but D1 (b'.trans b3)).each c cm
        refine ⟨_, rfl, c.1, _, 0, _, rfl, rfl, SqT.of c4, rfl, _, rfl, z2, fun ut hut => ?_⟩
        have s5 := same_upd (o := .tup [.str "up", .str "down"]) hut
        refine ⟨d, s, ut, ns, [.ref g], _, [.str "up", .str "down"], rfl, D4.keep s5, (ne_of_none D4.at_d hut).symm, .inr (SqT.of upd_same), (by intro z; cases z), fun v H6 hv b6 D6 => ⟨z2, fun t ht => ?_⟩⟩
        obtain ⟨wy, hw, rfl⟩ := mem_strs (l := ["up", "down"]) hv
        have s7 := same_upd (o := .tup [.str c.2.1, .str wy]) ht
        have e7 := s7 _ _ (b6 _ _ n9 (s5 _ _ e4))
        have b37 : But d H3 (upd H6 t (.tup [.str c.2.1, .str wy])) := (((b'.trans b3).trans (same_but s5)).trans b6).trans (same_but s7)
        have W7 := ((W4.keep (same_t s5)).keep (b6.tup (D4.keep s5).at_d)).keep (same_t s7)
        have D7 := D6.keep s7
        refine ⟨_, e7, ?_, n' + 1 + 1, as ++ [(t, c.2.1, wy)], ?_, ?_, ?_, ?_, ?_⟩
        · rw [List.length_map]
          have := TT.few
          exact Nat.lt_of_le_of_lt (show as.length ≤ 24 by omega) (by decide)
        · exact ⟨by rw [upd_ne n9.symm]; exact D7.at_d, by rw [upd_ne (ne_of_none D1.at_s hD9)]; exact D7.at_s, D7.n0⟩
        · exact fun b o hb e => by
            rw [upd_ne (ne_of_none e hD9)]
            exact b37 _ _ hb e
        · have kt : KeepT (upd H6 t (.tup [.str c.2.1, .str wy])) (upd (upd H6 t (.tup [.str c.2.1, .str wy])) D9 (.lst ((as.map fun p => .ref p.1) ++ [.ref t]))) := fun a xs e => by
            rw [upd_ne (fun z => by rw [z, e7] at e; cases e)]
            exact e
          intro p hp
          rcases List.mem_append.mp hp with hp | hp
          · exact W7.keep kt p hp
          · rw [List.mem_singleton.mp hp]
            refine ⟨kt _ _ upd_same, ⟨c.2.2, List.mem_map.mpr ⟨c, cm, rfl⟩⟩, ?_, TT.cols.ok c cm⟩
            rcases List.mem_cons.mp hw with rfl | hw
            · exact .inl rfl
            · exact .inr (List.mem_singleton.mp hw)
        · rw [upd_same, List.map_append]
          rfl
        · rw [List.length_append]
          exact Nat.succ_le_succ le
      · exact ⟨_, as, D4, b'.trans b3, W.keep (b3.tup D'.at_d), b3 _ _ n9 e', Nat.le_succ_of_le le⟩
    rintro H5 ⟨n5, as0, D5, b5, W5, e5, _⟩
    refine ⟨_, rfl, D9, _, rfl, SqL.of e5, fun p hp => ?_⟩
    rw [cut_2, ← List.map_take]
    obtain ⟨as, eas⟩ : ∃ as, as = as0.take 2 := ⟨_, rfl⟩
    rw [← eas]
    have las : as.length ≤ 2 := by
      rw [eas, List.length_take]
      omega
    have W6 : WaysAt H5 c1 as := fun p hp => W5 p (by rw [eas] at hp; exact List.mem_of_mem_take hp)
    refine ⟨p, _, rfl, .inl ⟨SqL.of upd_same, fun wt hwt => ?_⟩⟩
    have s6 := (same_upd (o := .lst (as.map fun p => .ref p.1)) hp).trans (same_upd (o := .tup (as.map fun p => .ref p.1)) hwt)
    have ew : upd (upd H5 p (.lst (as.map fun p => .ref p.1))) wt (.tup (as.map fun p => .ref p.1)) wt = some (.tup (as.map fun p => .ref p.1)) := upd_same
    replace W6 := W6.keep (same_t s6)
    have D6 := D5.keep s6
    have b6 := (b0.trans b5).trans (same_but (d := d) s6)
    generalize upd (upd H5 p (.lst (as.map fun p => .ref p.1))) wt (.tup (as.map fun p => .ref p.1)) = H6 at ew W6 D6 b6 ⊢
    refine ⟨_, rfl, Nat.zero_le _, fun p0 hp0 => ?_⟩
    have s7 := same_upd (o := .tup []) hp0
    refine ⟨_, _, .tup (SqT.of (s7 _ _ ew)) (ways_dp (W6.keep (same_t s7))), .tup (SqT.of upd_same) .nil, ways_sh W6, by decide, _, rfl, ite2 (fun cn => ?_) (fun cn => ⟨_, _, _, _, _, _, _, rfl, b6.trans (same_but s7), D6.keep s7⟩)⟩
    have hne : as ≠ [] := fun z => by
      rw [z] at cn
      cases cn
    refine ⟨_, rfl, _, rfl, z1, fun inp hinp => ?_⟩
    have s8 := s7.trans (same_upd (o := .tup [.str one]) hinp)
    have ei : upd (upd H6 p0 (.tup [])) inp (.tup [.str one]) inp = some (.tup [.str one]) := upd_same
    refine ⟨_, rfl, _, rfl, d, s, ns, [.ref g], _, 5, rfl, D6.keep s8, by decide, fun m H8 m0 m1 b8 D8 => ⟨_, _, rfl, rfl, z2, fun t ht => ⟨z4, fun st hst => ⟨_, rfl, z2, fun r hr => ?_⟩⟩⟩⟩
    have s9 := same_upd (o := .tup [.ref wt, .int (1 + m)]) ht
    have kt := b8.tup (D6.keep s8).at_d
    have W9 := ((W6.keep (same_t s8)).keep kt).keep (same_t s9)
    refine ret _ inp a1 (.ref t) [one] (.sort (as.map (·.2)) (1 + m)) c1 _ (s9 _ _ (kt _ _ ei)) ⟨t, wt, as, rfl, upd_same, s9 _ _ (kt _ _ (s8 _ _ ew)), fun p hp => (W9 p hp).1, rfl⟩ ((T1 ((b6.trans (same_but s8)).trans b8)).keep s9) ?_ (one_sz (show ("sort" : Str) ≠ "join" by decide +kernel)) (((b6.trans (same_but s8)).trans b8).trans (same_but s9)) (D8.keep s9) st hst r hr
    exact .sort kn1 (fun z => hne (List.map_eq_nil_iff.mp z)) (fun x hx => by
      obtain ⟨p, hp, rfl⟩ := List.mem_map.mp hx
      exact ⟨(W9 p hp).2.1, (W9 p hp).2.2.1⟩) (by rw [List.length_map]; exact las) (by omega) (by omega)
  clear b0 D1 y6 y7 y8 y9 y10 y11 n3
  rintro σ H3 ⟨y6, y7, y8, y9, y10, y11, n3, rfl, b0, D1⟩
  -- unlike
  refine ⟨_, rfl, _, rfl, z1, fun inp hinp => ⟨Nat.zero_le _, fun et het => ⟨z4, fun st hst => ⟨_, rfl, z2, fun r hr => ?_⟩⟩⟩⟩
  have s1 := (same_upd (o := .tup [.str one]) hinp).trans (same_upd (o := .tup []) het)
  exact ret _ inp a1 (.ref et) [one] .unlike c1 _ (same_upd het _ _ upd_same) ⟨et, rfl, upd_same⟩ ((T1 b0).keep s1) (.unlike kn1) (one_sz (show ("unlike" : Str) ≠ "join" by decide +kernel)) (b0.trans (same_but s1)) (D1.keep s1) st hst r hr
end
end Kx

namespace Kx
open PySem PySem.Spec PyProof.Rows L2
section
variable {X : Cx}
/-- the pairs (a text, a value) that stand at these addresses -/
theorem prs_of {pins : List (Addr × Obj)} {σ : L2.St} {H : Hp} {s : Shared} (I : Inv X pins σ H s) : ∀ {ps : List Addr} {kvs : List (Str × V)}, Paired (fun p kv => SqT X.K H p [.str kv.1, kv.2]) ps kvs →
    ∃ prs : List (Value × Value), prs.length = ps.length ∧ kvs.length = ps.length ∧ (∀ (j : Nat) (u v : Value), prs[j]? = some (u, v) → ∃ b, ps[j]? = some b ∧ s.heap.IsTuple b #[u, v]) ∧ ∃ rs : List (L2.Key × Value), L2.KV (kvs.map fun kv => ((.inr kv.1 : L2.Key), kv.2)) rs ∧ rs.length = ps.length ∧ ∀ (j : Nat) (u v : Value), prs[j]? = some (u, v) → ∃ k, rs[j]? = some (k, v) ∧ (mixKind X.prog X.w).is k u = true
  | _, _, .nil => ⟨[], rfl, rfl, fun j u v e => by simp at e, [], .nil, rfl, fun j u v e => by simp at e⟩
  | _, _, .cons (a := p) (b := kv) h t => by
    obtain ⟨prs, l1, l2, hp, rs, hr, l3, hk⟩ := prs_of I t
    obtain ⟨its, rv, pt, _⟩ := I.tuple h
    cases rv with
    | cons r1 rv =>
      cases rv with
      | cons r2 rv =>
        cases rv
        rename_i u1 u2
        refine ⟨(u1, u2) :: prs, by rw [List.length_cons, List.length_cons, l1], by rw [List.length_cons, List.length_cons, l2], fun j u v e => ?_, (.inr kv.1, u2) :: rs, .cons ⟨rfl, r2⟩ hr, by rw [List.length_cons, List.length_cons, l3], fun j u v e => ?_⟩
        · cases j with
          | zero =>
            cases e
            exact ⟨p, rfl, pt⟩
          | succ j => exact hp j u v e
        · cases j with
          | zero =>
            cases e
            exact ⟨.inr kv.1, rfl, (Yk.rel_plain (k := .inr kv.1) r1).2 ▸ Yk.plain_is (Yk.rel_plain (k := .inr kv.1) r1).1⟩
          | succ j => exact hk j u v e
/-- dict(t) of such a tuple of pairs whose keys are texts -/
def rDictT (K : PySem.W.Frag) : List V → Hp → VK → Prop := fun vs H Q => ∃ (a : Addr) (ps : List Addr) (kvs : List (Str × V)), vs = [.ref a] ∧ TupF H a (ps.map V.ref) ∧ Paired (fun p kv => SqT K H p [.str kv.1, kv.2]) ps kvs ∧ ∀ p, H p = none → Q (.ref p) (upd H p (.dK (mergeK [] (kvs.map fun kv => ((.inr kv.1 : L2.Key), kv.2)))))
theorem cr_dictT (hc : X.calm = true) : CallR X (.type "dict") (rDictT X.K) := by
  intro pins s σ H vs us Q I r h
  obtain ⟨a, ps, kvs, rfl, hq, hp, q⟩ := h
  rw [Vals.ref1 r]
  obtain ⟨its, rv, pl, hz⟩ := I.tuple (hq.sq (K := X.K))
  have ei := refs_at rv
  subst ei
  rw [List.length_map] at hz
  obtain ⟨prs, l1, l2, hpr, rs, hr, l3, hk⟩ := prs_of I hp
  have pa : PlainSeq "tuple" s.heap a (ps.map Value.ref).toArray := by
    obtain ⟨o, hd, e⟩ := hq
    have ho := (I.hok a _ e).1
    obtain ⟨o', ho', hc', n, hdat⟩ := pl
    rw [ho] at ho'
    cases ho'
    exact ⟨o, n, ho, hc', hd, hdat⟩
  have items : PairItems s.heap (ps.map Value.ref).toArray (fun j => ps.getD j 0) prs := ⟨by simp [l1], fun j u v e => by
    obtain ⟨b, eb, ht⟩ := hpr j u v e
    have e0 : ps.getD j 0 = b := by simp [List.getD, eb]
    dsimp only
    rw [e0]
    exact ⟨by simp [eb], .inl ht⟩⟩
  refine PySem.call_dict_pairs (knd := mixKind X.prog X.w) (kvs := rs) (PairArg.tuple (prog := X.prog) (w := X.w) a (ps.map Value.ref).toArray (fun j => ps.getD j 0) prs) (I.ok.hd hc) ⟨pa, items⟩ ⟨by rw [l3, l1], fun j u v e => hk j u v e⟩ (by rw [l1]; exact hz) fun h' tk hd' k => ?_
  have hm : (s.heap.objs.size == sysModules) = false := beq_eq_false_iff_ne.mpr (Nat.ne_of_gt I.big)
  have hlen : (mergeK [] (kvs.map fun kv => ((.inr kv.1 : L2.Key), kv.2))).length ≤ sizeLine := by
    refine Nat.le_trans (length_mergeK _ []) ?_
    rw [List.length_nil, Nat.zero_add, List.length_map, l2]
    exact hz
  exact ⟨.ref s.heap.objs.size, upd H s.heap.objs.size (.dK (mergeK [] (kvs.map fun kv => ((.inr kv.1 : L2.Key), kv.2)))), I.laid (t' := tk) (fun b o e => k b o (by simp) e) (Nat.le_refl _) (show ObjOk X.prog X.w _ _ _ (.dK (mergeK [] (kvs.map fun kv => ((.inr kv.1 : L2.Key), kv.2)))) from ⟨hlen, hm, merged [] rs, KV.merge hr .nil, hd'⟩), rfl, q _ (I.hok.fresh (Nat.le_refl _))⟩
/-- a tuple display, the tuple known to have no dict of its own -/
def tTupF (t : TA) : TE := fun σ H Q => t σ H fun xs H1 => xs.length ≤ sizeLine ∧ ∀ (p : Addr) (o : Obj), H1 p = none → o.dict = none → Q (.ref p) (upd H1 p (.frz o (.tup xs)))
theorem pe_tupF {es : List Expr} {t : TA} {k : Nat} {pos : Pos} (h : PA X es t) : PE X (.Tuple es k pos) (tTupF t) := by
  constructor
  intro pins s σ H Q I hq
  refine wpAny_Tuple_spliced (thn (h.run pos pins s σ H _ I hq) ?_)
  rintro us s1 ⟨xs, H1, I1, r, z, q⟩
  have fr := I1.hok.fresh (Nat.le_refl s1.heap.objs.size)
  refine ⟨r.length ▸ z, ?_⟩
  have ob : ObjOk X.prog X.w (upd H1 s1.heap.objs.size (.frz { cls := .type "tuple", data := .seq us.toArray } (.tup xs))) (s1.heap.push { cls := .type "tuple", data := .seq us.toArray }) s1.heap.objs.size (.frz { cls := .type "tuple", data := .seq us.toArray } (.tup xs)) :=
    ⟨Heap.get?_push_size _ rfl, z, us, r, _, Heap.get?_push_size _ rfl, rfl, _, rfl⟩
  exact ⟨.ref s1.heap.objs.size, _, I1.laid (t' := s1.toks) (fun b u e => Heap.get?_push_of_some _ e) (Nat.le_refl _) ob, rfl, q _ { cls := .type "tuple", data := .seq us.toArray } fr rfl⟩
/-- tuple(xs): of a list a new tuple that has no dict of its own, of a tuple itself -/
def rTupleF (K : PySem.W.Frag) : List V → Hp → VK → Prop := fun xs H Q => ∃ p ys, xs = [.ref p] ∧ ((SqL K H p ys ∧ ∀ (l : Addr) (o : Obj), H l = none → o.dict = none → Q (.ref l) (upd H l (.frz o (.tup ys)))) ∨ (SqT K H p ys ∧ Q (.ref p) H))
theorem cr_tupleF : CallR X (.type "tuple") (rTupleF X.K) := by
  intro pins s σ H xs us Q I r h
  obtain ⟨p, ys, rfl, h⟩ := h
  rw [Vals.ref1 r]
  rcases h with ⟨hl, q⟩ | ⟨ht, q⟩
  · obtain ⟨its, rv, pl, hz⟩ := I.list hl
    have hlen := rv.length
    refine call_tuple_list pl.isList (fun h' kp => ?_) (by rw [List.size_toArray]; omega)
    have I1 : Inv X pins σ H { s with heap := h' } := I.kept (t' := s.toks) kp
    have fr := I1.hok.fresh (Nat.le_refl h'.objs.size)
    have ob : ObjOk X.prog X.w (upd H h'.objs.size (.frz { cls := .type "tuple", data := .seq its.toArray } (.tup ys))) (h'.push { cls := .type "tuple", data := .seq its.toArray }) h'.objs.size (.frz { cls := .type "tuple", data := .seq its.toArray } (.tup ys)) :=
      ⟨Heap.get?_push_size _ rfl, hz, its, rv, IsTup.new _ _⟩
    exact ⟨.ref h'.objs.size, _, I1.laid (t' := s.toks) (fun b o e => Heap.get?_push_of_some _ e) (Nat.le_refl _) ob, rfl, q _ { cls := .type "tuple", data := .seq its.toArray } fr rfl⟩
  · obtain ⟨its, rv, pl, _⟩ := I.tuple ht
    exact call_tuple_same pl ⟨.ref p, H, I, rfl, q⟩
end
end Kx

set_option maxHeartbeats 8000000
namespace Kx
open PySem PySem.Spec PyProof.Rows L2
abbrev s_law_job : Stmt := topS 71
def stepNms : List Str := ["a", "b", "s0", "s1", "s2", "s3", "s4", "s5", "s6", "s7"]
theorem s_name {i : Nat} (h : i < 8) : stepNms.take (i + 2) ++ [("s" : Str) ++ Str.ofString (toString ((0 : Int) + (i : Nat)))] = stepNms.take (i + 3) ∧ ("s" : Str) ++ Str.ofString (toString ((0 : Int) + (i : Nat))) ∉ stepNms.take (i + 2) ∧
    ("s" : Str).length + (Str.ofString (toString ((0 : Int) + (i : Nat)))).length ≤ sizeLine ∧ PyData.canLay0 (.str (("s" : Str) ++ Str.ofString (toString ((0 : Int) + (i : Nat))))) = true := by
  match i, h with
  | 0, _ => decide +kernel
  | 1, _ => decide +kernel
  | 2, _ => decide +kernel
  | 3, _ => decide +kernel
  | 4, _ => decide +kernel
  | 5, _ => decide +kernel
  | 6, _ => decide +kernel
  | 7, _ => decide +kernel
theorem log_num8 {i : Nat} (h : i < 8) : ((0 : Int) + (i : Nat)).natAbs.log2 < 1920 := by
  match i, h with
  | 0, _ => decide +kernel
  | 1, _ => decide +kernel
  | 2, _ => decide +kernel
  | 3, _ => decide +kernel
  | 4, _ => decide +kernel
  | 5, _ => decide +kernel
  | 6, _ => decide +kernel
  | 7, _ => decide +kernel
def colsA : List NC := [("k", true), ("t", false), ("n", true)]
def colsB : List NC := [("k", true), ("m", true)]
/-- a drawn job: its steps, and the columns of each -/
inductive JobOk : List Stp → List (Str × List NC) → Prop where
  | base : JobOk [⟨"a", [], .read colsA⟩, ⟨"b", [], .read colsB⟩] [("a", colsA), ("b", colsB)]
  | step {ss : List Stp} {kn : List (Str × List NC)} {nm : Str} {ins : List Str} {det : Det} {cs : List NC} (h : JobOk ss kn) (n : nm ∉ kn.map (·.1)) (k : StepOk kn ins det cs) (nd : (cs.map (·.1)).Nodup) (inn : ∀ c ∈ cs, c.1 ∈ allNames) (ne : cs ≠ []) : JobOk (ss ++ [⟨nm, ins, det⟩]) (kn ++ [(nm, cs)])
theorem StepOk.len {kn : List (Str × List NC)} {ins : List Str} {det : Det} {cs : List NC} (O : StepOk kn ins det cs) : ins.length ≤ 2 := by
  cases O <;> first | exact Nat.le_refl 2 | exact (by decide : 1 ≤ 2)
theorem StepOk.sort_pos {kn : List (Str × List NC)} {ins : List Str} {ws : List (Str × Str)} {m : Int} {cs : List NC} (O : StepOk kn ins (.sort ws m) cs) : 1 ≤ m := by
  cases O
  assumption
theorem val_none {kn : Knw} {x : Str} (h : x ∉ kn.map (·.1)) : valV (kn.map fun e => ((.inr e.1 : L2.Key), V.ref e.2.1)) (.inr x) = none := by
  unfold valV
  rw [List.find?_eq_none.mpr]
  · rfl
  · intro p hp
    obtain ⟨e, he, rfl⟩ := List.mem_map.mp hp
    intro z
    have z' := of_decide_eq_true z
    exact h (List.mem_map.mpr ⟨e, he, Sum.inr.inj z'⟩)
theorem none_same {H H' : Hp} {a : Addr} (h : Same H H') (e : H' a = none) : H a = none := by
  cases q : H a with
  | none => rfl
  | some o =>
    rw [h _ _ q] at e
    cases e
structure JobSt (H0 H : Hp) (d s kd g sl : Addr) (ns : List Int) (as : List (Addr × Stp)) (kn : Knw) (last : Str) (i : Nat) : Prop where
  dr : ∃ n, DrawAt H d s ns [.ref g] n
  b : But d H0 H
  fs' : ∃ o, H0 s = some o
  f1 : H0 kd = none
  f2 : H0 g = none
  f3 : H0 sl = none
  k : KnowsAt H kd g kn
  kg : kd ≠ g
  n3 : sl ≠ d
  e3 : H sl = some (.lst (as.map fun p => .ref p.1))
  off : ∀ e ∈ kn, e.2.1 ≠ sl
  stp : ∀ p ∈ as, StpAt H p.1 p.2
  len : as.length = i + 2
  ok : JobOk (as.map (·.2)) (abs kn)
  nms : kn.map (·.1) = stepNms.take (i + 2)
  lst : last ∈ kn.map (·.1)
  szl : ∀ kvs, H g = some (.dK kvs) → kvs.length ≤ i + 2
theorem JobSt.step {H0 H H' : Hp} {d s kd g sl : Addr} {ns : List Int} {as : List (Addr × Stp)} {kn : Knw} {last : Str} {i : Nat} {n : Int} (S : JobSt H0 H d s kd g sl ns as kn last i) (b : But d H H') (D : DrawAt H' d s ns [.ref g] n) : JobSt H0 H' d s kd g sl ns as kn last i := by
  obtain ⟨n0, D0⟩ := S.dr
  exact ⟨⟨n, D⟩, S.b.trans b, S.fs', S.f1, S.f2, S.f3, S.k.but D0 b, S.kg, S.n3, b _ _ S.n3 S.e3, S.off, fun p hp => (S.stp p hp).keep (b.tup D0.at_d) (b.tupF D0.at_d), S.len, S.ok, S.nms, S.lst, fun kvs e => by
    obtain ⟨kv, h1, _⟩ := S.k.sizes
    have h2 := b _ _ (fun z => by rw [z, D0.at_d] at h1; cases h1) h1
    rw [h2] at e
    cases e
    exact S.szl _ h1⟩
theorem JobSt.new {H0 H : Hp} {d s kd g sl p : Addr} {ns : List Int} {as : List (Addr × Stp)} {kn : Knw} {last : Str} {i : Nat} {o : HO} (S : JobSt H0 H d s kd g sl ns as kn last i) (h : H p = none) : JobSt H0 (upd H p o) d s kd g sl ns as kn last i := by
  obtain ⟨n0, D0⟩ := S.dr
  exact S.step (same_but (same_upd h)) (D0.keep (same_upd h))
theorem JobSt.kn_len {H0 H : Hp} {d s kd g sl : Addr} {ns : List Int} {as : List (Addr × Stp)} {kn : Knw} {last : Str} {i : Nat} (S : JobSt H0 H d s kd g sl ns as kn last i) : kn.length ≤ 10 := by
  have h := congrArg List.length S.nms
  rw [List.length_map, List.length_take] at h
  have : stepNms.length = 10 := rfl
  omega
theorem JobSt.add {H0 H H' : Hp} {d s kd g sl st f : Addr} {ns : List Int} {as : List (Addr × Stp)} {kn : Knw} {last nm : Str} {ins : List Str} {det : Det} {cl : List Col} {i : Nat} {j : Int} {kvs : List (L2.Key × V)} (S : JobSt H0 H d s kd g sl ns as kn last i)
    (X : StpAt H st ⟨nm, ins, det⟩) (T : Tab H f cl) (O : StepOk (abs kn) ins det (cl.map (·.2))) (hn : nm ∉ kn.map (·.1)) (hn2 : stepNms.take (i + 2) ++ [nm] = stepNms.take (i + 3)) (okn : PyData.canLay0 (.str nm) = true) (j0 : 0 ≤ j) (j1 : j ≤ 400) (fs : f ≠ sl)
    (eg : H g = some (.dK kvs)) (lkv : kvs.length + 1 ≤ 40) (hsz : ∀ e ∈ kn, ∃ j : Int, valV kvs (.inr e.1) = some (.int j) ∧ 0 ≤ j ∧ j ≤ 400)
    (off : ∀ b o, b ≠ sl → b ≠ kd → b ≠ g → H b = some o → H' b = some o) (e1 : H' sl = some (.lst ((as.map fun p => .ref p.1) ++ [.ref st]))) (e2 : H' kd = some (.dK (putK (kn.map fun e => ((.inr e.1 : L2.Key), V.ref e.2.1)) (.inr nm) (.ref f)))) (e3 : H' g = some (.dK (putK kvs (.inr nm) (.int j)))) :
    JobSt H0 H' d s kd g sl ns (as ++ [(st, ⟨nm, ins, det⟩)]) (kn ++ [(nm, f, cl)]) nm (i + 1) := by
  obtain ⟨n0, D0⟩ := S.dr
  have ek := S.k.at_k
  have kt : KeepT H H' := fun a xs e => off a _ (fun z => by rw [z, S.e3] at e; cases e) (fun z => by rw [z, ek] at e; cases e) (fun z => by rw [z, eg] at e; cases e) e
  have kf : KeepF H H' := fun a xs ⟨o, dn, e⟩ => ⟨o, dn, off a _ (fun z => by rw [z, S.e3] at e; cases e) (fun z => by rw [z, ek] at e; cases e) (fun z => by rw [z, eg] at e; cases e) e⟩
  have kl : ∀ (a : Addr) (xs : List V), a ≠ sl → H a = some (.lst xs) → H' a = some (.lst xs) := fun a xs h e => off a _ h (fun z => by rw [z, ek] at e; cases e) (fun z => by rw [z, eg] at e; cases e) e
  have ktab : ∀ {a : Addr} {c : List Col}, a ≠ sl → Tab H a c → Tab H' a c := fun h t => ⟨⟨kl _ _ h t.cols.all, fun c hc => kt _ _ (t.cols.each c hc), t.cols.few, t.cols.ok⟩, t.nod, t.inn, t.ne⟩
  obtain ⟨os, es⟩ := S.fs'
  refine ⟨⟨n0, kl _ _ S.n3.symm D0.at_d, kl _ _ (ne_of_none es S.f3) D0.at_s, D0.n0⟩, fun b o hb e => off b o (ne_of_none e S.f3) (ne_of_none e S.f1) (ne_of_none e S.f2) (S.b b o hb e), S.fs', S.f1, S.f2, S.f3, ⟨?_, fun e he => ?_, ?_, ?_, ⟨_, e3, ?_, fun e he => ?_⟩, fun e he => ?_⟩, S.kg, S.n3, ?_, fun e he => ?_, fun p hp => ?_, ?_, ?_, ?_, ?_, fun kv e => ?_⟩
  · rw [e2, putK_new _ (val_none hn), List.map_append]
    rfl
  · rcases List.mem_append.mp he with he | he
    · exact ktab (S.off e he) (S.k.tabs e he)
    · rw [List.mem_singleton.mp he]
      exact ktab fs T
  · rw [List.map_append]
    exact List.nodup_append.mpr ⟨S.k.nod, by simp, fun a ha b hb e => hn (by
      have : b = nm := List.mem_singleton.mp hb
      rw [← this, ← e]
      exact ha)⟩
  · rw [List.length_append]
    have := S.kn_len
    show kn.length + 1 ≤ 40
    omega
  · have := length_putK kvs (.inr nm) (.int j)
    omega
  · rw [valV_put]
    rcases List.mem_append.mp he with he | he
    · obtain ⟨j', h1, h2, h3⟩ := hsz e he
      refine ⟨j', ?_, h2, h3⟩
      rw [if_neg (fun z => hn (by rw [← Sum.inr.inj z]; exact List.mem_map.mpr ⟨e, he, rfl⟩))]
      exact h1
    · rw [List.mem_singleton.mp he, if_pos rfl]
      exact ⟨j, rfl, j0, j1⟩
  · rcases List.mem_append.mp he with he | he
    · exact S.k.nms e he
    · rw [List.mem_singleton.mp he]
      exact okn
  · rw [e1, List.map_append]
    rfl
  · rcases List.mem_append.mp he with he | he
    · exact S.off e he
    · rw [List.mem_singleton.mp he]
      exact fs
  · rcases List.mem_append.mp hp with hp | hp
    · exact (S.stp p hp).keep kt kf
    · rw [List.mem_singleton.mp hp]
      exact X.keep kt kf
  · rw [List.length_append, S.len]
    rfl
  · rw [List.map_append]
    unfold abs
    rw [List.map_append]
    refine .step S.ok (by rw [List.map_map]; exact hn) O ?_ (fun c hc => ?_) (fun z => T.ne (List.map_eq_nil_iff.mp z))
    · rw [List.map_map]
      exact T.nod
    · obtain ⟨c', hc', rfl⟩ := List.mem_map.mp hc
      exact T.inn c' hc'
  · rw [List.map_append, S.nms]
    exact hn2
  · rw [List.map_append]
    exact List.mem_append_right _ List.mem_cons_self
  · rw [e3] at e
    cases e
    have h1 := length_putK kvs (.inr nm) (.int j)
    have h2 := S.szl _ eg
    omega
section
variable {P : Program} {w : World} {K : PySem.W.Frag} {mg : Str → Option Value} {base : Heap}
/-! ### _law_job -/
abbrev N_law_job : List Str := ["draw", "many", "known", "steps", "last", "at", "name", "one", "step", "columns"]
def spJob : Sp := fun vs H Q _ => ∃ (d s : Addr) (ns : List Int) (tl : List V) (n many : Int), vs = [.ref d, .int many] ∧ DrawAt H d s ns tl n ∧ (tl = [] ∨ ∃ x, tl = [x]) ∧ 1 ≤ many ∧ many ≤ 8 ∧
  ∀ (r st g : Addr) (as : List (Addr × Stp)) (kn : List (Str × List NC)) (last : Str) (n' : Int) (H' : Hp), H' r = some (.tup [.ref st, .str last]) → H' st = some (.tup (as.map fun p => .ref p.1)) → (∀ p ∈ as, StpAt H' p.1 p.2) → JobOk (as.map (·.2)) kn → last ∈ kn.map (·.1) → kn.length ≤ 10 → (∀ e ∈ kn, e.1 ∈ stepNms) → But d H H' → DrawAt H' d s ns [.ref g] n' → Q (.ref r) H'
theorem sc_job : FnScope N_law_job ["draw", "many"] (defScope s_law_job) := ⟨rfl, rfl, rfl, by decide +kernel, rfl, by decide +kernel, by decide +kernel⟩
theorem ok_job {f : Addr} {fd : FuncData} (F : Fun K "_law_job" "_law_job" s_law_job f fd) (m_tuple : mg "tuple" = none) (m_sorted : mg "sorted" = none) (m_len : mg "len" = none) (m_str : mg "str" = none) (m_range : mg "range" = none) (G_law_next : Ready P w K mg base 3 "_law_next" ["draw", "bound"] spNext) (G_law_pick : Ready P w K mg base 4 "_law_pick" ["draw", "things"] (spPick K))
    (G_law_step : Ready P w K mg base 9 "_law_step" ["draw", "known", "name", "one"] spStep) (G_law_most : Ready P w K mg base 1 "_law_most" ["draw", "step"] spMost) :
    FnOk P w K mg base CX0 10 f fd ["draw", "many"] spJob := by
  refine F.ok sc_job (fun vs H Q E h => ?_) (fun cdv A outer s0 H vs Q E hr h => ?_)
  · obtain ⟨d, s, ns, tl, n, many, rfl, _⟩ := h
    rfl
  obtain ⟨d, s, ns, tl, n, many, rfl, D, htl, hm1, hm8, q⟩ := h
  have nd := sc_job.nd
  have hr9 : Room 9 _ := hr
  have hr4 : Room 4 _ := hr.mono (by omega)
  have hr3 : Room 3 _ := hr.mono (by omega)
  have hr1 : Room 1 _ := hr.mono (by omega)
  have hu64 : _ + 64 < cLine := hr.units
  have hu1 : _ + 1 < cLine := Nat.lt_of_le_of_lt (Nat.add_le_add_left (by decide : 1 ≤ 64) _) hu64
  refine ⟨_, pss_cons (ps_set (i := 2) nd rfl (.inl rfl) (pe_disp (pps_cons pe_str (pe_lst (pa_cons (pe_tup (pa_cons pe_str (pa_cons pe_str pa_nil))) (pa_cons (pe_tup (pa_cons pe_str (pa_cons pe_str pa_nil))) (pa_cons (pe_tup (pa_cons pe_str (pa_cons pe_str pa_nil))) pa_nil)))) (pps_cons pe_str (pe_lst (pa_cons (pe_tup (pa_cons pe_str (pa_cons pe_str pa_nil))) (pa_cons (pe_tup (pa_cons pe_str (pa_cons pe_str pa_nil))) pa_nil))) pps_nil)) rfl rfl (by intro z; cases z) (by decide)))
      (pss_cons (ps_set (i := 3) nd rfl (.inl rfl) (pe_lst (pa_cons (pe_tup (pa_cons pe_str (pa_cons pe_str (pa_cons (pe_tup pa_nil) (pa_cons (pe_callTy cr_tupleF (by rfl) m_tuple PyProof.Rows.boot_tuple (pa_cons (pe_dget hu1 (pv 2) pe_str (fun _ _ => rfl)) pa_nil)) pa_nil))))) (pa_cons (pe_tup (pa_cons pe_str (pa_cons pe_str (pa_cons (pe_tup pa_nil) (pa_cons (pe_callTy cr_tupleF (by rfl) m_tuple PyProof.Rows.boot_tuple (pa_cons (pe_dget hu1 (pv 2) pe_str (fun _ _ => rfl)) pa_nil)) pa_nil))))) pa_nil))))
      (pss_cons (ps_set (i := 4) nd rfl (.inl rfl) pe_str)
      (C8.pss_cut (ps_if (pt_cmpR op_lt (pe_callB call_len_seq (by rfl) m_len PySem.boot_len (pa_cons (pv 0) pa_nil)) pe_int (nomark _)) (pss_one (ps_expr (pe_bm PySem.F.plainAttrs_list PySem.F.slot_list_append PySem.F.type_list_append mt_append (pv 0) (pa_cons pe_dnewK pa_nil)))) (pss_nil))
      (pss_cons (ps_asg (pe_disp (pps_cons pe_str pe_int (pps_cons pe_str pe_int pps_nil)) rfl rfl (by intro z; cases z) (by decide)) (pg_sub (pv 0) pe_int set_list))
      (pss_cons (ps_for PassesOwn.never rfl (pi_range1 rfl m_range (pa_cons (pe_op op_add pe_int (pe_fn (G_law_next) hr3 (pa_cons (pv 0) (pa_cons (pv 1) pa_nil)))) pa_nil)) (pg_name (i := 5) nd rfl (.inl rfl)) (pss_cons (ps_set (i := 6) nd rfl (.inl rfl) (pe_op op_add_str pe_str (pe_callTy call_str_int (by rfl) m_str PyProof.Rows.boot_str (pa_cons (pv 5) pa_nil))))
      (C8.pss_cut (ps_set (i := 7) nd rfl (.inl rfl) (pe_ifExp (pt_cmpR op_gt (pe_fn (G_law_next) hr3 (pa_cons (pv 0) (pa_cons pe_int pa_nil))) pe_int (nomark _)) (pv 4) (pe_fn (G_law_pick) hr4 (pa_cons (pv 0) (pa_cons (pe_callB (call_sortedD rfl) (by rfl) m_sorted (by decide +kernel) (pa_cons (pv 2) pa_nil)) pa_nil)))))
      (pss_cons (ps_asg (pe_fn (G_law_step) hr9 (pa_cons (pv 0) (pa_cons (pv 2) (pa_cons (pv 6) (pa_cons (pv 7) pa_nil))))) (pg_tup rfl (pgs_cons (pg_name (i := 8) nd rfl (.inl rfl)) (pgs_cons (pg_name (i := 9) nd rfl (.inl rfl)) pgs_nil))))
      (pss_cons (ps_expr (pe_bm PySem.F.plainAttrs_list PySem.F.slot_list_append PySem.F.type_list_append mt_append (pv 3) (pa_cons (pv 8) pa_nil)))
      (pss_cons (ps_asg (pe_tup (pa_cons (pv 9) (pa_cons (pv 6) pa_nil))) (pg_tup rfl (pgs_cons (pg_sub (pv 2) (pv 6) (set_dict hu1)) (pgs_cons (pg_name (i := 4) nd rfl (.inl rfl)) pgs_nil))))
      (pss_one (ps_dput hu1 (pe_ix (show IxR _ (rIxL K) from ix_list) (pv 0) pe_int (fun _ _ => rfl)) (pv 6) (pe_fn (G_law_most) hr1 (pa_cons (pv 0) (pa_cons (pv 8) pa_nil))) rfl))))))))
      (pss_one (ps_ret (pe_tup (pa_cons (pe_callTy call_tuple_of (by rfl) m_tuple PyProof.Rows.boot_tuple (pa_cons (pv 3) pa_nil)) (pa_cons (pv 4) pa_nil)))))))))), ?_⟩
  have z2 : 2 ≤ sizeLine := by decide
  have z3 : 3 ≤ sizeLine := by decide
  have z4 : 4 ≤ sizeLine := by decide
  -- known
  refine fun kd h_kd => ?_
  have tq := same_upd (o := .dK []) h_kd
  have sH := tq
  have e_kd : upd H kd (.dK []) kd = some (.dK []) := upd_same
  generalize upd H kd (.dK []) = Hq1 at e_kd sH ⊢
  clear tq
  refine ⟨z2, fun p1 h_p1 => ?_⟩
  have tq := same_upd (o := .tup [.str "k", .str "int"]) h_p1
  replace e_kd := tq _ _ e_kd
  replace sH := sH.trans tq
  have e_p1 : upd Hq1 p1 (.tup [.str "k", .str "int"]) p1 = some (.tup [.str "k", .str "int"]) := upd_same
  generalize upd Hq1 p1 (.tup [.str "k", .str "int"]) = Hq2 at e_kd e_p1 sH ⊢
  clear tq
  refine ⟨z2, fun p2 h_p2 => ?_⟩
  have tq := same_upd (o := .tup [.str "t", .str "text"]) h_p2
  replace e_kd := tq _ _ e_kd
  replace e_p1 := tq _ _ e_p1
  replace sH := sH.trans tq
  have e_p2 : upd Hq2 p2 (.tup [.str "t", .str "text"]) p2 = some (.tup [.str "t", .str "text"]) := upd_same
  generalize upd Hq2 p2 (.tup [.str "t", .str "text"]) = Hq3 at e_kd e_p1 e_p2 sH ⊢
  clear tq
  refine ⟨z2, fun p3 h_p3 => ?_⟩
  have tq := same_upd (o := .tup [.str "n", .str "int"]) h_p3
  replace e_kd := tq _ _ e_kd
  replace e_p1 := tq _ _ e_p1
  replace e_p2 := tq _ _ e_p2
  replace sH := sH.trans tq
  have e_p3 : upd Hq3 p3 (.tup [.str "n", .str "int"]) p3 = some (.tup [.str "n", .str "int"]) := upd_same
  generalize upd Hq3 p3 (.tup [.str "n", .str "int"]) = Hq4 at e_kd e_p1 e_p2 e_p3 sH ⊢
  clear tq
  refine ⟨z3, fun la h_la => ?_⟩
  have f_la : H la = none := none_same sH h_la
  have tq := same_upd (o := .lst [.ref p1, .ref p2, .ref p3]) h_la
  replace e_kd := tq _ _ e_kd
  replace e_p1 := tq _ _ e_p1
  replace e_p2 := tq _ _ e_p2
  replace e_p3 := tq _ _ e_p3
  replace sH := sH.trans tq
  have e_la : upd Hq4 la (.lst [.ref p1, .ref p2, .ref p3]) la = some (.lst [.ref p1, .ref p2, .ref p3]) := upd_same
  generalize upd Hq4 la (.lst [.ref p1, .ref p2, .ref p3]) = Hq5 at e_kd e_p1 e_p2 e_p3 e_la sH ⊢
  clear tq
  refine ⟨z2, fun p4 h_p4 => ?_⟩
  have tq := same_upd (o := .tup [.str "k", .str "int"]) h_p4
  replace e_kd := tq _ _ e_kd
  replace e_p1 := tq _ _ e_p1
  replace e_p2 := tq _ _ e_p2
  replace e_p3 := tq _ _ e_p3
  replace e_la := tq _ _ e_la
  replace sH := sH.trans tq
  have e_p4 : upd Hq5 p4 (.tup [.str "k", .str "int"]) p4 = some (.tup [.str "k", .str "int"]) := upd_same
  generalize upd Hq5 p4 (.tup [.str "k", .str "int"]) = Hq6 at e_kd e_p1 e_p2 e_p3 e_la e_p4 sH ⊢
  clear tq
  refine ⟨z2, fun p5 h_p5 => ?_⟩
  have tq := same_upd (o := .tup [.str "m", .str "int"]) h_p5
  replace e_kd := tq _ _ e_kd
  replace e_p1 := tq _ _ e_p1
  replace e_p2 := tq _ _ e_p2
  replace e_p3 := tq _ _ e_p3
  replace e_la := tq _ _ e_la
  replace e_p4 := tq _ _ e_p4
  replace sH := sH.trans tq
  have e_p5 : upd Hq6 p5 (.tup [.str "m", .str "int"]) p5 = some (.tup [.str "m", .str "int"]) := upd_same
  generalize upd Hq6 p5 (.tup [.str "m", .str "int"]) = Hq7 at e_kd e_p1 e_p2 e_p3 e_la e_p4 e_p5 sH ⊢
  clear tq
  refine ⟨z2, fun lb h_lb => ?_⟩
  have f_lb : H lb = none := none_same sH h_lb
  have tq := same_upd (o := .lst [.ref p4, .ref p5]) h_lb
  replace e_kd := tq _ _ e_kd
  replace e_p1 := tq _ _ e_p1
  replace e_p2 := tq _ _ e_p2
  replace e_p3 := tq _ _ e_p3
  replace e_la := tq _ _ e_la
  replace e_p4 := tq _ _ e_p4
  replace e_p5 := tq _ _ e_p5
  replace sH := sH.trans tq
  have e_lb : upd Hq7 lb (.lst [.ref p4, .ref p5]) lb = some (.lst [.ref p4, .ref p5]) := upd_same
  generalize upd Hq7 lb (.lst [.ref p4, .ref p5]) = Hq8 at e_kd e_p1 e_p2 e_p3 e_la e_p4 e_p5 e_lb sH ⊢
  clear tq
  refine ⟨e_kd, [(.inr "a", .ref la), (.inr "b", .ref lb)], rfl, (show 2 ≤ 15 by decide), ?_⟩
  have emk : mergeK [] [((.inr "a" : L2.Key), V.ref la), (.inr "b", .ref lb)] = [(.inr "a", .ref la), (.inr "b", .ref lb)] := rfl
  rw [emk]
  -- the dict is filled: all but it is kept
  have offk : ∀ b o, b ≠ kd → Hq8 b = some o → upd Hq8 kd (.dK [(.inr "a", .ref la), (.inr "b", .ref lb)]) b = some o := fun b o h e => by
    rw [upd_ne h]
    exact e
  have ne_kd : ∀ {a : Addr} {o : HO}, Hq8 a = some o → o ≠ .dK [] → a ≠ kd := fun e h z => by
    rw [z, e_kd] at e
    exact h (Option.some.inj e).symm
  replace e_p1 := offk _ _ (ne_kd e_p1 (by intro z; cases z)) e_p1
  replace e_p2 := offk _ _ (ne_kd e_p2 (by intro z; cases z)) e_p2
  replace e_p3 := offk _ _ (ne_kd e_p3 (by intro z; cases z)) e_p3
  replace e_la := offk _ _ (ne_kd e_la (by intro z; cases z)) e_la
  replace e_p4 := offk _ _ (ne_kd e_p4 (by intro z; cases z)) e_p4
  replace e_p5 := offk _ _ (ne_kd e_p5 (by intro z; cases z)) e_p5
  replace e_lb := offk _ _ (ne_kd e_lb (by intro z; cases z)) e_lb
  have s9 : Same H (upd Hq8 kd (.dK [(.inr "a", .ref la), (.inr "b", .ref lb)])) := fun b o e => offk b o (ne_of_none e h_kd) (sH _ _ e)
  replace e_kd : upd Hq8 kd (.dK [(.inr "a", .ref la), (.inr "b", .ref lb)]) kd = some (.dK [(.inr "a", .ref la), (.inr "b", .ref lb)]) := upd_same
  clear offk ne_kd sH
  replace sH := s9
  clear s9
  generalize upd Hq8 kd (.dK [(.inr "a", .ref la), (.inr "b", .ref lb)]) = Hq9 at e_kd e_p1 e_p2 e_p3 e_la e_p4 e_p5 e_lb sH ⊢
  -- steps
  refine ⟨Nat.zero_le _, fun ta0 h_ta0 => ?_⟩
  have tq := same_upd (o := .tup []) h_ta0
  replace e_kd := tq _ _ e_kd
  replace e_p1 := tq _ _ e_p1
  replace e_p2 := tq _ _ e_p2
  replace e_p3 := tq _ _ e_p3
  replace e_la := tq _ _ e_la
  replace e_p4 := tq _ _ e_p4
  replace e_p5 := tq _ _ e_p5
  replace e_lb := tq _ _ e_lb
  replace sH := sH.trans tq
  have e_ta0 : upd Hq9 ta0 (.tup []) ta0 = some (.tup []) := upd_same
  generalize upd Hq9 ta0 (.tup []) = Hq10 at e_kd e_p1 e_p2 e_p3 e_la e_p4 e_p5 e_lb e_ta0 sH ⊢
  clear tq
  refine ⟨_, rfl, kd, _, rfl, DGet.k (k := .inr "a") e_kd, la, _, rfl, .inl ⟨SqL.of e_la, fun ta o_ta h_ta d_ta => ?_⟩⟩
  have tq := same_upd (o := .frz o_ta (.tup [.ref p1, .ref p2, .ref p3])) h_ta
  replace e_kd := tq _ _ e_kd
  replace e_p1 := tq _ _ e_p1
  replace e_p2 := tq _ _ e_p2
  replace e_p3 := tq _ _ e_p3
  replace e_la := tq _ _ e_la
  replace e_p4 := tq _ _ e_p4
  replace e_p5 := tq _ _ e_p5
  replace e_lb := tq _ _ e_lb
  replace e_ta0 := tq _ _ e_ta0
  replace sH := sH.trans tq
  have e_ta : upd Hq10 ta (.frz o_ta (.tup [.ref p1, .ref p2, .ref p3])) ta = some (.frz o_ta (.tup [.ref p1, .ref p2, .ref p3])) := upd_same
  generalize upd Hq10 ta (.frz o_ta (.tup [.ref p1, .ref p2, .ref p3])) = Hq11 at e_kd e_p1 e_p2 e_p3 e_la e_p4 e_p5 e_lb e_ta0 e_ta sH ⊢
  clear tq
  refine ⟨z4, fun sa h_sa => ?_⟩
  have tq := same_upd (o := .tup [.str "a", .str "read", .ref ta0, .ref ta]) h_sa
  replace e_kd := tq _ _ e_kd
  replace e_p1 := tq _ _ e_p1
  replace e_p2 := tq _ _ e_p2
  replace e_p3 := tq _ _ e_p3
  replace e_la := tq _ _ e_la
  replace e_p4 := tq _ _ e_p4
  replace e_p5 := tq _ _ e_p5
  replace e_lb := tq _ _ e_lb
  replace e_ta0 := tq _ _ e_ta0
  replace e_ta := tq _ _ e_ta
  replace sH := sH.trans tq
  have e_sa : upd Hq11 sa (.tup [.str "a", .str "read", .ref ta0, .ref ta]) sa = some (.tup [.str "a", .str "read", .ref ta0, .ref ta]) := upd_same
  generalize upd Hq11 sa (.tup [.str "a", .str "read", .ref ta0, .ref ta]) = Hq12 at e_kd e_p1 e_p2 e_p3 e_la e_p4 e_p5 e_lb e_ta0 e_ta e_sa sH ⊢
  clear tq
  refine ⟨Nat.zero_le _, fun tb0 h_tb0 => ?_⟩
  have tq := same_upd (o := .tup []) h_tb0
  replace e_kd := tq _ _ e_kd
  replace e_p1 := tq _ _ e_p1
  replace e_p2 := tq _ _ e_p2
  replace e_p3 := tq _ _ e_p3
  replace e_la := tq _ _ e_la
  replace e_p4 := tq _ _ e_p4
  replace e_p5 := tq _ _ e_p5
  replace e_lb := tq _ _ e_lb
  replace e_ta0 := tq _ _ e_ta0
  replace e_ta := tq _ _ e_ta
  replace e_sa := tq _ _ e_sa
  replace sH := sH.trans tq
  have e_tb0 : upd Hq12 tb0 (.tup []) tb0 = some (.tup []) := upd_same
  generalize upd Hq12 tb0 (.tup []) = Hq13 at e_kd e_p1 e_p2 e_p3 e_la e_p4 e_p5 e_lb e_ta0 e_ta e_sa e_tb0 sH ⊢
  clear tq
  refine ⟨_, rfl, kd, _, rfl, DGet.k (k := .inr "b") e_kd, lb, _, rfl, .inl ⟨SqL.of e_lb, fun tb o_tb h_tb d_tb => ?_⟩⟩
  have tq := same_upd (o := .frz o_tb (.tup [.ref p4, .ref p5])) h_tb
  replace e_kd := tq _ _ e_kd
  replace e_p1 := tq _ _ e_p1
  replace e_p2 := tq _ _ e_p2
  replace e_p3 := tq _ _ e_p3
  replace e_la := tq _ _ e_la
  replace e_p4 := tq _ _ e_p4
  replace e_p5 := tq _ _ e_p5
  replace e_lb := tq _ _ e_lb
  replace e_ta0 := tq _ _ e_ta0
  replace e_ta := tq _ _ e_ta
  replace e_sa := tq _ _ e_sa
  replace e_tb0 := tq _ _ e_tb0
  replace sH := sH.trans tq
  have e_tb : upd Hq13 tb (.frz o_tb (.tup [.ref p4, .ref p5])) tb = some (.frz o_tb (.tup [.ref p4, .ref p5])) := upd_same
  generalize upd Hq13 tb (.frz o_tb (.tup [.ref p4, .ref p5])) = Hq14 at e_kd e_p1 e_p2 e_p3 e_la e_p4 e_p5 e_lb e_ta0 e_ta e_sa e_tb0 e_tb sH ⊢
  clear tq
  refine ⟨z4, fun sb h_sb => ?_⟩
  have tq := same_upd (o := .tup [.str "b", .str "read", .ref tb0, .ref tb]) h_sb
  replace e_kd := tq _ _ e_kd
  replace e_p1 := tq _ _ e_p1
  replace e_p2 := tq _ _ e_p2
  replace e_p3 := tq _ _ e_p3
  replace e_la := tq _ _ e_la
  replace e_p4 := tq _ _ e_p4
  replace e_p5 := tq _ _ e_p5
  replace e_lb := tq _ _ e_lb
  replace e_ta0 := tq _ _ e_ta0
  replace e_ta := tq _ _ e_ta
  replace e_sa := tq _ _ e_sa
  replace e_tb0 := tq _ _ e_tb0
  replace e_tb := tq _ _ e_tb
  replace sH := sH.trans tq
  have e_sb : upd Hq14 sb (.tup [.str "b", .str "read", .ref tb0, .ref tb]) sb = some (.tup [.str "b", .str "read", .ref tb0, .ref tb]) := upd_same
  generalize upd Hq14 sb (.tup [.str "b", .str "read", .ref tb0, .ref tb]) = Hq15 at e_kd e_p1 e_p2 e_p3 e_la e_p4 e_p5 e_lb e_ta0 e_ta e_sa e_tb0 e_tb e_sb sH ⊢
  clear tq
  refine ⟨z2, fun sl h_sl => ?_⟩
  have f_sl : H sl = none := none_same sH h_sl
  have tq := same_upd (o := .lst [.ref sa, .ref sb]) h_sl
  replace e_kd := tq _ _ e_kd
  replace e_p1 := tq _ _ e_p1
  replace e_p2 := tq _ _ e_p2
  replace e_p3 := tq _ _ e_p3
  replace e_la := tq _ _ e_la
  replace e_p4 := tq _ _ e_p4
  replace e_p5 := tq _ _ e_p5
  replace e_lb := tq _ _ e_lb
  replace e_ta0 := tq _ _ e_ta0
  replace e_ta := tq _ _ e_ta
  replace e_sa := tq _ _ e_sa
  replace e_tb0 := tq _ _ e_tb0
  replace e_tb := tq _ _ e_tb
  replace e_sb := tq _ _ e_sb
  replace sH := sH.trans tq
  have e_sl : upd Hq15 sl (.lst [.ref sa, .ref sb]) sl = some (.lst [.ref sa, .ref sb]) := upd_same
  generalize upd Hq15 sl (.lst [.ref sa, .ref sb]) = Hq16 at e_kd e_p1 e_p2 e_p3 e_la e_p4 e_p5 e_lb e_ta0 e_ta e_sa e_tb0 e_tb e_sb e_sl sH ⊢
  clear tq
  have D1 := D.keep sH
  have nkd : ∀ {a : Addr} {o : HO}, Hq16 a = some o → (∀ xs, o ≠ .lst xs) → a ≠ d := fun e h z => by
    rw [z, D1.at_d] at e
    exact h _ (Option.some.inj e).symm
  have nsl : sl ≠ d := (ne_of_none D.at_d f_sl).symm
  -- a fourth thing
  refine ⟨fun σ H' => σ = [some (.ref d), some (.int many), some (.ref kd), some (.ref sl), some (.str "a"), none, none, none, none, none] ∧ ∃ x, DrawAt H' d s ns [x] n ∧ But d Hq16 H', ?_, ?_⟩
  · rcases htl with rfl | ⟨x, rfl⟩
    · refine ⟨_, rfl, d, _, rfl, .inl (SqL.of D1.at_d), _, _, rfl, rfl, _, rfl, iteT ?_⟩
      refine ⟨_, rfl, .inl ⟨rfl, _, SqL.of D1.at_d⟩, fun p hp => ⟨d, _, _, rfl, rfl, same_upd hp _ _ D1.at_d, (show 3 < sizeLine by decide), rfl, .ref p, ⟨upd_same, ?_, D1.n0⟩, fun b o hb e => ?_⟩⟩
      · rw [upd_ne D1.ne]
        exact same_upd hp _ _ D1.at_s
      · rw [upd_ne hb]
        exact same_upd hp _ _ e
    · refine ⟨_, rfl, d, _, rfl, .inl (SqL.of D1.at_d), _, _, rfl, rfl, _, rfl, iteF ?_⟩
      exact ⟨rfl, x, D1, But.refl _ _⟩
  rintro σ H1 ⟨rfl, x, D2, b2⟩
  have bla : la ≠ d := (ne_of_none D.at_d f_la).symm
  have blb : lb ≠ d := (ne_of_none D.at_d f_lb).symm
  replace e_kd := b2 _ _ (nkd e_kd (by intro xs z; cases z)) e_kd
  replace e_p1 := b2 _ _ (nkd e_p1 (by intro xs z; cases z)) e_p1
  replace e_p2 := b2 _ _ (nkd e_p2 (by intro xs z; cases z)) e_p2
  replace e_p3 := b2 _ _ (nkd e_p3 (by intro xs z; cases z)) e_p3
  replace e_la := b2 _ _ bla e_la
  replace e_p4 := b2 _ _ (nkd e_p4 (by intro xs z; cases z)) e_p4
  replace e_p5 := b2 _ _ (nkd e_p5 (by intro xs z; cases z)) e_p5
  replace e_lb := b2 _ _ blb e_lb
  replace e_ta0 := b2 _ _ (nkd e_ta0 (by intro xs z; cases z)) e_ta0
  replace e_ta := b2 _ _ (nkd e_ta (by intro xs z; cases z)) e_ta
  replace e_sa := b2 _ _ (nkd e_sa (by intro xs z; cases z)) e_sa
  replace e_tb0 := b2 _ _ (nkd e_tb0 (by intro xs z; cases z)) e_tb0
  replace e_tb := b2 _ _ (nkd e_tb (by intro xs z; cases z)) e_tb
  replace e_sb := b2 _ _ (nkd e_sb (by intro xs z; cases z)) e_sb
  replace e_sl := b2 _ _ nsl e_sl
  have b02 : But d H H1 := (same_but sH).trans b2
  clear nkd D1 sH b2 htl
  -- the sizes
  have nkd : ∀ {a : Addr} {o : HO}, H1 a = some o → (∀ xs, o ≠ .lst xs) → a ≠ d := fun e h z => by
    rw [z, D2.at_d] at e
    exact h _ (Option.some.inj e).symm
  refine fun g hg => ⟨upd_same, [(.inr "a", .int 20), (.inr "b", .int 20)], rfl, (show 2 ≤ 15 by decide), _, rfl, d, [.ref s, .int 0, .int n, x], 3, 3, rfl, rfl, ?_, rfl, ?_⟩
  · rw [upd_upd]
    exact same_upd hg _ _ D2.at_d
  rw [upd_upd]
  have emg : mergeK [] [((.inr "a" : L2.Key), V.int 20), (.inr "b", .int 20)] = [(.inr "a", .int 20), (.inr "b", .int 20)] := rfl
  rw [emg]
  have fg : H g = none := by
    cases z : H g with
    | none => rfl
    | some o =>
      by_cases e : g = d
      · rw [e, D2.at_d] at hg
        cases hg
      · rw [b02 _ _ e z] at hg
        cases hg
  have sg := same_upd (o := .dK [(.inr "a", .int 20), (.inr "b", .int 20)]) hg
  have gd : g ≠ d := fun e => by
    rw [e, D2.at_d] at hg
    cases hg
  have kg : kd ≠ g := fun e => by
    rw [← e, e_kd] at hg
    cases hg
  have keep : ∀ b o, b ≠ d → H1 b = some o → upd (upd H1 g (.dK [(.inr "a", .int 20), (.inr "b", .int 20)])) d (.lst ([V.ref s, .int 0, .int n, x].set 3 (.ref g))) b = some o := fun b o h e => by
    rw [upd_ne h]
    exact sg _ _ e
  replace e_kd := keep _ _ (nkd e_kd (by intro xs z; cases z)) e_kd
  replace e_p1 := keep _ _ (nkd e_p1 (by intro xs z; cases z)) e_p1
  replace e_p2 := keep _ _ (nkd e_p2 (by intro xs z; cases z)) e_p2
  replace e_p3 := keep _ _ (nkd e_p3 (by intro xs z; cases z)) e_p3
  replace e_la := keep _ _ bla e_la
  replace e_p4 := keep _ _ (nkd e_p4 (by intro xs z; cases z)) e_p4
  replace e_p5 := keep _ _ (nkd e_p5 (by intro xs z; cases z)) e_p5
  replace e_lb := keep _ _ blb e_lb
  replace e_ta0 := keep _ _ (nkd e_ta0 (by intro xs z; cases z)) e_ta0
  replace e_ta := keep _ _ (nkd e_ta (by intro xs z; cases z)) e_ta
  replace e_sa := keep _ _ (nkd e_sa (by intro xs z; cases z)) e_sa
  replace e_tb0 := keep _ _ (nkd e_tb0 (by intro xs z; cases z)) e_tb0
  replace e_tb := keep _ _ (nkd e_tb (by intro xs z; cases z)) e_tb
  replace e_sb := keep _ _ (nkd e_sb (by intro xs z; cases z)) e_sb
  replace e_sl := keep _ _ nsl e_sl
  have D3 : DrawAt (upd (upd H1 g (.dK [(.inr "a", .int 20), (.inr "b", .int 20)])) d (.lst ([V.ref s, .int 0, .int n, x].set 3 (.ref g)))) d s ns [.ref g] n := ⟨upd_same, keep _ _ D2.ne D2.at_s, D2.n0⟩
  have e_g : upd (upd H1 g (.dK [(.inr "a", .int 20), (.inr "b", .int 20)])) d (.lst ([V.ref s, .int 0, .int n, x].set 3 (.ref g))) g = some (.dK [(.inr "a", .int 20), (.inr "b", .int 20)]) := by
    rw [upd_ne gd]
    exact upd_same
  have b3 : But d H (upd (upd H1 g (.dK [(.inr "a", .int 20), (.inr "b", .int 20)])) d (.lst ([V.ref s, .int 0, .int n, x].set 3 (.ref g)))) := fun b o h e => keep b o h (b02 _ _ h e)
  generalize upd (upd H1 g (.dK [(.inr "a", .int 20), (.inr "b", .int 20)])) d (.lst ([V.ref s, .int 0, .int n, x].set 3 (.ref g))) = H3 at D3 e_g b3 e_kd e_p1 e_p2 e_p3 e_la e_p4 e_p5 e_lb e_ta0 e_ta e_sa e_tb0 e_tb e_sb e_sl ⊢
  clear nkd keep sg hg b02 D2
  have S0 : JobSt H H3 d s kd g sl ns [(sa, ⟨"a", [], .read colsA⟩), (sb, ⟨"b", [], .read colsB⟩)] [("a", la, [(p1, "k", true), (p2, "t", false), (p3, "n", true)]), ("b", lb, [(p4, "k", true), (p5, "m", true)])] "a" 0 := by
    refine ⟨⟨n, D3⟩, b3, ⟨_, D.at_s⟩, h_kd, fg, f_sl, ⟨e_kd, ?_, by show (["a", "b"] : List Str).Nodup; decide +kernel, (show 2 ≤ 40 by decide), ⟨_, e_g, (show 2 ≤ 40 by decide), ?_⟩, ?_⟩, kg, nsl, e_sl, ?_, ?_, rfl, .base, rfl, List.mem_cons_self, fun kvs e => by
      rw [e_g] at e
      cases e
      exact Nat.le_refl 2⟩
    · intro e he
      rcases List.mem_cons.mp he with rfl | he
      · refine ⟨⟨e_la, fun c hc => ?_, (show 3 ≤ 1000 by decide), fun c hc => ?_⟩, by show (["k", "t", "n"] : List Str).Nodup; decide +kernel, fun c hc => ?_, by intro z; cases z⟩
        · rcases List.mem_cons.mp hc with rfl | hc
          · exact e_p1
          rcases List.mem_cons.mp hc with rfl | hc
          · exact e_p2
          · rw [List.mem_singleton.mp hc]
            exact e_p3
        · rcases List.mem_cons.mp hc with rfl | hc
          · exact (by decide +kernel : PyData.canLay0 (.str "k") = true)
          rcases List.mem_cons.mp hc with rfl | hc
          · exact (by decide +kernel : PyData.canLay0 (.str "t") = true)
          · rw [List.mem_singleton.mp hc]
            exact (by decide +kernel : PyData.canLay0 (.str "n") = true)
        · rcases List.mem_cons.mp hc with rfl | hc
          · exact (by decide +kernel : ("k" : Str) ∈ allNames)
          rcases List.mem_cons.mp hc with rfl | hc
          · exact (by decide +kernel : ("t" : Str) ∈ allNames)
          · rw [List.mem_singleton.mp hc]
            exact (by decide +kernel : ("n" : Str) ∈ allNames)
      · rw [List.mem_singleton.mp he]
        refine ⟨⟨e_lb, fun c hc => ?_, (show 2 ≤ 1000 by decide), fun c hc => ?_⟩, by show (["k", "m"] : List Str).Nodup; decide +kernel, fun c hc => ?_, by intro z; cases z⟩
        · rcases List.mem_cons.mp hc with rfl | hc
          · exact e_p4
          · rw [List.mem_singleton.mp hc]
            exact e_p5
        · rcases List.mem_cons.mp hc with rfl | hc
          · exact (by decide +kernel : PyData.canLay0 (.str "k") = true)
          · rw [List.mem_singleton.mp hc]
            exact (by decide +kernel : PyData.canLay0 (.str "m") = true)
        · rcases List.mem_cons.mp hc with rfl | hc
          · exact (by decide +kernel : ("k" : Str) ∈ allNames)
          · rw [List.mem_singleton.mp hc]
            exact (by decide +kernel : ("m" : Str) ∈ allNames)
    · intro e he
      rcases List.mem_cons.mp he with rfl | he
      · exact ⟨20, rfl, by decide, by decide⟩
      · rw [List.mem_singleton.mp he]
        exact ⟨20, rfl, by decide, by decide⟩
    · intro e he
      rcases List.mem_cons.mp he with rfl | he
      · exact (by decide +kernel : PyData.canLay0 (.str "a") = true)
      · rw [List.mem_singleton.mp he]
        exact (by decide +kernel : PyData.canLay0 (.str "b") = true)
    · intro e he
      rcases List.mem_cons.mp he with rfl | he
      · intro z
        have z' : la = sl := z
        rw [z', e_sl] at e_la
        cases e_la
      · rw [List.mem_singleton.mp he]
        intro z
        have z' : lb = sl := z
        rw [z', e_sl] at e_lb
        have z2 : sa = p4 := by
          have := Option.some.inj e_lb
          injection this with this
          injection this with this _
          injection this
        rw [← z2, e_sa] at e_p4
        cases e_p4
    · intro p hp
      rcases List.mem_cons.mp hp with rfl | hp
      · refine ⟨ta0, .ref ta, e_sa, e_ta0, ta, [(p1, "k", true), (p2, "t", false), (p3, "n", true)], rfl, ⟨o_ta, d_ta, e_ta⟩, fun c hc => ?_, rfl⟩
        rcases List.mem_cons.mp hc with rfl | hc
        · exact e_p1
        rcases List.mem_cons.mp hc with rfl | hc
        · exact e_p2
        · rw [List.mem_singleton.mp hc]
          exact e_p3
      · rw [List.mem_singleton.mp hp]
        refine ⟨tb0, .ref tb, e_sb, e_tb0, tb, [(p4, "k", true), (p5, "m", true)], rfl, ⟨o_tb, d_tb, e_tb⟩, fun c hc => ?_, rfl⟩
        rcases List.mem_cons.mp hc with rfl | hc
        · exact e_p4
        · rw [List.mem_singleton.mp hc]
          exact e_p5
  clear e_p1 e_p2 e_p3 e_p4 e_p5 e_ta0 e_tb0 e_ta e_tb e_sa e_sb e_la e_lb e_sl e_kd e_g D3 b3 h_kd fg f_sl kg nsl
  -- the steps
  obtain ⟨n0, D0⟩ := S0.dr
  refine ⟨_, rfl, _, rfl, d, s, ns, [.ref g], _, many, rfl, D0, by omega, fun r H4 r0 r1 b4 D4 => ⟨_, _, rfl, rfl, _, rfl, by omega, by omega, ?_⟩⟩
  have S1 := S0.step b4 D4
  clear S0 D0 b4 D4
  refine for_range (fun i σ H' => ∃ y5 y6 y7 y8 y9 as kn last, σ = [some (.ref d), some (.int many), some (.ref kd), some (.ref sl), some (.str last), y5, y6, y7, y8, y9] ∧ JobSt H H' d s kd g sl ns as kn last i) ⟨none, none, none, none, none, _, _, "a", rfl, S1⟩ ?_ ?_
  · rintro i σ H5 hi ⟨y5, y6, y7, y8, y9, as, kn, last, rfl, S5⟩
    have hi8 : i < 8 := by omega
    obtain ⟨sn1, sn2, sn3, sn4⟩ := s_name hi8
    refine ⟨_, rfl, _, rfl, log_num8 hi8, "s", _, rfl, rfl, sn3, ?_⟩
    generalize ("s" : Str) ++ Str.ofString (toString ((0 : Int) + (i : Nat))) = nm at sn1 sn2 sn4 ⊢
    obtain ⟨n5, D5⟩ := S5.dr
    refine ⟨fun σ H' => ∃ e, σ = [some (.ref d), some (.int many), some (.ref kd), some (.ref sl), some (.str last), some (.int ((0 : Int) + (i : Nat))), some (.str nm), some (.str e.1), y8, y9] ∧ e ∈ kn ∧ JobSt H H' d s kd g sl ns as kn last i, ?_, ?_⟩
    · refine ⟨_, rfl, d, s, ns, [.ref g], _, 3, rfl, D5, by decide, fun r3 H6 _ _ b6 D6 => ⟨_, _, rfl, rfl, _, rfl, ?_⟩⟩
      have S6 := S5.step b6 D6
      refine ite2 (fun c => ⟨_, rfl, ?_⟩) (fun c => ?_)
      · obtain ⟨e, he, el⟩ := List.mem_map.mp S6.lst
        exact ⟨e, by rw [el]; rfl, he, S6⟩
      · refine ⟨_, rfl, _, rfl, kd, _, kn.map (·.1), rfl, .inl S6.k.at_k, (by rw [List.map_map, List.map_map]; rfl), (by rw [List.length_map]; have := S6.kn_len; omega), fun ys p pm _ hp => ?_⟩
        have sp := same_upd (o := .lst (ys.map V.str)) hp
        refine ⟨d, s, p, ns, [.ref g], _, ys.map V.str, rfl, D6.keep sp, (ne_of_none D6.at_d hp).symm, .inl (SqL.of upd_same), ?_, fun v H7 hv b7 D7 => ?_⟩
        · intro z
          rw [List.map_eq_nil_iff.mp z] at pm
          have h2 := pm.nil_eq
          have h3 := S6.lst
          rw [← h2] at h3
          exact absurd h3 List.not_mem_nil
        obtain ⟨o, ho, rfl⟩ := mem_strs hv
        obtain ⟨e, he, rfl⟩ := List.mem_map.mp (pm.mem_iff.mp ho)
        exact ⟨e, rfl, he, (S6.new hp).step b7 D7⟩
    clear S5 D5 n5
    rintro σ H6 ⟨e1, rfl, he1, S6⟩
    obtain ⟨n6, D6⟩ := S6.dr
    refine ⟨_, rfl, _, rfl, _, rfl, _, rfl, d, s, kd, g, kn, nm, e1.1, e1.2.1, e1.2.2, ns, _, rfl, D6, S6.k, he1, fun r2 st f0 ins det cl n7 H7 er X T O Z b7 D7 => ?_⟩
    refine ⟨r2, _, rfl, SqT.of er, rfl, _, _, rfl, _, _, rfl, rfl, ?_⟩
    have S7 := S6.step b7 D7
    have nmk : nm ∉ kn.map (·.1) := by
      rw [S7.nms]
      exact sn2
    have gnd : g ≠ d := fun z => by
      obtain ⟨kv, h1, _⟩ := S6.k.sizes
      rw [z, D6.at_d] at h1
      cases h1
    obtain ⟨kvs, eg6, _, _⟩ := S6.k.sizes
    have eg7 := b7 _ _ gnd eg6
    obtain ⟨kvs', eg7', lkv, hsz⟩ := S7.k.sizes
    have : kvs' = kvs := by
      rw [eg7] at eg7'
      cases eg7'
      rfl
    subst this
    have fsl : f0 ≠ sl := fun z => by
      have h1 := T.cols.all
      rw [z, S7.e3] at h1
      have h2 : (as.map fun p => V.ref p.1) = cl.map fun c => V.ref c.1 := by
        injection h1 with h1
        injection h1
      cases hcl : cl with
      | nil => exact T.ne hcl
      | cons c cl' =>
        cases has : as with
        | nil =>
          rw [hcl, has] at h2
          cases h2
        | cons p as' =>
          rw [hcl, has] at h2
          have h3 : p.1 = c.1 := by
            injection h2 with h2 _
            injection h2
          have h4 := T.cols.each c (by rw [hcl]; exact List.mem_cons_self)
          obtain ⟨_, _, h5, _⟩ := S7.stp p (by rw [has]; exact List.mem_cons_self)
          rw [h3, h4] at h5
          have h6 := congrArg (fun o : Option HO => match o with | some (.tup xs) => xs.length | _ => 0) h5
          exact absurd h6 (by show ¬ 2 = 4; decide)
    -- steps.append(step)
    refine ⟨_, rfl, .inl ⟨rfl, _, SqL.of S7.e3⟩, _, rfl, sl, _, _, rfl, rfl, S7.e3, (by rw [List.length_map, S7.len]; exact Nat.lt_of_le_of_lt (show i + 2 ≤ 10 by omega) (by decide)), ?_⟩
    have off8 : ∀ b o, b ≠ sl → H7 b = some o → upd H7 sl (.lst ((as.map fun p => .ref p.1) ++ [.ref st])) b = some o := fun b o h e => by
      rw [upd_ne h]
      exact e
    have e8 : upd H7 sl (.lst ((as.map fun p => .ref p.1) ++ [.ref st])) sl = some (.lst ((as.map fun p => .ref p.1) ++ [.ref st])) := upd_same
    generalize upd H7 sl (.lst ((as.map fun p => .ref p.1) ++ [.ref st])) = H8 at off8 e8 ⊢
    have nlst : ∀ {a : Addr} {o : HO}, H7 a = some o → (∀ xs, o ≠ .lst xs) → a ≠ sl := fun e h z => by
      rw [z, S7.e3] at e
      exact h _ (Option.some.inj e).symm
    -- known[name], last = columns, name
    refine ⟨_, rfl, _, rfl, z2, fun t ht => ?_⟩
    have s9 := same_upd (o := .tup [.ref f0, .str nm]) ht
    have et : upd H8 t (.tup [.ref f0, .str nm]) t = some (.tup [.ref f0, .str nm]) := upd_same
    have off9 : ∀ b o, b ≠ sl → H7 b = some o → upd H8 t (.tup [.ref f0, .str nm]) b = some o := fun b o h e => s9 _ _ (off8 b o h e)
    have e9 := s9 _ _ e8
    generalize upd H8 t (.tup [.ref f0, .str nm]) = H9 at s9 et off9 e9 ⊢
    have ek9 := off9 _ _ (nlst S7.k.at_k (by intro xs z; cases z)) S7.k.at_k
    have eg9 := off9 _ _ (nlst eg7 (by intro xs z; cases z)) eg7
    refine ⟨t, _, rfl, SqT.of et, rfl, _, _, rfl, _, rfl, _, rfl, kd, _, rfl, DPut.k (k := .inr nm) ek9 (by rw [List.length_map]; exact Nat.lt_of_le_of_lt S7.kn_len (by decide)), _, _, rfl, rfl, ?_⟩
    have off10 : ∀ b o, b ≠ sl → b ≠ kd → H7 b = some o → upd H9 kd (.dK (putK (kn.map fun e => ((.inr e.1 : L2.Key), V.ref e.2.1)) (.inr nm) (.ref f0))) b = some o := fun b o h1 h2 e => by
      rw [upd_ne h2]
      exact off9 b o h1 e
    have ek10 : upd H9 kd (.dK (putK (kn.map fun e => ((.inr e.1 : L2.Key), V.ref e.2.1)) (.inr nm) (.ref f0))) kd = some (.dK (putK (kn.map fun e => ((.inr e.1 : L2.Key), V.ref e.2.1)) (.inr nm) (.ref f0))) := upd_same
    have e10 : upd H9 kd (.dK (putK (kn.map fun e => ((.inr e.1 : L2.Key), V.ref e.2.1)) (.inr nm) (.ref f0))) sl = some (.lst ((as.map fun p => .ref p.1) ++ [.ref st])) := by
      rw [upd_ne (nlst S7.k.at_k (by intro xs z; cases z)).symm]
      exact e9
    have eg10 : upd H9 kd (.dK (putK (kn.map fun e => ((.inr e.1 : L2.Key), V.ref e.2.1)) (.inr nm) (.ref f0))) g = some (.dK kvs') := by
      rw [upd_ne S7.kg.symm]
      exact eg9
    generalize upd H9 kd (.dK (putK (kn.map fun e => ((.inr e.1 : L2.Key), V.ref e.2.1)) (.inr nm) (.ref f0))) = H10 at off10 ek10 e10 eg10 ⊢
    clear off8 e8 off9 e9 s9 et ek9 eg9
    -- draw[3][name] = the most
    have ndk : ∀ {a : Addr} {xs : List V}, H7 a = some (.lst xs) → a ≠ kd := fun e z => by
      rw [z, S7.k.at_k] at e
      cases e
    have ndt : ∀ {a : Addr} {xs : List V}, H7 a = some (.tup xs) → a ≠ kd := fun e z => by
      rw [z, S7.k.at_k] at e
      cases e
    have kt10 : KeepT H7 H10 := fun a xs e => off10 a _ (nlst e (by intro xs z; cases z)) (ndt e) e
    obtain ⟨os, es⟩ := S7.fs'
    have D10 : DrawAt H10 d s ns [.ref g] n7 := ⟨off10 _ _ S7.n3.symm (ndk D7.at_d) D7.at_d, off10 _ _ (ne_of_none es S7.f3) (ndk D7.at_s) D7.at_s, D7.n0⟩
    have kf10 : KeepF H7 H10 := fun a xs ⟨o, dn, e⟩ => ⟨o, dn, off10 a _ (nlst e (by intro xs z; cases z)) (fun z => by rw [z, S7.k.at_k] at e; cases e) e⟩
    obtain ⟨inp, dv, x1, x2, x3⟩ := X.keep kt10 kf10
    obtain ⟨js, l1, l2, l3, l4⟩ := Z kvs' eg6
    refine ⟨_, rfl, _, rfl, d, s, g, st, inp, ns, [], n7, .str nm, dv, det.what, ins, js, kvs', rfl, D10, eg10, x1, x2, l1, ?_, l2, l3, l4, ?_, fun j H11 j0 j1 s11 => ?_⟩
    · have := O.len
      omega
    · intro hw
      cases det with
      | sort ws m =>
        obtain ⟨t', wt, _, h1, h2, _⟩ := x3
        refine ⟨t', _, m, h1, h2, ?_⟩
        have := O.sort_pos
        omega
      | read cs => exact absurd hw (by show ("read" : Str) ≠ "sort"; decide +kernel)
      | filter e => exact absurd hw (by show ("filter" : Str) ≠ "sort"; decide +kernel)
      | map ms => exact absurd hw (by show ("map" : Str) ≠ "sort"; decide +kernel)
      | fold ks fs => exact absurd hw (by show ("fold" : Str) ≠ "sort"; decide +kernel)
      | join ks => exact absurd hw (by show ("join" : Str) ≠ "sort"; decide +kernel)
      | union => exact absurd hw (by show ("union" : Str) ≠ "sort"; decide +kernel)
      | unlike => exact absurd hw (by show ("unlike" : Str) ≠ "sort"; decide +kernel)
    refine ⟨_, rfl, d, _, 3, _, rfl, rfl, SqL.of (s11 _ _ D10.at_d), at3, _, rfl, g, _, rfl, DPut.k (k := .inr nm) (s11 _ _ eg10) (Nat.lt_of_le_of_lt lkv (by decide)), ?_⟩
    have gsl : sl ≠ g := (nlst eg7 (by intro xs z; cases z)).symm
    refine ⟨_, _, _, _, _, as ++ [(st, ⟨nm, ins, det⟩)], kn ++ [(nm, f0, cl)], nm, rfl, S7.add X T O nmk sn1 sn4 j0 j1 fsl eg7 ?_ hsz (fun b o h1 h2 h3 e => ?_) ?_ ?_ upd_same⟩
    · have := S7.szl _ eg7
      omega
    · rw [upd_ne h3]
      exact s11 _ _ (off10 b o h1 h2 e)
    · rw [upd_ne gsl]
      exact s11 _ _ e10
    · rw [upd_ne S7.kg]
      exact s11 _ _ ek10
  · rintro σ H5 ⟨y5, y6, y7, y8, y9, as, kn, last, rfl, S5⟩
    refine ⟨_, rfl, sl, _, rfl, .inl ⟨SqL.of S5.e3, fun st hst => ⟨_, rfl, z2, fun rr hrr => ?_⟩⟩⟩
    have S6 := (S5.new (o := .tup (as.map fun p => .ref p.1)) hst).new (o := .tup [.ref st, .str last]) hrr
    obtain ⟨n6, D6⟩ := S6.dr
    exact q rr st g as (abs kn) last n6 _ upd_same (same_upd hrr _ _ upd_same) S6.stp S6.ok (by unfold abs; rw [List.map_map]; exact S6.lst) (by unfold abs; rw [List.length_map]; exact S6.kn_len) (fun e he => by
      obtain ⟨x, hx, rfl⟩ := List.mem_map.mp he
      have h : x.1 ∈ kn.map (·.1) := List.mem_map.mpr ⟨x, hx, rfl⟩
      rw [S6.nms] at h
      exact List.mem_of_mem_take h) S6.b D6
end
end Kx

set_option maxHeartbeats 8000000
namespace Kx
open PySem PySem.Spec PyProof.Rows L2
abbrev s_two : Stmt := topS 17
abbrev s_kind : Stmt := topS 18
/-! ### the kind of an expression, none if it has none -/
def ops2 : List Str := sums ++ (["and", "or"] : List Str)
def twoK (op : Str) : Option Bool → Option Bool → Option Bool
  | some a, some b => if a = b then (if a = true ∨ op ∈ cmps then some true else none) else none
  | _, _ => none
def oneK (want : Bool) (o : Option Bool) : Option Bool := if o = some want then some true else none
def kindE (kf : Str → Option Bool) : Ex → Option Bool
  | .num _ => some true
  | .quo _ => some false
  | .col x => kf x
  | .two op a b => twoK op (kindE kf a) (kindE kf b)
  | .nt a => oneK true (kindE kf a)
  | .mn a => oneK true (kindE kf a)
  | .ln a => oneK false (kindE kf a)
def OpsOk : Ex → Prop
  | .two op a b => (op ∈ cmps ∨ op ∈ ops2) ∧ OpsOk a ∧ OpsOk b
  | .nt a => OpsOk a
  | .mn a => OpsOk a
  | .ln a => OpsOk a
  | _ => True
def kV' (o : Option Bool) : V := match o with
  | none => .non
  | some b => .str (kW b)
theorem ops2_no : ∀ op ∈ ops2, op ∉ cmps := by decide +kernel
structure Lv (K : PySem.W.Frag) (w : World) (mg : Str → Option Value) : Prop where
  ex : ∃ d, mg "LEVELS" = some (.ref d) ∧ (∀ op ∈ cmps, KDct K w d op (.int 4)) ∧ ∀ op ∈ ops2, ∃ l : Int, l ≠ 4 ∧ KDct K w d op (.int l)
  four : ∃ t, mg "COMPARISON" = some (.int 4 t)
theorem in_yes {z : Str} {l : List Str} {A B : Prop} (h : z ∈ l) (q : A) : if (if false = true then !inV (.str z) (l.map V.str) else inV (.str z) (l.map V.str)) = true then A else B := in_strs (fun _ => q) fun n => absurd h n
theorem in_no {z : Str} {l : List Str} {A B : Prop} (h : z ∉ l) (q : B) : if (if false = true then !inV (.str z) (l.map V.str) else inV (.str z) (l.map V.str)) = true then A else B := in_strs (fun y => absurd y h) fun _ => q
def nqL : List Str := ["number", "quoted"]
def nmL : List Str := ["not", "minus"]
theorem nq1 : ("number" : Str) ∈ nqL := by decide +kernel
theorem nq2 : ("quoted" : Str) ∈ nqL := by decide +kernel
theorem nq3 : ("column" : Str) ∉ nqL := by decide +kernel
theorem nq4 : ("not" : Str) ∉ nqL := by decide +kernel
theorem nq5 : ("minus" : Str) ∉ nqL := by decide +kernel
theorem nq6 : ("length" : Str) ∉ nqL := by decide +kernel
theorem nq7 : ("two" : Str) ∉ nqL := by decide +kernel
theorem nm1 : ("not" : Str) ∈ nmL := by decide +kernel
theorem nm2 : ("minus" : Str) ∈ nmL := by decide +kernel
theorem nm3 : ("length" : Str) ∉ nmL := by decide +kernel
theorem nm4 : ("two" : Str) ∉ nmL := by decide +kernel
theorem kW_ne : ("int" : Str) ≠ "text" := by decide +kernel
section
variable {P : Program} {w : World} {K : PySem.W.Frag} {mg : Str → Option Value} {base : Heap}
def spTwoK : Sp := fun vs H Q _ => ∃ (op : Str) (a b : Option Bool), vs = [.str op, kV' a, kV' b] ∧ (op ∈ cmps ∨ op ∈ ops2) ∧ Q (kV' (twoK op a b)) H
theorem sc_twoK : FnScope ["op", "one", "other"] ["op", "one", "other"] (defScope s_two) := ⟨rfl, rfl, rfl, by decide +kernel, rfl, by decide +kernel, by decide +kernel⟩
theorem ok_twoK {f : Addr} {fd : FuncData} (F : Fun K "kind_of_two" "kind_of_two" s_two f fd) (L : Lv K w mg) : FnOk P w K mg base CX0 1 f fd ["op", "one", "other"] spTwoK := by
  refine F.ok sc_twoK (fun vs H Q E h => ?_) (fun cdv A outer s H vs Q E hr h => ?_)
  · obtain ⟨op, a, b, rfl, _⟩ := h
    rfl
  obtain ⟨op, a, b, rfl, ho, q⟩ := h
  obtain ⟨dl, m_LV, lc, ls⟩ := L.ex
  obtain ⟨t4, m_C⟩ := L.four
  refine ⟨_, pss_cons (ps_if (PW.pt (pw_or (pt_cmpR op_isN (pv 1) pe_non (nomark _)) (pw_or1 (pt_cmpR op_ne (pv 1) (pv 2) (nomark _))))) (pss_one (ps_ret pe_non)) (pss_nil))
      (pss_cons (ps_if (PW.pt (pw_and (pt_cmpR op_eq (pv 1) pe_str (nomark _)) (pw_and1 (pt_cmpR op_ne (pe_ix ix_kdict (pe_glob (v := .ref dl) rfl m_LV rfl) (pv 0) (fun _ _ => rfl)) (pe_glob (v := .int 4) rfl m_C ⟨_, rfl⟩) (nomark _))))) (pss_one (ps_ret pe_non)) (pss_nil))
      (pss_one (ps_ret pe_str))), ?_⟩
  cases a with
  | none =>
    exact ⟨_, rfl, rfl, _, rfl, iteT (by cases b <;> exact q)⟩
  | some a =>
    refine ⟨_, rfl, rfl, _, rfl, iteF ?_⟩
    cases b with
    | none => exact ⟨_, rfl, _, rfl, rfl, _, rfl, iteT q⟩
    | some b =>
      change Q (kV' (if a = b then (if a = true ∨ op ∈ cmps then some true else none) else none)) H at q
      refine ⟨_, rfl, _, rfl, rfl, _, rfl, ite2 (fun c => ?_) (fun c => ?_)⟩
      · have : ¬ a = b := fun z => by
          rw [z] at c
          simp at c
        rw [if_neg this] at q
        exact q
      have hab : a = b := by
        by_cases z : a = b
        · exact z
        · exfalso
          apply c
          cases a <;> cases b <;> first | exact absurd rfl z | decide +kernel
      rw [if_pos hab] at q
      cases a with
      | true =>
        rw [if_pos (.inl rfl)] at q
        exact ⟨_, rfl, rfl, _, rfl, iteF (iteF q)⟩
      | false =>
        refine ⟨_, rfl, rfl, _, rfl, iteT ?_⟩
        rcases ho with ho | ho
        · rw [if_pos (.inr ho)] at q
          exact ⟨_, rfl, dl, op, _, rfl, rfl, lc op ho, rfl, _, rfl, iteF q⟩
        · obtain ⟨l, l4, hl⟩ := ls op ho
          rw [if_neg (fun z => by
            rcases z with z | z
            · cases z
            · exact ops2_no op ho z)] at q
          refine ⟨_, rfl, dl, op, _, rfl, rfl, hl, rfl, _, rfl, ?_⟩
          rw [decide_eq_false (show ¬ V.int l = V.int 4 from fun z => l4 (by injection z))]
          exact iteT q
/-! ### kind_of -/
def KdAt (H : Hp) (kd : Addr) (kf : Str → Option Bool) : Prop := ∃ kvs : List (L2.Key × V), H kd = some (.dK kvs) ∧ ∀ x, valV kvs (.inr x) = (kf x).map fun b => V.str (kW b)
theorem KdAt.keep {H H' : Hp} {kd : Addr} {kf : Str → Option Bool} (k : KdAt H kd kf) (h : Same H H') : KdAt H' kd kf := let ⟨kvs, e, g⟩ := k; ⟨kvs, h _ _ e, g⟩
def spKind (m : Nat) : Sp := fun vs H Q _ => ∃ (v : V) (kd : Addr) (kf : Str → Option Bool) (e : Ex), vs = [v, .ref kd] ∧ ExAt H v e ∧ OpsOk e ∧ e.dep ≤ m ∧ KdAt H kd kf ∧ Q (kV' (kindE kf e)) H
abbrev N_kind : List Str := ["told", "kinds", "what", "wanted"]
theorem sc_kind : FnScope N_kind ["told", "kinds"] (defScope s_kind) := ⟨rfl, rfl, rfl, by decide +kernel, rfl, by decide +kernel, by decide +kernel⟩
theorem ok_kind {f : Addr} {fd : FuncData} {m : Nat} (F : Fun K "kind_of" "kind_of" s_kind f fd) (G_two : Ready P w K mg base 1 "kind_of_two" ["op", "one", "other"] spTwoK) (G_kind : Ready P w K mg base (m + 1) "kind_of" ["told", "kinds"] (spKind m)) : FnOk P w K mg base CX0 (m + 2) f fd ["told", "kinds"] (spKind (m + 1)) := by
  refine F.ok sc_kind (fun vs H Q E h => ?_) (fun cdv A outer s H vs Q E hr h => ?_)
  · obtain ⟨v, kd, kf, e, rfl, _⟩ := h
    rfl
  obtain ⟨v, kd, kf, e, rfl, hv, ho, hd, hk, q⟩ := h
  have nd := sc_kind.nd
  have hr1 : Room 1 _ := hr.mono (by omega)
  have hu64 : _ + 64 < cLine := hr.units
  have hu1 : _ + 1 < cLine := Nat.lt_of_le_of_lt (Nat.add_le_add_left (by decide : 1 ≤ 64) _) hu64
  refine ⟨_, pss_cons (ps_set (i := 2) nd rfl (.inl rfl) (pe_ix ix_tup (pv 0) pe_int (fun _ _ => rfl)))
      (pss_cons (ps_if (pt_cmpR op_eq (pv 2) pe_str (nomark _)) (pss_one (ps_ret pe_str)) (pss_nil))
      (pss_cons (ps_if (pt_cmpR op_eq (pv 2) pe_str (nomark _)) (pss_one (ps_ret pe_str)) (pss_nil))
      (pss_cons (ps_if (pt_cmpR op_eq (pv 2) pe_str (nomark _)) (pss_one (ps_ret (pe_dget1 hu1 (pv 1) (pe_ix ix_tup (pv 0) pe_int (fun _ _ => rfl)) ⟨rfl, rfl, rfl, rfl⟩))) (pss_nil))
      (pss_cons (ps_if (pt_cmpR op_eq (pv 2) pe_str (nomark _)) (pss_one (ps_ret (pe_fn (G_two) hr1 (pa_cons (pe_ix ix_tup (pv 0) pe_int (fun _ _ => rfl)) (pa_cons (pe_fn (G_kind) hr (pa_cons (pe_ix ix_tup (pv 0) pe_int (fun _ _ => rfl)) (pa_cons (pv 1) pa_nil))) (pa_cons (pe_fn (G_kind) hr (pa_cons (pe_ix ix_tup (pv 0) pe_int (fun _ _ => rfl)) (pa_cons (pv 1) pa_nil))) pa_nil)))))) (pss_nil))
      (pss_cons (ps_set (i := 3) nd rfl (.inl rfl) pe_str)
      (pss_cons (ps_if (pt_cmpR op_eq (pv 2) pe_str (nomark _)) (pss_one (ps_set (i := 3) nd rfl (.inl rfl) pe_str)) (pss_nil))
      (pss_cons (ps_if (pt_cmpR op_ne (pe_fn (G_kind) hr (pa_cons (pe_ix ix_tup (pv 0) pe_int (fun _ _ => rfl)) (pa_cons (pv 1) pa_nil))) (pv 3) (nomark _)) (pss_one (ps_ret pe_non)) (pss_nil))
      (pss_one (ps_ret pe_str))))))))), ?_⟩
  cases e with
  | num i =>
    obtain ⟨a, rfl, ha⟩ := hv
    exact ⟨_, rfl, a, _, 0, _, rfl, rfl, SqT.of ha, rfl, _, rfl, rfl, _, rfl, iteT q⟩
  | quo z =>
    obtain ⟨a, rfl, ha⟩ := hv
    exact ⟨_, rfl, a, _, 0, _, rfl, rfl, SqT.of ha, rfl, _, rfl, rfl, _, rfl, iteF ⟨_, rfl, rfl, _, rfl, iteT q⟩⟩
  | col x =>
    obtain ⟨a, rfl, ha⟩ := hv
    obtain ⟨kvs, ek, gk⟩ := hk
    refine ⟨_, rfl, a, _, 0, _, rfl, rfl, SqT.of ha, rfl, _, rfl, rfl, _, rfl, iteF ⟨_, rfl, rfl, _, rfl, iteF ⟨_, rfl, rfl, _, rfl, iteT ?_⟩⟩⟩
    refine ⟨_, rfl, kd, rfl, .inl ⟨_, .inl ek⟩, _, rfl, a, _, 1, _, rfl, rfl, SqT.of ha, rfl, _, DGet.k (k := .inr x) ek, ?_⟩
    rw [gk x]
    change Q (kV' (kf x)) H at q
    cases h : kf x with
    | none =>
      rw [h] at q
      exact q
    | some b =>
      rw [h] at q
      exact q
  | two op x y =>
    obtain ⟨a, vx, vy, rfl, ha, hx, hy⟩ := hv
    have dx : x.dep ≤ m := by
      have h1 : max x.dep y.dep + 1 ≤ m + 1 := hd
      omega
    have dy : y.dep ≤ m := by
      have h1 : max x.dep y.dep + 1 ≤ m + 1 := hd
      omega
    refine ⟨_, rfl, a, _, 0, _, rfl, rfl, SqT.of ha, rfl, _, rfl, rfl, _, rfl, iteF ⟨_, rfl, rfl, _, rfl, iteF ⟨_, rfl, rfl, _, rfl, iteF ⟨_, rfl, rfl, _, rfl, iteT ?_⟩⟩⟩⟩
    exact ⟨_, rfl, a, _, 1, _, rfl, rfl, SqT.of ha, rfl, _, rfl, a, _, 2, _, rfl, rfl, SqT.of ha, rfl, _, rfl, vx, kd, kf, x, rfl, hx, ho.2.1, dx, hk, _, rfl, a, _, 3, _, rfl, rfl, SqT.of ha, rfl, _, rfl, vy, kd, kf, y, rfl, hy, ho.2.2, dy, hk, op, _, _, rfl, ho.1, q⟩
  | nt x =>
    obtain ⟨a, vx, rfl, ha, hx⟩ := hv
    refine ⟨_, rfl, a, _, 0, _, rfl, rfl, SqT.of ha, rfl, _, rfl, rfl, _, rfl, iteF ⟨_, rfl, rfl, _, rfl, iteF ⟨_, rfl, rfl, _, rfl, iteF ⟨_, rfl, rfl, _, rfl, iteF ⟨_, rfl, rfl, _, rfl, iteF ?_⟩⟩⟩⟩⟩
    refine ⟨_, rfl, a, _, 1, _, rfl, rfl, SqT.of ha, rfl, _, rfl, vx, kd, kf, x, rfl, hx, ho, Nat.le_of_succ_le_succ hd, hk, _, rfl, ?_⟩
    change Q (kV' (oneK true (kindE kf x))) H at q
    generalize kindE kf x = o at q ⊢
    rcases o with _ | _ | _ <;> exact ⟨rfl, _, rfl, q⟩
  | mn x =>
    obtain ⟨a, vx, rfl, ha, hx⟩ := hv
    refine ⟨_, rfl, a, _, 0, _, rfl, rfl, SqT.of ha, rfl, _, rfl, rfl, _, rfl, iteF ⟨_, rfl, rfl, _, rfl, iteF ⟨_, rfl, rfl, _, rfl, iteF ⟨_, rfl, rfl, _, rfl, iteF ⟨_, rfl, rfl, _, rfl, iteF ?_⟩⟩⟩⟩⟩
    refine ⟨_, rfl, a, _, 1, _, rfl, rfl, SqT.of ha, rfl, _, rfl, vx, kd, kf, x, rfl, hx, ho, Nat.le_of_succ_le_succ hd, hk, _, rfl, ?_⟩
    change Q (kV' (oneK true (kindE kf x))) H at q
    generalize kindE kf x = o at q ⊢
    rcases o with _ | _ | _ <;> exact ⟨rfl, _, rfl, q⟩
  | ln x =>
    obtain ⟨a, vx, rfl, ha, hx⟩ := hv
    refine ⟨_, rfl, a, _, 0, _, rfl, rfl, SqT.of ha, rfl, _, rfl, rfl, _, rfl, iteF ⟨_, rfl, rfl, _, rfl, iteF ⟨_, rfl, rfl, _, rfl, iteF ⟨_, rfl, rfl, _, rfl, iteF ⟨_, rfl, rfl, _, rfl, iteT ?_⟩⟩⟩⟩⟩
    refine ⟨_, rfl, a, _, 1, _, rfl, rfl, SqT.of ha, rfl, _, rfl, vx, kd, kf, x, rfl, hx, ho, Nat.le_of_succ_le_succ hd, hk, _, rfl, ?_⟩
    change Q (kV' (oneK false (kindE kf x))) H at q
    generalize kindE kf x = o at q ⊢
    rcases o with _ | _ | _ <;> exact ⟨rfl, _, rfl, q⟩
/-! ### _law_kind -/
end
end Kx

namespace PySem
namespace BadY
open PySem.W PySem.Calls PyProof.Rows PySem.HandSPX
/-! ### self.thing = v on an exception that has no dict yet -/
abbrev exT : List Value := [.type "Exception", .type "BaseException", .type "object"]
section
open Builtin Builtin.ObjectAttr
variable {prog : Program} {w : World} {A : Around} {R : Result → Shared → Prop} {hp : Heap} {g : Array GenState} {d : Drawn} {t : Nat} {os : OsState}
theorem osa_first {K : Frag} {name : Str} {tk : Tok} {v : Value} {x C : Addr} {fv : Array Value} {cd : ClassData} {bm : List Value}
    (X : K.In hp) (ho : hp.get? x = some { cls := .ref C, data := .fields fv }) (hc : clsIn K C = some cd) (ht : excTail exT bm = true) (hm : cd.mro = .ref C :: bm) (hh : cd.hasDict = true) (hn : findIn K (.ref C) name = some none)
    (q : ∀ h' tk' dx, (∀ b o, b ≠ x → hp.get? b = some o → h'.get? b = some o) → hp.objs.size ≤ dx → dx ≠ x → h'.get? x = some { cls := .ref C, dict := some dx, data := .fields fv } → h'.Ns1 dx (fun y => if y = name then some v else none) → R (.ok (.ret .none)) ⟨h', g, d, tk', os⟩) :
    codeAny (model prog w) A (.call (.builtin "object.__setattr__") ⟨[.ref x, .str name tk, v], []⟩) R ⟨hp, g, d, t, os⟩ := by
  have over : excOver K C exT = true := by
    unfold excOver
    rw [hc]
    show (match cd.mro with | .ref C' :: bm => C' == C && excTail exT bm | _ => false) = true
    rw [hm]
    show (C == C && excTail exT bm) = true
    rw [ht, beq_self_eq_true] <;> rfl
  have free : takerIn K C name = some none := by
    unfold takerIn
    rw [hn] <;> rfl
  have apart : hp.objs.size ≠ x := fun z => absurd (Heap.lt_size ho) (by rw [z]; exact Nat.lt_irrefl _)
  refine osa_openX (s := ⟨hp, g, d, t, os⟩) F.store_Exception X (ox := { cls := .ref C, data := .fields fv }) (od := none) ⟨ho, rfl, rfl, trivial⟩ over free fun b => ?_
  have look : Looks (model prog w) hp (classData C) cd := looks_clsIn X hc
  obtain ⟨c1, c2, c3, c4, c5, c6, c7, c8, c9, c10, c11⟩ := cd
  dsimp only at hh
  subst hh
  show wpAny _ _ (storeInOwnDict (.ref x) (.ref C) (.str name tk) name v b) _ _ _
  unfold storeInOwnDict ownDictForStores
  repeat (first | with_reducible refine look.at ?_ | with_reducible refine wpAny_loadPart_at ho ?_ | with_reducible refine store_in_new ?_ ?_ | wp_step)
  · exact ⟨_, #[], _, (Heap.get?_update_ne _ _ _ _ apart).trans (Heap.get?_push_at rfl rfl), rfl, (by intro e he; simp at he), (fun _ => rfl)⟩
  intro h2 tk2 n2 sb
  have mid : (hp.push { cls := .type "dict", data := .dict #[] }).get? x = some { cls := .ref C, data := .fields fv } := Heap.get?_push_of_some _ ho
  refine q h2 tk2 _ (fun c o hc e => ?_) (Nat.le_refl _) apart ((sb.2 x apart.symm).trans (Heap.get?_update_self _ mid rfl)) n2
  have far : c ≠ hp.objs.size := fun z => absurd (Heap.lt_size e) (by rw [z]; exact Nat.lt_irrefl _)
  rw [sb.2 c far, Heap.get?_update_ne _ _ _ _ hc]
  exact Heap.get?_push_of_some _ e
theorem osa_second {K : Frag} {name : Str} {tk : Tok} {v : Value} {x C dx : Addr} {fv : Array Value} {cd : ClassData} {bm : List Value} {m0 : Str → Option Value} {nl : List Str}
    (X : K.In hp) (ho : hp.get? x = some { cls := .ref C, dict := some dx, data := .fields fv }) (hns : hp.Ns1 dx m0) (hw : Within m0 nl) (hz : nl.length ≤ 1000) (hc : clsIn K C = some cd) (ht : excTail exT bm = true) (hm : cd.mro = .ref C :: bm) (hh : cd.hasDict = true) (hn : findIn K (.ref C) name = some none)
    (q : ∀ h' tk', (∀ b o, b ≠ dx → hp.get? b = some o → h'.get? b = some o) → h'.Ns1 dx (fun y => if y = name then some v else m0 y) → R (.ok (.ret .none)) ⟨h', g, d, tk', os⟩) :
    codeAny (model prog w) A (.call (.builtin "object.__setattr__") ⟨[.ref x, .str name tk, v], []⟩) R ⟨hp, g, d, t, os⟩ := by
  have over : excOver K C exT = true := by
    unfold excOver
    rw [hc]
    show (match cd.mro with | .ref C' :: bm => C' == C && excTail exT bm | _ => false) = true
    rw [hm]
    show (C == C && excTail exT bm) = true
    rw [ht, beq_self_eq_true] <;> rfl
  have free : takerIn K C name = some none := by
    unfold takerIn
    rw [hn] <;> rfl
  obtain ⟨oD, esD, epD, hoD, hdD, _⟩ := hns.count hw
  refine osa_openX (s := ⟨hp, g, d, t, os⟩) F.store_Exception X (ox := { cls := .ref C, dict := some dx, data := .fields fv }) (od := some oD) ⟨ho, rfl, rfl, hoD⟩ over free fun b => ?_
  have look : Looks (model prog w) hp (classData C) cd := looks_clsIn X hc
  obtain ⟨c1, c2, c3, c4, c5, c6, c7, c8, c9, c10, c11⟩ := cd
  dsimp only at hh
  subst hh
  show wpAny _ _ (storeInOwnDict (.ref x) (.ref C) (.str name tk) name v b) _ _ _
  unfold storeInOwnDict ownDictForStores
  repeat (first | with_reducible refine OEX.store_in_old hns hw hz ?_ | with_reducible refine wpAny_loadPart_at ho ?_ | with_reducible refine look.at ?_ | wp_step)
  intro h2 tk2 n2 sb
  exact q h2 tk2 (fun b o hb e => (sb.2 b hb).trans e) n2
end
/-! ### the text of __init__ -/
def iA (p1 p2 p3 : Pos) : Arguments := { posonlyargs := [], args := [{ arg := "self", annotation := none, pos := p1 }, { arg := "name", annotation := none, pos := p2 }, { arg := "why", annotation := none, pos := p3 }], vararg := none, kwonlyargs := [], kw_defaults := [], kwarg := none, defaults := [] }
def iB (q1 q2 q3 q4 q5 q6 q7 q8 : Pos) : List Stmt := [.Assign [.Attribute (.Name "self" q1) "name" q2] (.Name "name" q3) q4, .Assign [.Attribute (.Name "self" q5) "why" q6] (.Name "why" q7) q8]
def iS : Scope := { kind := .function, names := [(PySem.Str.ofString "self", .local), (PySem.Str.ofString "name", .local), (PySem.Str.ofString "why", .local)], isGenerator := false, isCoroutine := false, more := [] }
/-- what the written part says of BadThing, at C, and of its __init__, at fI -/
structure BadTxt (K : Frag) (mg : Str → Option Value) (C fI : Addr) : Prop where
  gC : mg "BadJob" = some (.ref C)
  cls : ∃ nm q N bs bm sn sub ab col dd k0 k1 k2 k3 k5, K.lookup C = some (excClassObj nm q C N bs bm true sn sub ab col dd k0 k1 k2 k3 k5 "Exception.__new__") ∧ excTail exT bm = true
  sa : findIn K (.ref C) "__setattr__" = some (some (.builtin "object.__setattr__"))
  ga : findIn K (.ref C) "__getattribute__" = some (some (.builtin "BaseException.__getattribute__"))
  gg : findIn K (.ref C) "__getattr__" = some none
  noN : findIn K (.ref C) "name" = some none
  noW : findIn K (.ref C) "why" = some none
  iC : findIn K (.ref C) "__init__" = some (some (.ref fI))
  tC : typeIn K (.ref fI) = some (.type "function")
  kC : keepIn K (.ref C) = true
  exC : subIn K (.ref C) (.type "BaseException") = some true
  tyC : typeIn K (.ref C) = some (.type "type")
  hdC : hasDictIn K C = true
  te : exmOne K (.ref C) (.ref C) = some true
  fn : ∃ (oc : Value) (od : Option Addr) (doc pm : Value) (an : Option Addr) (cdv ct : Value) (osl : Array (Option Value)) (p1 p2 p3 q1 q2 q3 q4 q5 q6 q7 q8 : Pos),
    K.lookup fI = some ⟨oc, od, .func (fnOf "__init__" "BadJob.__init__" (iA p1 p2 p3) (iB q1 q2 q3 q4 q5 q6 q7 q8) iS .none .none doc pm an cdv ct), osl⟩ ∧ codeIn K cdv "BadJob.__init__" = true
theorem two_size (v u : Value) : [v, u].length ≤ sizeLine := by
  rw [sizeLine_eq]
  exact (by decide : 2 ≤ 16777216)
theorem kept_but {K : Frag} {h h' : Heap} {x : Addr} (X : K.In h) (hx : K.lookup x = none) (k : ∀ b o, b ≠ x → h.get? b = some o → h'.get? b = some o) : K.In h' := fun a o e =>
  k a o (fun z => by rw [z, hx] at e; cases e) (X a o e)
theorem ldC {M : Model} {s : Shared} {name : Str} {scope : Scope} {L a : Addr} {cd : Value} {m : Str → Option Value} {x : Str} {pos : Pos} {v : Value} {Q : Value → Shared → Prop} {A : Around} {E : Value → Shared → Prop} (hn : s.heap.Ns L m) (hv : m x = some v) (h : Q v s)
    (hk : scope.kind = .function := by rfl) (hl : (envOfC name scope L a cd).kindOf x = some .local := by rfl) (hd : (x == ("__debug__" : Str)) = false := by decide) :
    wpAny M A (eval (.Name x pos) (envOfC name scope L a cd)) Q E s := wpAny_Name (wpAny_loadName_local hk hl hn hv h) hd
/-- what __init__ leaves of a fresh exception at x -/
structure InitEnd (h h' : Heap) (x C dx t1 : Addr) (v u : Value) : Prop where
  keep : ∀ b o, b ≠ x → h.get? b = some o → h'.get? b = some o
  obj : h'.get? x = some { cls := .ref C, dict := some dx, data := .fields #[.ref t1, .none, .none, .none, .bool false, .none] }
  dbig : h.objs.size ≤ dx
  dne : dx ≠ x
  ns : h'.Ns1 dx (fun y => if y = "why" then some u else if y = "name" then some v else none)
/-- a made BadThing -/
structure OwnMade (h h' : Heap) (e C d : Addr) (v u : Value) : Prop where
  keep : ∀ b o, h.get? b = some o → h'.get? b = some o
  new : h.objs.size ≤ e
  obj : ∃ oe vs, h'.get? e = some oe ∧ oe.cls = .ref C ∧ oe.dict = some d ∧ oe.data = .fields vs ∧ vs[1]? = some .none
  dbig : h.objs.size ≤ d
  dne : d ≠ e
  ns : h'.Ns1 d (fun y => if y = "why" then some u else if y = "name" then some v else none)
section
variable {prog : Program} {w : World} {A : Around} {E : Value → Shared → Prop} {R : Result → Shared → Prop} {s : Shared} {K : Frag} {mg : Str → Option Value} {C fI : Addr}
theorem within_one {v : Value} : Within (fun y => if y = ("name" : Str) then some v else none) ["name"] := fun y hy => by
  by_cases h : y = ("name" : Str)
  · rw [h]
    exact List.mem_cons_self
  · exact absurd (if_neg h) hy
theorem bad_init (T : BadTxt K mg C fI) {x t0 : Addr} {v u : Value} (X : K.In s.heap) (hlim : s.heap.NoLimit) (hx : s.heap.get? x = some (excO C t0)) (hnx : K.lookup x = none) (hroom : A.depth < recursionLimit)
    (hq : ∀ h' tk dx, InitEnd s.heap h' x C dx t0 v u → R (.ok (.ret .none)) { s with heap := h', toks := tk }) :
    codeAny (model prog w) A (.call (.ref fI) ⟨[.ref x, v, u], []⟩) R s := by
  obtain ⟨oc, od, doc, pm, an, cdv, ct, osl, p1, p2, p3, q1, q2, q3, q4, q5, q6, q7, q8, ho, hcd⟩ := T.fn
  obtain ⟨nm, q, N, bs, bm, sn, sub, ab, col, dd, k0, k1, k2, k3, k5, hC, hbm⟩ := T.cls
  have hcl : clsIn K C = some { name := nm, bases := bs, mro := .ref C :: bm, ns := N, qualname := q, hasDict := true, slotNames := sn, subclasses := sub, abstract := ab, collection := col, hasDel := false } := by unfold clsIn; rw [hC] <;> rfl
  refine Att.call_fn (binds := [("self", .ref x), ("name", v), ("why", u)]) X hlim ho hcd hroom (BindsTo.of_eq (by first | rfl | with_unfolding_all rfl)) (by first | rfl | decide | with_unfolding_all rfl) (fun s₁ IC => ?_) rfl rfl rfl
  obtain ⟨h₁, tk₁, rfl⟩ := IC.toInCall.same
  have k : ∀ b o, s.heap.get? b = some o → h₁.get? b = some o := IC.toInCall.keep
  have hn := IC.toInCall.ns
  have hxL : s.heap.objs.size ≠ x := Nat.ne_of_gt (Heap.lt_size hx)
  have X₁ : K.In h₁ := X.keeps k
  have hx₁ := k _ _ hx
  -- self.by = by
  show wpAny _ _ (execs _ _) _ _ _
  refine wpAny_execs_cons (plainObj_wpAny_Assign_Attribute ?_)
  refine ldC (v := v) hn (by first | rfl | with_unfolding_all rfl | kernel_rfl) (ldC (v := .ref x) hn (by first | rfl | with_unfolding_all rfl | kernel_rfl) ?_)
  refine set_plain X₁ (ox := excO C t0) (od := none) ⟨hx₁, rfl, rfl, trivial⟩ T.sa ?_
  refine osa_first X₁ hx₁ hcl (show excTail exT bm = true from hbm) rfl rfl T.noN (fun h₃ tk₃ dx k₃ dn dne hx₃ hn₃ => ?_)
  have xL : s.heap.objs.size ≠ x := hxL
  have z : s.heap.objs.size < h₁.objs.size := hn.lt
  have X₃ : K.In h₃ := kept_but X₁ hnx k₃
  have hn₃' := hn.at fun o e => k₃ _ o xL e
  -- self.why = why
  show wpAny _ _ (execs _ _) _ _ _
  refine wpAny_execs_cons (plainObj_wpAny_Assign_Attribute ?_)
  refine ldC (v := u) hn₃' (by first | rfl | with_unfolding_all rfl | kernel_rfl) (ldC (v := .ref x) hn₃' (by first | rfl | with_unfolding_all rfl | kernel_rfl) ?_)
  have cnt : Within (fun y => if y = "name" then some v else none) ["name"] := within_one
  obtain ⟨oD, esD, epD, hoD, hdD, _⟩ := hn₃.count cnt
  refine set_plain X₃ (ox := { cls := .ref C, dict := some dx, data := .fields #[.ref t0, .none, .none, .none, .bool false, .none] }) (od := some oD) ⟨hx₃, rfl, rfl, hoD⟩ T.sa ?_
  refine osa_second X₃ hx₃ hn₃ cnt (by decide) hcl (show excTail exT bm = true from hbm) rfl rfl T.noW (fun h₄ tk₄ k₄ hn₄ => ?_)
  show wpAny _ _ (execs _ _) _ _ _
  have hdx : s.heap.objs.size ≤ dx := Nat.le_of_lt (Nat.lt_of_lt_of_le z dn)
  exact wpAny_execs_nil (hq h₄ tk₄ dx ⟨fun b o hb e => k₄ b o (Nat.ne_of_lt (Nat.lt_of_lt_of_le (Heap.lt_size e) hdx)) (k₃ b o hb (k b o e)), k₄ _ _ (Ne.symm dne) hx₃, hdx, dne, hn₄⟩)
theorem bad_made (T : BadTxt K mg C fI) {v u : Value} (X : K.In s.heap) (hlim : s.heap.NoLimit) (hroom : A.depth + 1 < recursionLimit)
    (hq : ∀ h' tk e d, OwnMade s.heap h' e C d v u → R (.ok (.ret (.ref e))) { s with heap := h', toks := tk }) :
    codeAny (model prog w) A (.call (.ref C) ⟨[v, u], []⟩) R s := by
  obtain ⟨nm, q, N, bs, bm, sn, sub, ab, col, dd, k0, k1, k2, k3, k5, hC, hbm⟩ := T.cls
  obtain ⟨hp, g, dr, tk, os⟩ := s
  have k : ∀ b o, hp.get? b = some o → ((hp.push (kdv_tup [v, u])).push (excO C hp.objs.size)).get? b = some o := fun b o e => Heap.get?_push_of_some _ (Heap.get?_push_of_some _ e)
  have hget : ((hp.push (kdv_tup [v, u])).push (excO C hp.objs.size)).get? (hp.objs.size + 1) = some (excO C hp.objs.size) := by heap_get
  have hnx : K.lookup (hp.objs.size + 1) = none := by
    cases e : K.lookup (hp.objs.size + 1) with
    | none => rfl
    | some o =>
      have z : hp.get? (hp.objs.size + 1) = some o := X _ _ e
      exact absurd (Nat.lt_of_succ_lt (Heap.lt_size z)) (Nat.lt_irrefl _)
  refine call_own F.excBase_Exception (fun X => excTail_contains X bm hbm) (X _ _ hC) (looks_findIn X T.iC) (fun self => bind_fn X self T.tC) (two_size v u) ?_
  refine bad_init (s := ⟨(hp.push (kdv_tup [v, u])).push (excO C hp.objs.size), g, dr, tk, os⟩) T (X.keeps k) (hlim.keeps k) hget hnx ?_ fun h' tk' dx ⟨k', hx, dn, dne, hns⟩ => ?_
  · show A.depth + 1 < recursionLimit
    exact hroom
  · have old : ∀ b o, hp.get? b = some o → h'.get? b = some o := fun b o e => k' b o (Nat.ne_of_lt (Nat.lt_succ_of_lt (Heap.lt_size e))) (k b o e)
    have z : hp.objs.size + 1 + 1 ≤ dx := by
      first
        | (simpa only [Heap.size_push] using dn)
        | exact dn
        | (have q := dn; rw [Heap.size_push, Heap.size_push] at q; exact q)
    exact ⟨rfl, hq h' tk' (hp.objs.size + 1) dx ⟨old, Nat.le_succ _, ⟨_, _, hx, rfl, rfl, rfl, rfl⟩, Nat.le_trans (Nat.le_trans (Nat.le_succ _) (Nat.le_succ _)) z, dne, hns⟩⟩
end
end BadY
end PySem
namespace Kx
open PySem PySem.Spec PyProof.Rows L2
theorem relO_bad {v u : V} {v' u' : Value} (r : RelV v v') (ru : RelV u u') (f : Str) : RelO (List.lookup f [(("name" : Str), v), ("why", u)]) (if f = "why" then some u' else if f = "name" then some v' else none) := by
  by_cases hw : f = "why"
  · subst hw
    rw [if_pos rfl]
    exact ru
  · rw [if_neg hw]
    by_cases hn : f = "name"
    · subst hn
      rw [if_pos rfl]
      exact r
    · rw [if_neg hn]
      have q1 : (f == ("name" : Str)) = false := by simpa using hn
      have q2 : (f == ("why" : Str)) = false := by simpa using hw
      have q3 : List.lookup f [(("name" : Str), v), ("why", u)] = none := by simp [List.lookup, q1, q2]
      rw [q3]
      trivial
section
variable {X : Cx} {C fI : Addr}
/-- BadJob(e, f) -/
def tMkBad2 (C : Addr) (ta : TA) : L2.St → Hp → XK → Prop := fun σ H Q => ta σ H fun vs H1 => ∃ v u, vs = [v, u] ∧ ∀ d, H1 d = none → Q (.ref C) (some d) (upd H1 d (.xd [(("name" : Str), v), ("why", u)]))
theorem pmk_bad2 {a b : Expr} {ta : TA} {p pos : Pos} {k : Nat} (T : PySem.BadY.BadTxt X.K X.mg C fI) (hr : Room k X.A) (ha : PA X [a, b] ta) (hg : Gl X "BadJob" := by rfl)
    (he : starEach (a :: [b]) X.env = (false, eval a X.env) :: starEach [b] X.env := by rfl) (hpl : (backTo pos (starEach [b] X.env)).any (·.1) = false := by rfl) :
    PMk X (.Call (.Name "BadJob" p) [a, b] [] pos) (tMkBad2 C ta) := by
  intro pins s σ H Q I h
  refine wpAny_Call_Name_kw (ld_glob I hg T.gC ?_)
  refine PySem.W.callWith_K (h₀ := X.base) I.ok.mod.kin T.kC (thn (ha.run pos pins s σ H _ I h) fun us s1 hh => ?_) he hpl
  obtain ⟨vs, H1, I1, r1, v, u, ev, q1⟩ := hh
  subst ev
  refine ⟨I1.kIn, ?_⟩
  cases r1 with
  | cons rv rn =>
    rename_i v' us'
    cases rn with
    | cons ru rn =>
      rename_i u' us2
      cases rn
      show wpAny _ _ (call (.ref C) [v', u']) _ _ _
      have hlim := I1.nolimit
      obtain ⟨hp, g, dr, tk, os⟩ := s1
      refine wpAny_call (PySem.BadY.bad_made T I1.kIn hlim (by have := hr.dp; omega) fun h' tk' e d M => ?_)
      show MkP X pins σ Q (.ref e) ⟨h', g, dr, tk', os⟩
      obtain ⟨oe, fv, hoe, hc, hd, hdat, h1⟩ := M.obj
      have hns := M.ns
      obtain ⟨G', g1, g2⟩ := restrict h' fun b => decide (b ≠ e)
      have gk : ∀ b, b ≠ e → G'.get? b = h'.get? b := fun b hb => g1 b (decide_eq_true hb)
      have ge : G'.get? e = none := g2 e (by simp)
      have old : ∀ b o, hp.get? b = some o → G'.get? b = some o := fun b o q => (gk b (Nat.ne_of_lt (Nat.lt_of_lt_of_le (Heap.lt_size q) M.new))).trans (M.keep b o q)
      have ob : ObjOk X.prog X.w (upd H1 d (.xd [(("name" : Str), v), ("why", u)])) G' d (.xd [(("name" : Str), v), ("why", u)]) :=
        ⟨_, hns.at (fun o q => (gk d M.dne).trans q), fun f => relO_bad rv ru f⟩
      have J : Inv X pins σ (upd H1 d (.xd [(("name" : Str), v), ("why", u)])) ⟨G', g, dr, tk', os⟩ := I1.laid (t' := tk') old M.dbig ob
      refine ⟨e, oe, fv, ⟨G', g, dr, tk', os⟩, _, .ref C, some d, rfl, J, fun b o q => ?_, ge, hoe, ⟨hc, hd⟩, hdat, h1, ?_, rfl, I1.bare, raises_own T.exC T.tyC, q1 d (I1.hok.fresh M.dbig)⟩
      · by_cases hb : b = e
        · have q' : G'.get? b = some o := q
          rw [hb, ge] at q'; cases q'
        · exact (gk b hb).symm.trans q
      · rw [upd_ne (Ne.symm M.dne)]
        exact I1.hok.fresh M.new
/-- raise BadJob(e, f) -/
def tRaiseBad2 (C : Addr) (W : WX) (ta : TA) : TS := fun _ σ H => tMkBad2 C ta σ H fun cls d H' => W cls d σ H'
theorem ps_raiseBad2 {a b : Expr} {ta : TA} {W : WX} {p pos pos2 : Pos} {k : Nat} (hc : X.calm = true) (T : PySem.BadY.BadTxt X.K X.mg C fI) (hr : Room k X.A) (tk : Takes X W) (ha : PA X [a, b] ta) (hg : Gl X "BadJob" := by rfl)
    (he : starEach (a :: [b]) X.env = (false, eval a X.env) :: starEach [b] X.env := by rfl) (hpl : (backTo pos (starEach [b] X.env)).any (·.1) = false := by rfl) :
    PS X (.Raise (some (.Call (.Name "BadJob" p) [a, b] [] pos)) none pos2) (tRaiseBad2 C W ta) := ps_raise hc tk (pmk_bad2 T hr ha hg he hpl)
/-- error.name, low the exception that the suite holds (at a; its class cls, its dict d) -/
def tByName (C : Addr) (a : Addr) (cls : Value) (d : Option Addr) (te : TE) : TE := fun σ H Q => te σ H fun x H1 => x = .ref a ∧ cls = .ref C ∧ ∃ (dd : Addr) (v u : V), d = some dd ∧ H1 dd = some (.xd [(("name" : Str), v), ("why", u)]) ∧ Q v H1
theorem pe_byName {a : Addr} {oe : Obj} {cls : Value} {d : Option Addr} {pn : List (Addr × Obj)} {e : Expr} {te : TE} {pos : Pos} (T : PySem.BadY.BadTxt X.K X.mg C fI) (hz : Zc cls d oe) (hf : ∃ vs, oe.data = .fields vs) (he : PE (X.suite a ((a, oe) :: pn)) e te)
    (hb : attributeBase e "name" X.env (eval e X.env) = eval e X.env := by rfl) :
    PE (X.suite a ((a, oe) :: pn)) (.Attribute e "name" pos) (tByName C a cls d te) := by
  refine ⟨fun pins s σ H Q I h => ?_⟩
  refine attr_of hb (thn (he.run pins s σ H _ I h) fun ue s1 hh => ?_)
  obtain ⟨x, H1, I1, rx, ex, ec, dd, v, u, ed, ea, q⟩ := hh
  subst ex
  obtain rfl : ue = Value.ref a := rx
  subst ec
  subst ed
  obtain ⟨ha, _⟩ := I1.pin (a, oe) (List.mem_append_left _ List.mem_cons_self)
  obtain ⟨vs, hd⟩ := hf
  have hx : ObjOk X.prog X.w H1 s1.heap dd (.xd [(("name" : Str), v), ("why", u)]) := I1.hok dd _ ea
  obtain ⟨mA, hns, hr⟩ := hx
  obtain ⟨od, ho, hl⟩ := lookIn_ns hns
  have l : List.lookup ("name" : Str) [(("name" : Str), v), ("why", u)] = some v := by simp [List.lookup]
  obtain ⟨u1, hu, ru⟩ := RelO.some_of (v := v) (o := mA "name") (by rw [← l]; exact hr "name")
  have J : PySem.W.InstAt s1.heap a oe C (some od) := ⟨ha, hz.1, by unfold PySem.W.notCls; rw [hd] <;> rfl, by rw [hz.2]; exact ho⟩
  exact HandSPX.exc_get I1.kIn J T.ga T.gg T.exC (PySem.W.findObj_own T.hdC T.noN rfl (by rw [hl, hu])) (handed_of ru) ⟨v, H1, I1.tok _, ru, q⟩
end
end Kx


set_option maxHeartbeats 8000000
namespace Kx
open PySem PySem.Spec PyProof.Rows L2
abbrev s_check_there : Stmt := topS 19
abbrev s_unlike_columns : Stmt := topS 20
abbrev s_columns_of_read : Stmt := topS 21
abbrev s_columns_of_filter : Stmt := topS 22
abbrev s_columns_of_union : Stmt := topS 27
abbrev s_columns_of_unlike : Stmt := topS 28
abbrev s_columns_of_sort : Stmt := topS 29
structure ReadyX (P : Program) (w : World) (K : PySem.W.Frag) (mg : Str → Option Value) (base : Heap) (k : Nat) (x : Str) (ps : List Str) (sp : Sp) : Prop where
  ex : ∃ f fd, FnOk P w K mg base (L2.CX P w) k f fd ps sp ∧ Binds K fd ps [] ∧ mg x = some (.ref f) ∧ PySem.W.keepIn K (.ref f) = true
theorem pe_fnX {X : Cx} {W : WX} {k : Nat} {x : Str} {ps : List Str} {sp : Sp} {p pos : Pos} {e : Expr} {es : List Expr} {t : TA} (G : ReadyX X.prog X.w X.K X.mg X.base k x ps sp) (hr : Room k X.A) (tk : Takes X W) (ha : PA X (e :: es) t) (hg : Gl X x := by rfl)
    (hdb : (x == ("__debug__" : Str)) = false := by decide) (he : starEach (e :: es) X.env = (false, eval e X.env) :: starEach es X.env := by rfl) (hpl : (backTo pos (starEach es X.env)).any (·.1) = false := by rfl) :
    PE X (.Call (.Name x p) (e :: es) [] pos) (tCallS sp (WE W) t) := by
  obtain ⟨f, fd, h, hb, hm, hk⟩ := G.ex
  exact pe_callS h hr hg hm hk hb (fun σ => passAt tk σ) ha hdb he hpl
theorem pi_or {X : Cx} {tg e : Expr} {t1 t2 : TI} (h1 : PI X tg e t1) (h2 : PI X tg e t2) : PI X tg e (fun σ H R => t1 σ H R ∨ t2 σ H R) :=
  ⟨fun pins s σ H R I h => h.elim (h1.run pins s σ H R I) (h2.run pins s σ H R I)⟩
/-- what an error of a step's name says -/
def BadE (C : Addr) (nm : Str) (H : Hp) (E : XK) : Prop := ∀ (H' : Hp) (u : V) (d : Addr), Same H H' → H' d = none → E (.ref C) (some d) (upd H' d (.xd [("name", .str nm), ("why", u)]))
section
variable {P : Program} {w : World} {K : PySem.W.Frag} {mg : Str → Option Value} {base : Heap}
/-! ### check_there -/
def spThere (K : PySem.W.Frag) (C : Addr) : Sp := fun vs H Q E => ∃ (nm : Str) (ws kd : Addr) (xs : List Str) (kf : Str → Option Bool), vs = [.str nm, .ref ws, .ref kd] ∧ (SqT K H ws (xs.map V.str) ∨ SqL K H ws (xs.map V.str)) ∧ KdAt H kd kf ∧ ((∀ x ∈ xs, kf x ≠ none) → Q .non H) ∧ ((∃ x ∈ xs, kf x = none) → BadE C nm H E)
theorem sc_there : FnScope ["name", "words", "kinds", "word"] ["name", "words", "kinds"] (defScope s_check_there) := ⟨rfl, rfl, rfl, by decide +kernel, rfl, by decide +kernel, by decide +kernel⟩
theorem ok_there {f C fI : Addr} {fd : FuncData} (F : Fun K "check_there" "check_there" s_check_there f fd) (T : PySem.BadY.BadTxt K mg C fI) : FnOk P w K mg base (L2.CX P w) 2 f fd ["name", "words", "kinds"] (spThere K C) := by
  refine F.okX sc_there (fun vs H Q E h => ?_) (fun cdv A outer s H vs Q E hr h => ?_)
  · obtain ⟨nm, ws, kd, xs, kf, rfl, _⟩ := h
    rfl
  obtain ⟨nm, ws, kd, xs, kf, rfl, hw, hk, q, qe⟩ := h
  have nd := sc_there.nd
  have hr1 : Room 1 _ := hr
  have hu64 : _ + 64 < cLine := hr.units
  have hu1 : _ + 1 < cLine := Nat.lt_of_le_of_lt (Nat.add_le_add_left (by decide : 1 ≤ 64) _) hu64
  refine ⟨_, pss_one (ps_for (passes_of rfl) rfl (pi_or (pi_tup (pv 1)) (pi_list (pv 1))) (pg_name (i := 3) nd rfl (.inl rfl)) (pss_one (ps_if (pt_cmp (pc_dnotin hu1 (pv 3) (pv 2)) rfl) (pss_one (ps_raiseBad2 rfl T hr1 (takes_of rfl rfl rfl rfl) (pa_cons (pv 0) (pa_cons pe_str pa_nil)))) (pss_nil)))), ?_⟩
  obtain ⟨kvs, ek, gk⟩ := hk
  rcases hw with hw | hw
  · refine .inl ⟨_, rfl, ws, rfl, ⟨_, hw⟩, ?_⟩
    refine for_tup (K := K) (a := ws) (xs := xs.map V.str) (fun i σ H' => ∃ y3, σ = [some (.str nm), some (.ref ws), some (.ref kd), y3] ∧ H' = H ∧ ∀ x ∈ xs.take i, kf x ≠ none) ⟨_, rfl, rfl, fun x hx => absurd hx (by simp)⟩ (fun i σ H' _ h => by obtain ⟨_, _, rfl, _⟩ := h; exact hw) ?_ ?_
    · rintro i x σ H' hx ⟨y3, rfl, rfl, ok⟩
      rw [List.getElem?_map] at hx
      obtain ⟨x, ex, rfl⟩ := Option.map_eq_some_iff.mp hx
      have gx := gk x
      refine ⟨_, rfl, _, rfl, kd, _, rfl, DGet.k (k := .inr x) ek, _, rfl, ?_⟩
      cases h : kf x with
      | none =>
        have e0 : valV kvs (.inr x) = none := by rw [gx, h]; rfl
        rw [e0]
        exact iteT ⟨_, rfl, _, _, rfl, fun d nd' => qe ⟨x, List.mem_of_getElem? ex, h⟩ _ _ d (Same.refl _) nd'⟩
      | some b =>
        have e0 : valV kvs (.inr x) = some (.str (kW b)) := by rw [gx, h]; rfl
        rw [e0]
        refine iteF ⟨_, rfl, rfl, fun z hz => ?_⟩
        rw [List.take_add_one, ex] at hz
        rcases List.mem_append.mp hz with hz | hz
        · exact ok z hz
        · rw [List.mem_singleton.mp hz, h]
          intro z
          cases z
    · rintro σ H' ⟨y3, rfl, rfl, ok⟩
      exact q fun x hx => ok x (by rw [List.length_map, List.take_length]; exact hx)
  · refine .inr ⟨_, rfl, ws, rfl, ⟨_, hw⟩, ?_⟩
    refine for_list (K := K) (a := ws) (xs := xs.map V.str) (fun i σ H' => ∃ y3, σ = [some (.str nm), some (.ref ws), some (.ref kd), y3] ∧ H' = H ∧ ∀ x ∈ xs.take i, kf x ≠ none) ⟨_, rfl, rfl, fun x hx => absurd hx (by simp)⟩ (fun i σ H' _ h => by obtain ⟨_, _, rfl, _⟩ := h; exact hw) ?_ ?_
    · rintro i x σ H' hx ⟨y3, rfl, rfl, ok⟩
      rw [List.getElem?_map] at hx
      obtain ⟨x, ex, rfl⟩ := Option.map_eq_some_iff.mp hx
      have gx := gk x
      refine ⟨_, rfl, _, rfl, kd, _, rfl, DGet.k (k := .inr x) ek, _, rfl, ?_⟩
      cases h : kf x with
      | none =>
        have e0 : valV kvs (.inr x) = none := by rw [gx, h]; rfl
        rw [e0]
        exact iteT ⟨_, rfl, _, _, rfl, fun d nd' => qe ⟨x, List.mem_of_getElem? ex, h⟩ _ _ d (Same.refl _) nd'⟩
      | some b =>
        have e0 : valV kvs (.inr x) = some (.str (kW b)) := by rw [gx, h]; rfl
        rw [e0]
        refine iteF ⟨_, rfl, rfl, fun z hz => ?_⟩
        rw [List.take_add_one, ex] at hz
        rcases List.mem_append.mp hz with hz | hz
        · exact ok z hz
        · rw [List.mem_singleton.mp hz, h]
          intro z
          cases z
    · rintro σ H' ⟨y3, rfl, rfl, ok⟩
      exact q fun x hx => ok x (by rw [List.length_map, List.take_length]; exact hx)
/-! ### unlike_columns -/
abbrev N_unlike_columns : List Str := ["name", "columns", "words", "column", "_"]
def spUnl (K : PySem.W.Frag) (C : Addr) : Sp := fun vs H Q E => ∃ (nm : Str) (ca : Addr) (as : List Col), vs = [.str nm, .ref ca] ∧ (TupF H ca (as.map fun c => .ref c.1) ∨ H ca = some (.lst (as.map fun c => .ref c.1))) ∧ PairsAt H as ∧ as.length ≤ 500 ∧
  ((as.map fun c => c.2.1).Nodup → ∀ (a : Addr) (H' : Hp), Same H H' → TupF H' a (as.map fun c => .ref c.1) → Q (.ref a) H') ∧ (¬ (as.map fun c => c.2.1).Nodup → BadE C nm H E)
theorem sc_unl : FnScope N_unlike_columns ["name", "columns"] (defScope s_unlike_columns) := ⟨rfl, rfl, rfl, by decide +kernel, rfl, by decide +kernel, by decide +kernel⟩
theorem ok_unl {f C fI : Addr} {fd : FuncData} (F : Fun K "unlike_columns" "unlike_columns" s_unlike_columns f fd) (T : PySem.BadY.BadTxt K mg C fI) (m_len : mg "len" = none) (m_set : mg "set" = none) (m_tuple : mg "tuple" = none) : FnOk P w K mg base (L2.CX P w) 2 f fd ["name", "columns"] (spUnl K C) := by
  refine F.okX sc_unl (fun vs H Q E h => ?_) (fun cdv A outer s H vs Q E hr h => ?_)
  · obtain ⟨nm, ca, as, rfl, _⟩ := h
    rfl
  obtain ⟨nm, ca, as, rfl, hca, hp, h500, q, qe⟩ := h
  have nd := sc_unl.nd
  have hr1 : Room 1 _ := hr
  refine ⟨_, pss_cons (ps_setLc (i := 2) (own := [("column", 3), ("_", 4)]) (g := (gTup K 2 (gCons (gName 3) (gCons (gName 4) gNil)))) (tt := tYes) rfl nd rfl rfl (sw_true rfl rfl rfl (by decide +kernel)) (pi_or (pi_tup (pv 1)) (pi_list (pv 1))) (blkOk_by (N := N_unlike_columns) (sc := defScope s_unlike_columns) (by decide +kernel)) (fun _ _ _ _ _ => pg_tup rfl (pgs_cons (pg_name (i := 3) nd rfl (.inl rfl)) (pgs_cons (pg_name (i := 4) nd rfl (.inl rfl)) pgs_nil))) (fun _ _ _ _ _ => pts_nil) (fun _ _ _ _ _ => (pv 3)))
      (pss_cons (ps_if (pt_cmpR op_ne (pe_callB cr_lenK (by rfl) m_len PySem.boot_len (pa_cons (pe_callTy (Yk.cr_setK rfl) (by rfl) m_set PyProof.Rows.boot_set (pa_cons (pv 2) pa_nil)) pa_nil)) (pe_callB call_len_seq (by rfl) m_len PySem.boot_len (pa_cons (pv 2) pa_nil)) (nomark _)) (pss_one (ps_raiseBad2 rfl T hr1 (takes_of rfl rfl rfl rfl) (pa_cons (pv 0) (pa_cons pe_str pa_nil)))) (pss_nil))
      (pss_one (ps_ret (pe_callTy cr_tupleF (by rfl) m_tuple PyProof.Rows.boot_tuple (pa_cons (pv 1) pa_nil))))), ?_⟩
  have s500 : ∀ {n : Nat}, n ≤ 500 → n < sizeLine := fun h => Nat.lt_of_le_of_lt h (by decide)
  have fin : ∀ (D1 : Addr) (H1 : Hp), Same H H1 → H1 D1 = some (.lst ((as.map fun c => c.2.1).map V.str)) → (as.map fun c => c.2.1).length ≤ 500 → ∀ (M : List L2.Key), M.Nodup → (∀ z, z ∈ M ↔ z ∈ (as.map fun c => c.2.1).map (fun x => (Sum.inr x : L2.Key))) → (M.length = (as.map fun c => c.2.1).length ↔ (as.map fun c => c.2.1).Nodup) := fun D1 H1 _ _ _ M nM mM => by
    constructor
    · intro e
      exact nodup_strs (len_nodup nM mM (by rw [List.length_map]; omega))
    · intro hn
      have hn' : ((as.map fun c => c.2.1).map (fun x => (Sum.inr x : L2.Key))).Nodup := List.pairwise_map.mpr (hn.imp fun ne e => ne (Sum.inr.inj e))
      have h1 := nodup_len nM fun z hz => (mM z).mp hz
      have h2 := nodup_len hn' fun z hz => (mM z).mpr hz
      rw [List.length_map] at h1 h2
      omega
  rcases hca with tf | tf
  · refine .inl ⟨_, rfl, ca, rfl, ⟨_, tf.sq (K := K)⟩, fun D1 hD1 => lc_tup (K := K) (a := ca) (xs := as.map fun c => .ref c.1) (fun i H' => Same H H' ∧ H' D1 = some (.lst (((as.map fun c => c.2.1).take i).map V.str))) ⟨same_upd hD1, upd_same⟩ (fun i H' _ h => (same_f h.1 _ _ tf).sq (K := K)) ?_ ?_⟩
    · rintro i x H' hx ⟨sm, e⟩
      rw [List.getElem?_map] at hx
      obtain ⟨p, hp', rfl⟩ := Option.map_eq_some_iff.mp hx
      have eu := hp p (List.mem_of_getElem? hp')
      refine ⟨p.1, _, rfl, SqT.of (sm _ _ eu), rfl, _, _, rfl, _, _, rfl, rfl, rfl, _, rfl, _, e, ?_, fun b o' e' => ?_, ?_⟩
      · rw [List.length_map, List.length_take, List.length_map]
        exact s500 (by omega)
      · rw [upd_ne (ne_of_none e' hD1)]
        exact sm _ _ e'
      · have h1 : (as.map fun c => c.2.1).take (i + 1) = (as.map fun c => c.2.1).take i ++ [p.2.1] := by
          rw [List.take_add_one, List.getElem?_map, hp']
          rfl
        rw [h1, List.map_append]
        exact upd_same
    rintro H1 ⟨s1, e1⟩
    rw [List.length_map, List.take_of_length_le (by rw [List.length_map]; exact Nat.le_refl _)] at e1
    have ek : ((as.map fun c => c.2.1).map (fun x => (Sum.inr x : L2.Key))).map kV = (as.map fun c => c.2.1).map V.str := by
      rw [List.map_map]
      rfl
    refine ⟨_, rfl, D1, (as.map fun c => c.2.1).map (fun x => (Sum.inr x : L2.Key)), rfl, .inl (SqL.of (by rw [ek]; exact e1)), (by rw [List.length_map, List.length_map]; omega), fun p M nM mM hpp => ?_⟩
    have s2 := same_upd (o := Yk.SetKO P w p M) hpp
    have iff := fin D1 H1 s1 e1 (by rw [List.length_map]; exact h500) M nM mM
    refine ⟨p, M, rfl, upd_same, _, rfl, D1, _, rfl, .inl (SqL.of (s2 _ _ e1)), rfl, _, rfl, ite2 (fun c => ?_) (fun c => ?_)⟩
    · have hn : ¬ (as.map fun c => c.2.1).Nodup := fun z => by
        have h1 := iff.mpr z
        have h2 : (((as.map fun c => c.2.1).map V.str).length : Nat) = M.length := by rw [List.length_map, h1]
        rw [h2] at c
        simp at c
      exact ⟨_, rfl, _, _, rfl, fun d nd' => qe hn _ _ d (s1.trans s2) nd'⟩
    · have hy : (as.map fun c => c.2.1).Nodup := iff.mp (by
        by_cases z : M.length = (as.map fun c => c.2.1).length
        · exact z
        · exfalso
          apply c
          have h2 : ¬ V.int ((M.length : Nat) : Int) = V.int ((((as.map fun c => c.2.1).map V.str).length : Nat) : Int) := fun h => by
            injection h with h
            rw [List.length_map] at h
            omega
          rw [decide_eq_false h2]
          rfl)
      exact ⟨_, rfl, ca, _, rfl, .inr ⟨(same_f (s1.trans s2) _ _ tf).sq, q hy ca _ (s1.trans s2) (same_f (s1.trans s2) _ _ tf)⟩⟩
  · refine .inr ⟨_, rfl, ca, rfl, ⟨_, SqL.of tf⟩, fun D1 hD1 => lc_list (K := K) (a := ca) (xs := as.map fun c => .ref c.1) (fun i H' => Same H H' ∧ H' D1 = some (.lst (((as.map fun c => c.2.1).take i).map V.str))) ⟨same_upd hD1, upd_same⟩ (fun i H' _ h => SqL.of (h.1 _ _ tf)) ?_ ?_⟩
    · rintro i x H' hx ⟨sm, e⟩
      rw [List.getElem?_map] at hx
      obtain ⟨p, hp', rfl⟩ := Option.map_eq_some_iff.mp hx
      have eu := hp p (List.mem_of_getElem? hp')
      refine ⟨p.1, _, rfl, SqT.of (sm _ _ eu), rfl, _, _, rfl, _, _, rfl, rfl, rfl, _, rfl, _, e, ?_, fun b o' e' => ?_, ?_⟩
      · rw [List.length_map, List.length_take, List.length_map]
        exact s500 (by omega)
      · rw [upd_ne (ne_of_none e' hD1)]
        exact sm _ _ e'
      · have h1 : (as.map fun c => c.2.1).take (i + 1) = (as.map fun c => c.2.1).take i ++ [p.2.1] := by
          rw [List.take_add_one, List.getElem?_map, hp']
          rfl
        rw [h1, List.map_append]
        exact upd_same
    rintro H1 ⟨s1, e1⟩
    rw [List.length_map, List.take_of_length_le (by rw [List.length_map]; exact Nat.le_refl _)] at e1
    have ek : ((as.map fun c => c.2.1).map (fun x => (Sum.inr x : L2.Key))).map kV = (as.map fun c => c.2.1).map V.str := by
      rw [List.map_map]
      rfl
    refine ⟨_, rfl, D1, (as.map fun c => c.2.1).map (fun x => (Sum.inr x : L2.Key)), rfl, .inl (SqL.of (by rw [ek]; exact e1)), (by rw [List.length_map, List.length_map]; omega), fun p M nM mM hpp => ?_⟩
    have s2 := same_upd (o := Yk.SetKO P w p M) hpp
    have iff := fin D1 H1 s1 e1 (by rw [List.length_map]; exact h500) M nM mM
    refine ⟨p, M, rfl, upd_same, _, rfl, D1, _, rfl, .inl (SqL.of (s2 _ _ e1)), rfl, _, rfl, ite2 (fun c => ?_) (fun c => ?_)⟩
    · have hn : ¬ (as.map fun c => c.2.1).Nodup := fun z => by
        have h1 := iff.mpr z
        have h2 : (((as.map fun c => c.2.1).map V.str).length : Nat) = M.length := by rw [List.length_map, h1]
        rw [h2] at c
        simp at c
      exact ⟨_, rfl, _, _, rfl, fun d nd' => qe hn _ _ d (s1.trans s2) nd'⟩
    · have hy : (as.map fun c => c.2.1).Nodup := iff.mp (by
        by_cases z : M.length = (as.map fun c => c.2.1).length
        · exact z
        · exfalso
          apply c
          have h2 : ¬ V.int ((M.length : Nat) : Int) = V.int ((((as.map fun c => c.2.1).map V.str).length : Nat) : Int) := fun h => by
            injection h with h
            rw [List.length_map] at h
            omega
          rw [decide_eq_false h2]
          rfl)
      refine ⟨_, rfl, ca, _, rfl, .inl ⟨SqL.of (s2 _ _ (s1 _ _ tf)), fun l o hl ho => ?_⟩⟩
      exact q hy l _ ((s1.trans s2).trans (same_upd hl)) ⟨o, ho, upd_same⟩
end
end Kx

set_option maxHeartbeats 8000000
namespace Kx
open PySem PySem.Spec PyProof.Rows L2







def ndC (cs : List NC) : Option (List NC) := if (cs.map (·.1)).Nodup then some cs else none
def foldK (kf : Str → Option Bool) (m : FC) : Option Bool :=
  if m.1 = "count" then some true else match m.2.1 with
  | none => none
  | some e => match kindE kf e with
    | none => none
    | some b => if (m.1 ∈ (["sum", "mean"] : List Str)) ∧ b = false then none else some (lateK m.1 b)
def colsD (css : List (List NC)) : Det → Option (List NC)
  | .read cs => ndC cs
  | .filter e => if kindE (kfN (css.getD 0 [])) e = some true then some (css.getD 0 []) else none
  | .map ms => if ms.all (fun m => (kindE (kfN (css.getD 0 [])) m.1).isSome) = true then ndC (ms.map fun m => (m.2.2, (kindE (kfN (css.getD 0 [])) m.1).getD true)) else none
  | .fold ks fs => if (ks.all (fun k => (kfN (css.getD 0 []) k.1).isSome) && fs.all fun m => (foldK (kfN (css.getD 0 [])) m).isSome) = true then ndC ((ks.map fun k => (k.1, (kfN (css.getD 0 []) k.1).getD true)) ++ fs.map fun m => (m.2.2.2, (foldK (kfN (css.getD 0 [])) m).getD true)) else none
  | .join ks => if (ks.all fun k => (kfN (css.getD 0 []) k.1).isSome && decide (kfN (css.getD 1 []) k.1 = kfN (css.getD 0 []) k.1)) = true then
      ndC ((ks.map fun k => (k.1, (kfN (css.getD 0 []) k.1).getD true)) ++ ((css.getD 0 []).filter (fun c => decide (c.1 ∉ ks.map (·.1))) ++ (css.getD 1 []).filter fun c => decide (c.1 ∉ ks.map (·.1)))) else none
  | .union => if css.getD 0 [] = css.getD 1 [] then some (css.getD 0 []) else none
  | .unlike => some (css.getD 0 [])
  | .sort ws _ => if ws.all (fun x => (kfN (css.getD 0 []) x.1).isSome) = true then some (css.getD 0 []) else none
/-- columns in a tuple that has no dict of its own -/
def CF (H : Hp) (a : Addr) (cs : List NC) : Prop := ∃ as : List Col, TupF H a (as.map fun c => .ref c.1) ∧ PairsAt H as ∧ as.map (·.2) = cs
theorem CF.keep {H H' : Hp} {a : Addr} {cs : List NC} (c : CF H a cs) (h : KeepT H H') (hf : KeepF H H') : CF H' a cs := let ⟨as, t, p, e⟩ := c; ⟨as, hf _ _ t, fun x hx => h _ _ (p x hx), e⟩
structure GoodC (cs : List NC) : Prop where
  nod : (cs.map (·.1)).Nodup
  few : cs.length ≤ 100
  lay : ∀ c ∈ cs, PyData.canLay0 (.str c.1) = true
def GivenAt (H : Hp) (gs : List Addr) (css : List (List NC)) : Prop := gs.length = css.length ∧ ∀ (i : Nat) (g : Addr) (cs : List NC), gs[i]? = some g → css[i]? = some cs → CF H g cs ∧ GoodC cs
def ExOk (e : Ex) : Prop := OpsOk e ∧ e.dep ≤ 100
def DetOk : Det → Prop
  | .read cs => cs.length ≤ 100
  | .filter e => ExOk e
  | .map ms => ms.length ≤ 100 ∧ ∀ m ∈ ms, ExOk m.1
  | .fold ks fs => ks.length ≤ 100 ∧ fs.length ≤ 100 ∧ ∀ m ∈ fs, m.1 ≠ "count" → ∃ e, m.2.1 = some e ∧ ExOk e
  | .join ks => ks.length ≤ 100
  | .union => True
  | .unlike => True
  | .sort ws _ => ws.length ≤ 100
def Det.arity : Det → Nat
  | .read _ => 0
  | .join _ => 2
  | .union => 2
  | _ => 1
def spChk (K : PySem.W.Frag) (C : Addr) (wh : Str) : Sp := fun vs H Q E => ∃ (nm : Str) (gv : Addr) (dv : V) (det : Det) (gs : List Addr) (css : List (List NC)), vs = [.str nm, .ref gv, dv] ∧ det.what = wh ∧ SqL K H gv (gs.map V.ref) ∧ GivenAt H gs css ∧ css.length = det.arity ∧ DetAt H dv det ∧ DetOk det ∧
  (∀ cs, colsD css det = some cs → ∀ (a : Addr) (H' : Hp), Same H H' → CF H' a cs → Q (.ref a) H') ∧ (colsD css det = none → BadE C nm H E)
theorem paired_cols {K : PySem.W.Frag} {H : Hp} : ∀ {as : List Col}, PairsAt H as → Paired (fun p kv => SqT K H p [.str kv.1, kv.2]) (as.map (·.1)) (as.map fun c => (c.2.1, V.str (kW c.2.2)))
  | [], _ => .nil
  | c :: as, h => .cons (SqT.of (h c List.mem_cons_self)) (paired_cols fun x hx => h x (List.mem_cons_of_mem _ hx))
theorem kfN_none {cs : List NC} {x : Str} (h : x ∉ cs.map (·.1)) : kfN cs x = none := by
  unfold kfN
  rw [List.find?_eq_none.mpr]
  · rfl
  · intro c hc z
    exact h (List.mem_map.mpr ⟨c, hc, of_decide_eq_true z⟩)
theorem val_merge : ∀ {cs : List NC} (acc : List (L2.Key × V)), (cs.map (·.1)).Nodup → ∀ x : Str, valV (mergeK acc (cs.map fun c => ((.inr c.1 : L2.Key), V.str (kW c.2)))) (.inr x) = (match kfN cs x with | some b => some (V.str (kW b)) | none => valV acc (.inr x))
  | [], acc, _, x => rfl
  | c :: cs, acc, hn, x => by
    have hn' := List.nodup_cons.mp hn
    show valV (mergeK (putK acc (.inr c.1) (.str (kW c.2))) (cs.map fun c => ((.inr c.1 : L2.Key), V.str (kW c.2)))) (.inr x) = _
    rw [val_merge _ hn'.2 x]
    by_cases h : c.1 = x
    · have h0 : kfN cs x = none := kfN_none (by rw [← h]; exact hn'.1)
      have h1 : kfN (c :: cs) x = some c.2 := by
        unfold kfN
        rw [List.find?_cons, decide_eq_true h]
        rfl
      rw [h0, h1, valV_put, if_pos (by rw [h])]
    · have h1 : kfN (c :: cs) x = kfN cs x := by
        unfold kfN
        rw [List.find?_cons, decide_eq_false h]
      rw [h1]
      cases kfN cs x with
      | some b => rfl
      | none =>
        show valV (putK acc (.inr c.1) (.str (kW c.2))) (.inr x) = valV acc (.inr x)
        rw [valV_put, if_neg (fun z => h (Sum.inr.inj z).symm)]
theorem kd_new {H : Hp} {kd : Addr} {as : List Col} {cs : List NC} (e : as.map (·.2) = cs) (hn : (cs.map (·.1)).Nodup) : KdAt (upd H kd (.dK (mergeK [] ((as.map fun c => (c.2.1, V.str (kW c.2.2))).map fun kv => ((.inr kv.1 : L2.Key), kv.2))))) kd (kfN cs) := by
  refine ⟨_, upd_same, fun x => ?_⟩
  have e2 : ((as.map fun c => (c.2.1, V.str (kW c.2.2))).map fun kv => ((.inr kv.1 : L2.Key), kv.2)) = cs.map fun c => ((.inr c.1 : L2.Key), V.str (kW c.2)) := by
    rw [← e, List.map_map, List.map_map]
    rfl
  rw [e2, val_merge [] hn x]
  cases kfN cs x <;> rfl
theorem what_read {d : Det} (h : d.what = "read") : ∃ cs, d = .read cs := by
  cases d <;> first | exact ⟨_, rfl⟩ | (dsimp only [Det.what] at h; exact absurd h (by decide +kernel))
theorem what_filter {d : Det} (h : d.what = "filter") : ∃ cs, d = .filter cs := by
  cases d <;> first | exact ⟨_, rfl⟩ | (dsimp only [Det.what] at h; exact absurd h (by decide +kernel))
theorem what_map {d : Det} (h : d.what = "map") : ∃ cs, d = .map cs := by
  cases d <;> first | exact ⟨_, rfl⟩ | (dsimp only [Det.what] at h; exact absurd h (by decide +kernel))
theorem what_join {d : Det} (h : d.what = "join") : ∃ cs, d = .join cs := by
  cases d <;> first | exact ⟨_, rfl⟩ | (dsimp only [Det.what] at h; exact absurd h (by decide +kernel))
theorem what_fold {d : Det} (h : d.what = "fold") : ∃ ks fs, d = .fold ks fs := by
  cases d <;> first | exact ⟨_, _, rfl⟩ | (dsimp only [Det.what] at h; exact absurd h (by decide +kernel))
theorem what_sort {d : Det} (h : d.what = "sort") : ∃ ws m, d = .sort ws m := by
  cases d <;> first | exact ⟨_, _, rfl⟩ | (dsimp only [Det.what] at h; exact absurd h (by decide +kernel))
theorem what_union {d : Det} (h : d.what = "union") : d = .union := by
  cases d <;> first | rfl | (dsimp only [Det.what] at h; exact absurd h (by decide +kernel))
theorem what_unlike {d : Det} (h : d.what = "unlike") : d = .unlike := by
  cases d <;> first | rfl | (dsimp only [Det.what] at h; exact absurd h (by decide +kernel))
section
variable {P : Program} {w : World} {K : PySem.W.Frag} {mg : Str → Option Value} {base : Heap}
theorem sc_read : FnScope ["name", "given", "details"] ["name", "given", "details"] (defScope s_columns_of_read) := ⟨rfl, rfl, rfl, by decide +kernel, rfl, by decide +kernel, by decide +kernel⟩
theorem ok_read {f C : Addr} {fd : FuncData} (F : Fun K "columns_of_read" "columns_of_read" s_columns_of_read f fd) (G_unlike_columns : ReadyX P w K mg base 2 "unlike_columns" ["name", "columns"] (spUnl K C)) : FnOk P w K mg base (L2.CX P w) 3 f fd ["name", "given", "details"] (spChk K C "read") := by
  refine F.okX sc_read (fun vs H Q E h => ?_) (fun cdv A outer s H vs Q E hr h => ?_)
  · obtain ⟨nm, gv, dv, det, gs, css, rfl, _⟩ := h
    rfl
  obtain ⟨nm, gv, dv, det, gs, css, rfl, hw, hgv, hg, har, hd, hok, q, qe⟩ := h
  have nd := sc_read.nd
  have hr2 : Room 2 _ := hr
  refine ⟨_, pss_one (ps_ret (pe_fnX G_unlike_columns hr2 (takes_of rfl rfl rfl rfl) (pa_cons (pv 0) (pa_cons (pv 2) pa_nil)))), ?_⟩
  obtain ⟨cs, rfl⟩ := what_read hw
  obtain ⟨t, as, rfl, tf, hp, rfl⟩ := hd
  have e1 : ((as.map (·.2)).map (·.1)) = as.map fun c => c.2.1 := by
    rw [List.map_map]
    rfl
  have l1 : as.length ≤ 100 := by
    have : (as.map (·.2)).length ≤ 100 := hok
    rw [List.length_map] at this
    exact this
  refine ⟨_, rfl, _, rfl, nm, t, as, rfl, .inl tf, hp, by omega, fun hn a H' sm ta => ?_, fun hn => qe ?_⟩
  · refine q _ ?_ a H' sm ⟨as, ta, fun c hc => sm _ _ (hp c hc), rfl⟩
    show ndC _ = _
    exact if_pos (by rw [e1]; exact hn)
  · show ndC _ = _
    exact if_neg (by rw [e1]; exact hn)
theorem sc_unlike : FnScope ["name", "given", "details"] ["name", "given", "details"] (defScope s_columns_of_unlike) := ⟨rfl, rfl, rfl, by decide +kernel, rfl, by decide +kernel, by decide +kernel⟩
end
end Kx

set_option maxHeartbeats 8000000
namespace Kx
open PySem PySem.Spec PyProof.Rows L2







theorem given1 {H : Hp} {gs : List Addr} {css : List (List NC)} (g : GivenAt H gs css) (h : css.length = 1) : ∃ a c, gs = [a] ∧ css = [c] ∧ CF H a c ∧ GoodC c := by
  match css, h with
  | [c], _ =>
    match gs, g.1 with
    | [a], _ => exact ⟨a, c, rfl, rfl, g.2 0 a c rfl rfl⟩
theorem given2 {H : Hp} {gs : List Addr} {css : List (List NC)} (g : GivenAt H gs css) (h : css.length = 2) : ∃ a b c e, gs = [a, b] ∧ css = [c, e] ∧ CF H a c ∧ GoodC c ∧ CF H b e ∧ GoodC e := by
  match css, h with
  | [c, e], _ =>
    match gs, g.1 with
    | [a, b], _ => exact ⟨a, b, c, e, rfl, rfl, (g.2 0 a c rfl rfl).1, (g.2 0 a c rfl rfl).2, (g.2 1 b e rfl rfl).1, (g.2 1 b e rfl rfl).2⟩
theorem colsT_sh {l : List NC} (h : ∀ c ∈ l, PyData.canLay0 (.str c.1) = true) : SeqAt.shaped (.tuple (l.map colD)) = true := by
  have d := colsD_dep l
  show (PyData.canLayAll0 (l.map colD) && decide (PyData.depthAll (l.map colD) + 1 ≤ 64)) = true
  rw [colsD_ok l h, decide_eq_true (by omega)]
  rfl
theorem colsT_eqv (l m : List NC) : PyData.eqv (.tuple (l.map colD)) (.tuple (m.map colD)) = decide (l = m) := colsA_eqv l m
theorem CF.dp {K : PySem.W.Frag} {H : Hp} {a : Addr} {cs : List NC} (c : CF H a cs) : Dp K H (.ref a) (.tuple (cs.map colD)) := by
  obtain ⟨as, t, p, rfl⟩ := c
  exact .tup t.sq (cols_dpA p)
theorem sqL_same {K : PySem.W.Frag} {H H' : Hp} (h : Same H H') {a : Addr} {xs : List V} (q : SqL K H a xs) : SqL K H' a xs := by
  rcases q with (q | ⟨o, q⟩) | q
  · exact .inl (.inl (h _ _ q))
  · exact .inl (.inr ⟨o, h _ _ q⟩)
  · exact .inr q
section
variable {P : Program} {w : World} {K : PySem.W.Frag} {mg : Str → Option Value} {base : Heap}
theorem ok_unlike {f C : Addr} {fd : FuncData} (F : Fun K "columns_of_unlike" "columns_of_unlike" s_columns_of_unlike f fd) : FnOk P w K mg base (L2.CX P w) 3 f fd ["name", "given", "details"] (spChk K C "unlike") := by
  refine F.okX sc_unlike (fun vs H Q E h => ?_) (fun cdv A outer s H vs Q E hr h => ?_)
  · obtain ⟨nm, gv, dv, det, gs, css, rfl, _⟩ := h
    rfl
  obtain ⟨nm, gv, dv, det, gs, css, rfl, hw, hgv, hg, har, hd, hok, q, qe⟩ := h
  have nd := sc_unlike.nd
  refine ⟨_, pss_one (ps_ret (pe_ix (show IxR _ (rIxL K) from ix_list) (pv 1) pe_int (fun _ _ => rfl))), ?_⟩
  have hw' := what_unlike hw
  subst hw'
  obtain ⟨a, c, rfl, rfl, hc, gc⟩ := given1 hg har
  exact ⟨_, rfl, gv, _, 0, _, rfl, rfl, hgv, rfl, q c rfl a H (Same.refl _) hc⟩
theorem sc_union : FnScope ["name", "given", "details"] ["name", "given", "details"] (defScope s_columns_of_union) := ⟨rfl, rfl, rfl, by decide +kernel, rfl, by decide +kernel, by decide +kernel⟩
theorem ok_union {f C fI : Addr} {fd : FuncData} (F : Fun K "columns_of_union" "columns_of_union" s_columns_of_union f fd) (T : PySem.BadY.BadTxt K mg C fI) : FnOk P w K mg base (L2.CX P w) 3 f fd ["name", "given", "details"] (spChk K C "union") := by
  refine F.okX sc_union (fun vs H Q E h => ?_) (fun cdv A outer s H vs Q E hr h => ?_)
  · obtain ⟨nm, gv, dv, det, gs, css, rfl, _⟩ := h
    rfl
  obtain ⟨nm, gv, dv, det, gs, css, rfl, hw, hgv, hg, har, hd, hok, q, qe⟩ := h
  have nd := sc_union.nd
  have hr1 : Room 1 _ := hr.mono (by decide)
  have hu64 : _ + 64 < cLine := hr.units
  refine ⟨_, pss_cons (ps_if (pt_cmpR (op_neD hu64) (pe_ix (show IxR _ (rIxL K) from ix_list) (pv 1) pe_int (fun _ _ => rfl)) (pe_ix (show IxR _ (rIxL K) from ix_list) (pv 1) pe_int (fun _ _ => rfl)) (nomark _)) (pss_one (ps_raiseBad2 rfl T hr1 (takes_of rfl rfl rfl rfl) (pa_cons (pv 0) (pa_cons pe_str pa_nil)))) (pss_nil))
      (pss_one (ps_ret (pe_ix (show IxR _ (rIxL K) from ix_list) (pv 1) pe_int (fun _ _ => rfl)))), ?_⟩
  have hw' := what_union hw
  subst hw'
  obtain ⟨a, b, c, e, rfl, rfl, hc, gc, he, ge⟩ := given2 hg har
  refine ⟨_, rfl, gv, _, 0, _, rfl, rfl, hgv, rfl, _, rfl, gv, _, 1, _, rfl, rfl, hgv, rfl, _, _, hc.dp, he.dp, colsT_sh gc.lay, colsT_sh ge.lay, _, rfl, ?_⟩
  rw [colsT_eqv]
  by_cases h : c = e
  · rw [decide_eq_true h]
    refine iteF ⟨_, rfl, gv, _, 0, _, rfl, rfl, hgv, rfl, q c ?_ a H (Same.refl _) hc⟩
    exact if_pos h
  · rw [decide_eq_false h]
    exact iteT ⟨_, rfl, _, _, rfl, fun d nd' => qe (if_neg h) _ _ d (Same.refl _) nd'⟩
theorem sc_filter : FnScope ["name", "given", "details"] ["name", "given", "details"] (defScope s_columns_of_filter) := ⟨rfl, rfl, rfl, by decide +kernel, rfl, by decide +kernel, by decide +kernel⟩
theorem ok_filter {f C fI : Addr} {fd : FuncData} (F : Fun K "columns_of_filter" "columns_of_filter" s_columns_of_filter f fd) (T : PySem.BadY.BadTxt K mg C fI) (m_dict : mg "dict" = none) (G_kind_of : Ready P w K mg base 101 "kind_of" ["told", "kinds"] (spKind 100)) : FnOk P w K mg base (L2.CX P w) 102 f fd ["name", "given", "details"] (spChk K C "filter") := by
  refine F.okX sc_filter (fun vs H Q E h => ?_) (fun cdv A outer s H vs Q E hr h => ?_)
  · obtain ⟨nm, gv, dv, det, gs, css, rfl, _⟩ := h
    rfl
  obtain ⟨nm, gv, dv, det, gs, css, rfl, hw, hgv, hg, har, hd, hok, q, qe⟩ := h
  have nd := sc_filter.nd
  have hr1 : Room 1 _ := hr.mono (by decide)
  have hrk : Room 101 _ := hr
  refine ⟨_, pss_cons (ps_if (pt_cmpR op_ne (pe_fn G_kind_of hrk (pa_cons (pv 2) (pa_cons (pe_callTy (cr_dictT rfl) (by rfl) m_dict PyProof.Rows.boot_dict (pa_cons (pe_ix (show IxR _ (rIxL K) from ix_list) (pv 1) pe_int (fun _ _ => rfl)) pa_nil)) pa_nil))) pe_str (nomark _)) (pss_one (ps_raiseBad2 rfl T hr1 (takes_of rfl rfl rfl rfl) (pa_cons (pv 0) (pa_cons pe_str pa_nil)))) (pss_nil))
      (pss_one (ps_ret (pe_ix (show IxR _ (rIxL K) from ix_list) (pv 1) pe_int (fun _ _ => rfl)))), ?_⟩
  obtain ⟨e, rfl⟩ := what_filter hw
  obtain ⟨a, c, rfl, rfl, hc, gc⟩ := given1 hg har
  obtain ⟨as, tf, hp, ec⟩ := id hc
  refine ⟨_, rfl, _, rfl, gv, _, 0, _, rfl, rfl, hgv, rfl, a, as.map (·.1), as.map fun c => (c.2.1, V.str (kW c.2.2)), rfl, by rw [List.map_map]; exact tf, paired_cols hp, fun kd hkd => ?_⟩
  have s1 := same_upd (o := .dK (mergeK [] ((as.map fun c => (c.2.1, V.str (kW c.2.2))).map fun kv => ((.inr kv.1 : L2.Key), kv.2)))) hkd
  refine ⟨dv, kd, kfN c, e, rfl, hd.keep (same_t s1) (same_f s1), hok.1, hok.2, kd_new ec gc.nod, ?_⟩
  have g1 : ∀ {H' : Hp}, Same H H' → kindE (kfN c) e = some true → Q (.ref a) H' := fun s h => q c (if_pos h) a _ s (hc.keep (same_t s) (same_f s))
  have g2 : kindE (kfN c) e ≠ some true → BadE C nm H E := fun h => qe (if_neg h)
  generalize kindE (kfN c) e = o at g1 g2 ⊢
  rcases o with _ | _ | _
  · exact ⟨rfl, _, rfl, iteT ⟨_, rfl, _, _, rfl, fun d nd' => g2 (by intro z; cases z) _ _ d s1 nd'⟩⟩
  · exact ⟨rfl, _, rfl, iteT ⟨_, rfl, _, _, rfl, fun d nd' => g2 (by intro z; cases z) _ _ d s1 nd'⟩⟩
  · exact ⟨rfl, _, rfl, iteF ⟨_, rfl, gv, _, 0, _, rfl, rfl, sqL_same s1 hgv, rfl, g1 s1 rfl⟩⟩
abbrev N_columns_of_sort : List Str := ["name", "given", "details", "order", "_", "column"]
theorem sc_sort : FnScope N_columns_of_sort ["name", "given", "details"] (defScope s_columns_of_sort) := ⟨rfl, rfl, rfl, by decide +kernel, rfl, by decide +kernel, by decide +kernel⟩
theorem ok_sort {f C : Addr} {fd : FuncData} (F : Fun K "columns_of_sort" "columns_of_sort" s_columns_of_sort f fd) (m_dict : mg "dict" = none) (G_check_there : ReadyX P w K mg base 2 "check_there" ["name", "words", "kinds"] (spThere K C)) : FnOk P w K mg base (L2.CX P w) 3 f fd ["name", "given", "details"] (spChk K C "sort") := by
  refine F.okX sc_sort (fun vs H Q E h => ?_) (fun cdv A outer s H vs Q E hr h => ?_)
  · obtain ⟨nm, gv, dv, det, gs, css, rfl, _⟩ := h
    rfl
  obtain ⟨nm, gv, dv, det, gs, css, rfl, hw, hgv, hg, har, hd, hok, q, qe⟩ := h
  have nd := sc_sort.nd
  have hr2 : Room 2 _ := hr
  refine ⟨_, pss_cons (ps_asg (pv 2) (pg_tup rfl (pgs_cons (pg_name (i := 3) nd rfl (.inl rfl)) (pgs_cons (pg_name (i := 4) nd rfl (.inl rfl)) pgs_nil))))
      (pss_cons (ps_expr (pe_fnX G_check_there hr2 (takes_of rfl rfl rfl rfl) (pa_cons (pv 0) (pa_cons (pe_lc (own := [("column", 5), ("_", 4)]) (g := (gTup K 2 (gCons (gName 5) (gCons (gName 4) gNil)))) (tt := tYes) rfl nd (pi_tup (pv 3)) (blkOk_by (N := N_columns_of_sort) (sc := defScope s_columns_of_sort) (by decide +kernel)) (fun _ _ _ _ _ => pg_tup rfl (pgs_cons (pg_name (i := 5) nd rfl (.inl rfl)) (pgs_cons (pg_name (i := 4) nd rfl (.inl rfl)) pgs_nil))) (fun _ _ _ _ _ => pts_nil) (fun _ _ _ _ _ => (pv 5))) (pa_cons (pe_callTy (cr_dictT rfl) (by rfl) m_dict PyProof.Rows.boot_dict (pa_cons (pe_ix (show IxR _ (rIxL K) from ix_list) (pv 1) pe_int (fun _ _ => rfl)) pa_nil)) pa_nil)))))
      (pss_one (ps_ret (pe_ix (show IxR _ (rIxL K) from ix_list) (pv 1) pe_int (fun _ _ => rfl))))), ?_⟩
  obtain ⟨ws, m, rfl⟩ := what_sort hw
  obtain ⟨a, c, rfl, rfl, hc, gc⟩ := given1 hg har
  obtain ⟨as, tf, hp, ec⟩ := id hc
  obtain ⟨t, wt, ps, rfl, h1, h2, h3, h4⟩ := hd
  refine ⟨_, rfl, t, _, rfl, SqT.of h1, rfl, _, _, rfl, _, _, rfl, rfl, ?_⟩
  have lp : ps.length ≤ 100 := by
    have : ws.length ≤ 100 := hok
    rw [← h4, List.length_map] at this
    exact this
  refine ⟨_, rfl, _, rfl, wt, rfl, ⟨_, SqT.of h2⟩, fun D1 hD1 => lc_tup (K := K) (a := wt) (xs := ps.map fun p => .ref p.1) (fun i H' => Same H H' ∧ H' D1 = some (.lst (((ps.map fun p => p.2.1).take i).map V.str))) ⟨same_upd hD1, upd_same⟩ (fun i H' _ h => SqT.of (h.1 _ _ h2)) ?_ ?_⟩
  · rintro i x H' hx ⟨sm, e⟩
    rw [List.getElem?_map] at hx
    obtain ⟨p, hp', rfl⟩ := Option.map_eq_some_iff.mp hx
    have eu := h3 p (List.mem_of_getElem? hp')
    refine ⟨p.1, _, rfl, SqT.of (sm _ _ eu), rfl, _, _, rfl, _, _, rfl, rfl, rfl, _, rfl, _, e, ?_, fun b o' e' => ?_, ?_⟩
    · rw [List.length_map, List.length_take, List.length_map]
      exact Nat.lt_of_le_of_lt (show _ ≤ 100 by omega) (by decide)
    · rw [upd_ne (ne_of_none e' hD1)]
      exact sm _ _ e'
    · have hh : (ps.map fun p => p.2.1).take (i + 1) = (ps.map fun p => p.2.1).take i ++ [p.2.1] := by
        rw [List.take_add_one, List.getElem?_map, hp']
        rfl
      rw [hh, List.map_append]
      exact upd_same
  rintro H1 ⟨s1, e1⟩
  rw [List.length_map, List.take_of_length_le (by rw [List.length_map]; exact Nat.le_refl _)] at e1
  refine ⟨_, rfl, gv, _, 0, _, rfl, rfl, sqL_same s1 hgv, rfl, a, as.map (·.1), as.map fun c => (c.2.1, V.str (kW c.2.2)), rfl, by rw [List.map_map]; exact same_f s1 _ _ tf, paired_cols (fun x hx => s1 _ _ (hp x hx)), fun kd hkd => ?_⟩
  have s2 := s1.trans (same_upd (o := .dK (mergeK [] ((as.map fun c => (c.2.1, V.str (kW c.2.2))).map fun kv => ((.inr kv.1 : L2.Key), kv.2)))) hkd)
  have hall : (∀ x ∈ ps.map (fun p => p.2.1), kfN c x ≠ none) ↔ ws.all (fun x => (kfN c x.1).isSome) = true := by
    rw [← h4, List.all_map, List.all_eq_true]
    constructor
    · intro h p hp'
      have := h p.2.1 (List.mem_map.mpr ⟨p, hp', rfl⟩)
      show (kfN c p.2.1).isSome = true
      cases hh : kfN c p.2.1 with
      | none => exact absurd hh this
      | some b => rfl
    · intro h x hx z
      obtain ⟨p, hp', rfl⟩ := List.mem_map.mp hx
      have := h p hp'
      have h' : (kfN c p.2.1).isSome = true := this
      rw [z] at h'
      cases h'
  refine ⟨nm, D1, kd, ps.map fun p => p.2.1, kfN c, rfl, .inr (SqL.of (same_upd hkd _ _ e1)), kd_new ec gc.nod, fun h => ?_, fun h => ?_⟩
  · exact ⟨_, rfl, gv, _, 0, _, rfl, rfl, sqL_same s2 hgv, rfl, q c (if_pos (hall.mp h)) a _ s2 (hc.keep (same_t s2) (same_f s2))⟩
  · obtain ⟨x, hx, hn⟩ := h
    have hb := qe (if_neg fun z => hall.mpr z x hx hn)
    exact fun H' u d sm nd' => hb H' u d (s2.trans sm) nd'
end
end Kx

set_option maxHeartbeats 8000000
namespace Kx
open PySem PySem.Spec PyProof.Rows L2
abbrev s_columns_of_map : Stmt := topS 23
abbrev s_kind_of_fold : Stmt := topS 24
abbrev s_columns_of_fold : Stmt := topS 25







theorem same_of_but {H0 H H' : Hp} {d : Addr} (s : Same H0 H) (b : But d H H') (n : H0 d = none) : Same H0 H' := fun a o e => b a o (ne_of_none e n) (s _ _ e)
section
variable {P : Program} {w : World} {K : PySem.W.Frag} {mg : Str → Option Value} {base : Heap}
/-! ### kind_of_fold -/
abbrev N_kind_of_fold : List Str := ["name", "fold", "told", "kinds", "kind"]
def spKF (C : Addr) : Sp := fun vs H Q E => ∃ (nm op : Str) (tv : V) (kd : Addr) (kf : Str → Option Bool) (oe : Option Ex) (kk : Bool) (nn : Str), vs = [.str nm, .str op, tv, .ref kd] ∧ FTo H tv oe ∧ (op ≠ "count" → ∃ e, oe = some e ∧ ExOk e) ∧ KdAt H kd kf ∧
  (∀ b, foldK kf (op, oe, kk, nn) = some b → ∀ H', Same H H' → Q (.str (kW b)) H') ∧ (foldK kf (op, oe, kk, nn) = none → BadE C nm H E)
theorem sc_kf : FnScope N_kind_of_fold ["name", "fold", "told", "kinds"] (defScope s_kind_of_fold) := ⟨rfl, rfl, rfl, by decide +kernel, rfl, by decide +kernel, by decide +kernel⟩
theorem ok_kf {f C fI : Addr} {fd : FuncData} (F : Fun K "kind_of_fold" "kind_of_fold" s_kind_of_fold f fd) (T : PySem.BadY.BadTxt K mg C fI) (G_kind_of : Ready P w K mg base 101 "kind_of" ["told", "kinds"] (spKind 100)) : FnOk P w K mg base (L2.CX P w) 102 f fd ["name", "fold", "told", "kinds"] (spKF C) := by
  refine F.okX sc_kf (fun vs H Q E h => ?_) (fun cdv A outer s H vs Q E hr h => ?_)
  · obtain ⟨nm, op, tv, kd, kf, oe, kk, nn, rfl, _⟩ := h
    rfl
  obtain ⟨nm, op, tv, kd, kf, oe, kk, nn, rfl, ht, ho, hk, q, qe⟩ := h
  have nd := sc_kf.nd
  have hr1 : Room 1 _ := hr.mono (by decide)
  have hrk : Room 101 _ := hr
  refine ⟨_, pss_cons (ps_if (pt_cmpR op_eq (pv 1) pe_str (nomark _)) (pss_one (ps_ret pe_str)) (pss_nil))
      (pss_cons (ps_set (i := 4) nd rfl (.inl rfl) (pe_fn G_kind_of hrk (pa_cons (pv 2) (pa_cons (pv 3) pa_nil))))
      (pss_cons (ps_if (PW.pt (pw_or (pt_cmpR op_isN (pv 4) pe_non (nomark _)) (pw_or1 (PW.pt (pw_and (pt_cmpR op_in_seq (pv 1) (pe_tup (pa_cons pe_str (pa_cons pe_str pa_nil))) (by with_unfolding_all rfl)) (pw_and1 (pt_cmpR op_ne (pv 4) pe_str (nomark _)))))))) (pss_one (ps_raiseBad2 rfl T hr1 (takes_of rfl rfl rfl rfl) (pa_cons (pv 0) (pa_cons pe_str pa_nil)))) (pss_nil))
      (pss_cons (ps_if (pt_cmpR op_in_seq (pv 1) (pe_tup (pa_cons pe_str (pa_cons pe_str pa_nil))) (by with_unfolding_all rfl)) (pss_one (ps_ret (pv 4))) (pss_nil))
      (pss_one (ps_ret pe_str))))), ?_⟩
  have z2 : 2 ≤ sizeLine := by decide
  refine ⟨_, rfl, rfl, _, rfl, ite2 (fun c => ?_) (fun c => ?_)⟩
  · have c' : op = "count" := by
      have := of_decide_eq_true c
      injection this
    exact q true (by unfold foldK; rw [if_pos c']) H (Same.refl _)
  have nc : op ≠ "count" := fun e => c (decide_eq_true (by rw [e]))
  obtain ⟨e, rfl, oe1, oe2⟩ := ho nc
  refine ⟨_, rfl, _, rfl, tv, kd, kf, e, rfl, ht, oe1, oe2, hk, ?_⟩
  have q' : ∀ b, (match kindE kf e with | none => none | some b => if (op ∈ (["sum", "mean"] : List Str)) ∧ b = false then none else some (lateK op b)) = some b → ∀ H', Same H H' → Q (.str (kW b)) H' := fun b h => q b (by unfold foldK; rw [if_neg nc]; exact h)
  have qe' : (match kindE kf e with | none => none | some b => if (op ∈ (["sum", "mean"] : List Str)) ∧ b = false then none else some (lateK op b)) = none → BadE C nm H E := fun h => qe (by unfold foldK; rw [if_neg nc]; exact h)
  clear q qe
  generalize kindE kf e = o at q' qe' ⊢
  cases o with
  | none => exact ⟨_, rfl, rfl, _, rfl, iteT (iteT ⟨_, rfl, _, _, rfl, fun d nd' => qe' rfl _ _ d (Same.refl _) nd'⟩)⟩
  | some b =>
    refine ⟨_, rfl, rfl, _, rfl, iteF ?_⟩
    refine ⟨_, rfl, z2, fun t ht' => ⟨t, (["sum", "mean"] : List Str).map V.str, rfl, .inr (SqT.of upd_same), rfl, flat_strs _, _, rfl, ?_⟩⟩
    have s1 := same_upd (o := .tup [.str "sum", .str "mean"]) ht'
    refine in_strs (fun hin => ?_) (fun hin => iteF ?_)
    · cases b with
      | true =>
        refine ⟨_, rfl, rfl, _, rfl, iteF ?_⟩
        have b1 : True := trivial
        refine ⟨_, rfl, z2, fun t2 ht2 => ⟨t2, (["least", "greatest"] : List Str).map V.str, rfl, .inr (SqT.of upd_same), rfl, flat_strs _, _, rfl, ?_⟩⟩
        have s2 := s1.trans (same_upd (o := .tup [.str "least", .str "greatest"]) ht2)
        have qq := q' (lateK op true) (if_neg (fun z => by cases z.2)) _ s2
        unfold lateK at qq
        refine in_strs (fun h2 => ⟨_, rfl, ?_⟩) (fun h2 => ?_)
        · rw [if_pos h2] at qq
          exact qq
        · rw [if_neg h2] at qq
          exact qq
      | false =>
        refine ⟨_, rfl, rfl, _, rfl, iteT ⟨_, rfl, _, _, rfl, fun d nd' => qe' (if_pos ⟨hin, rfl⟩) _ _ d s1 nd'⟩⟩
    · have b1 : True := trivial
      refine ⟨_, rfl, z2, fun t2 ht2 => ⟨t2, (["least", "greatest"] : List Str).map V.str, rfl, .inr (SqT.of upd_same), rfl, flat_strs _, _, rfl, ?_⟩⟩
      have s2 := s1.trans (same_upd (o := .tup [.str "least", .str "greatest"]) ht2)
      have qq := q' (lateK op b) (if_neg (fun z => hin z.1)) _ s2
      unfold lateK at qq
      refine in_strs (fun h2 => ⟨_, rfl, ?_⟩) (fun h2 => ?_)
      · rw [if_pos h2] at qq
        exact qq
      · rw [if_neg h2] at qq
        exact qq
end
end Kx

set_option maxHeartbeats 8000000
namespace Kx
open PySem PySem.Spec PyProof.Rows L2







section
variable {P : Program} {w : World} {K : PySem.W.Frag} {mg : Str → Option Value} {base : Heap}
theorem KdAt.but {H H' : Hp} {kd d : Addr} {kf : Str → Option Bool} {l : List V} (k : KdAt H kd kf) (b : But d H H') (hd : H d = some (.lst l)) : KdAt H' kd kf := by
  obtain ⟨kvs, e, g⟩ := k
  exact ⟨kvs, b _ _ (fun z => by rw [z, hd] at e; cases e) e, g⟩
theorem pairs_push {H H' : Hp} {cl q : Addr} {l l' : List V} {qs : List Col} {c : NC} (hc : H cl = some (.lst l)) (hp : PairsAt H qs) (hq : H q = none) : PairsAt (upd (upd H q (.tup [.str c.1, .str (kW c.2)])) cl (.lst l')) (qs ++ [(q, c)]) := fun x hx => by
  have n1 : q ≠ cl := (ne_of_none hc hq).symm
  rcases List.mem_append.mp hx with hx | hx
  · have e := hp x hx
    rw [upd_ne (fun z => by rw [z, hc] at e; cases e)]
    exact same_upd hq _ _ e
  · rw [List.mem_singleton.mp hx]
    rw [upd_ne n1]
    exact upd_same
/-! ### columns_of_map -/
abbrev N_columns_of_map : List Str := ["name", "given", "details", "kinds", "columns", "told", "column", "kind"]
theorem sc_cmap : FnScope N_columns_of_map ["name", "given", "details"] (defScope s_columns_of_map) := ⟨rfl, rfl, rfl, by decide +kernel, rfl, by decide +kernel, by decide +kernel⟩
theorem ok_cmap {f C fI : Addr} {fd : FuncData} (F : Fun K "columns_of_map" "columns_of_map" s_columns_of_map f fd) (T : PySem.BadY.BadTxt K mg C fI) (m_dict : mg "dict" = none) (G_kind_of : Ready P w K mg base 101 "kind_of" ["told", "kinds"] (spKind 100)) (G_unlike_columns : ReadyX P w K mg base 2 "unlike_columns" ["name", "columns"] (spUnl K C)) : FnOk P w K mg base (L2.CX P w) 102 f fd ["name", "given", "details"] (spChk K C "map") := by
  refine F.okX sc_cmap (fun vs H Q E h => ?_) (fun cdv A outer s H vs Q E hr h => ?_)
  · obtain ⟨nm, gv, dv, det, gs, css, rfl, _⟩ := h
    rfl
  obtain ⟨nm, gv, dv, det, gs, css, rfl, hw, hgv, hg, har, hd, hok, q, qe⟩ := h
  have nd := sc_cmap.nd
  have hr1 : Room 1 _ := hr.mono (by decide)
  have hr2 : Room 2 _ := hr.mono (by decide)
  have hrk : Room 101 _ := hr
  refine ⟨_, pss_cons (ps_set (i := 3) nd rfl (.inl rfl) (pe_callTy (cr_dictT rfl) (by rfl) m_dict PyProof.Rows.boot_dict (pa_cons (pe_ix (show IxR _ (rIxL K) from ix_list) (pv 1) pe_int (fun _ _ => rfl)) pa_nil)))
      (pss_cons (ps_set (i := 4) nd rfl (.inl rfl) (pe_lst pa_nil))
      (pss_cons (ps_for (passes_of rfl) rfl (pi_tup (pv 2)) (pg_tup rfl (pgs_cons (pg_name (i := 5) nd rfl (.inl rfl)) (pgs_cons (pg_name (i := 6) nd rfl (.inl rfl)) pgs_nil))) (pss_cons (ps_set (i := 7) nd rfl (.inl rfl) (pe_fn G_kind_of hrk (pa_cons (pv 5) (pa_cons (pv 3) pa_nil))))
      (pss_cons (ps_if (pt_cmpR op_isN (pv 7) pe_non (nomark _)) (pss_one (ps_raiseBad2 rfl T hr1 (takes_of rfl rfl rfl rfl) (pa_cons (pv 0) (pa_cons pe_str pa_nil)))) (pss_nil))
      (pss_one (ps_expr (pe_bm PySem.F.plainAttrs_list PySem.F.slot_list_append PySem.F.type_list_append mt_append (pv 4) (pa_cons (pe_tup (pa_cons (pv 6) (pa_cons (pv 7) pa_nil))) pa_nil)))))))
      (pss_one (ps_ret (pe_fnX G_unlike_columns hr2 (takes_of rfl rfl rfl rfl) (pa_cons (pv 0) (pa_cons (pv 4) pa_nil))))))), ?_⟩
  have z2 : 2 ≤ sizeLine := by decide
  obtain ⟨ms, rfl⟩ := what_map hw
  obtain ⟨a, c, rfl, rfl, hc, gc⟩ := given1 hg har
  obtain ⟨as, tf, hp, ec⟩ := id hc
  obtain ⟨t, ps, rfl, h1, h2, rfl⟩ := hd
  have lp : ps.length ≤ 100 := by
    have := hok.1
    rw [List.length_map] at this
    exact this
  refine ⟨_, rfl, gv, _, 0, _, rfl, rfl, hgv, rfl, a, as.map (·.1), as.map fun c => (c.2.1, V.str (kW c.2.2)), rfl, by rw [List.map_map]; exact tf, paired_cols hp, fun kd hkd => ?_⟩
  have s1 := same_upd (o := .dK (mergeK [] ((as.map fun c => (c.2.1, V.str (kW c.2.2))).map fun kv => ((.inr kv.1 : L2.Key), kv.2)))) hkd
  have hK := kd_new (H := H) (kd := kd) ec gc.nod
  generalize upd H kd (.dK (mergeK [] ((as.map fun c => (c.2.1, V.str (kW c.2.2))).map fun kv => ((.inr kv.1 : L2.Key), kv.2)))) = H1 at s1 hK ⊢
  refine ⟨Nat.zero_le _, fun cl hcl => ?_⟩
  have ncl : H cl = none := none_same s1 hcl
  have s2 := s1.trans (same_upd (o := .lst []) hcl)
  have hK2 := hK.keep (same_upd (o := .lst []) hcl)
  have ecl : upd H1 cl (.lst []) cl = some (.lst []) := upd_same
  generalize upd H1 cl (.lst []) = H2 at s2 hK2 ecl ⊢
  clear hK s1 hcl hkd
  let gN : MC → NC := fun m => (m.2.2, (kindE (kfN c) m.1).getD true)
  refine ⟨_, rfl, t, rfl, ⟨_, SqT.of (s2 _ _ h1)⟩, ?_⟩
  refine for_tup (K := K) (a := t) (xs := ps.map fun p => .ref p.1) (fun i σ H' => ∃ y5 y6 y7 qs, σ = [some (.str nm), some (.ref gv), some (.ref t), some (.ref kd), some (.ref cl), y5, y6, y7] ∧ But cl H2 H' ∧ H' cl = some (.lst (qs.map fun c => .ref c.1)) ∧ PairsAt H' qs ∧ qs.map (·.2) = ((ps.map (·.2)).take i).map gN ∧ ∀ m ∈ (ps.map (·.2)).take i, (kindE (kfN c) m.1).isSome = true)
    ⟨_, _, _, [], rfl, But.refl _ _, ecl, fun x hx => absurd hx List.not_mem_nil, by simp, fun m hm => absurd hm (by simp)⟩ (fun i σ H' _ h => by
      obtain ⟨_, _, _, _, _, b, _⟩ := h
      exact SqT.of (b.tup ecl _ _ (s2 _ _ h1))) ?_ ?_
  · rintro i x σ H' hx ⟨y5, y6, y7, qs, rfl, b, e, hpq, eq, hall⟩
    rw [List.getElem?_map] at hx
    obtain ⟨p, hp', rfl⟩ := Option.map_eq_some_iff.mp hx
    have hi : i < ps.length := (List.getElem?_eq_some_iff.mp hp').1
    have pm := List.mem_of_getElem? hp'
    obtain ⟨told, t1, t2⟩ := h2 p pm
    have t1' := b.tup ecl _ _ (s2 _ _ t1)
    have kt : KeepT H H' := fun a xs e => b.tup ecl _ _ (s2 _ _ e)
    have eo := hok.2 p.2 (List.mem_map.mpr ⟨p, pm, rfl⟩)
    have tk : (ps.map (·.2)).take (i + 1) = (ps.map (·.2)).take i ++ [p.2] := by
      rw [List.take_add_one, List.getElem?_map, hp']
      rfl
    refine ⟨p.1, _, rfl, SqT.of t1', rfl, _, _, rfl, _, _, rfl, rfl, ?_⟩
    refine ⟨_, rfl, _, rfl, told, kd, kfN c, p.2.1, rfl, t2.keep kt, eo.1, eo.2, hK2.but b ecl, ?_⟩
    have lq : qs.length ≤ 100 := by
      have h := congrArg List.length eq
      rw [List.length_map, List.length_map, List.length_take, List.length_map] at h
      omega
    cases ho : kindE (kfN c) p.2.1 with
    | none =>
      refine ⟨_, rfl, rfl, _, rfl, iteT ⟨_, rfl, _, _, rfl, fun d nd' => ?_⟩⟩
      have : colsD [c] (.map (ps.map (·.2))) = none := by
        refine if_neg fun z => ?_
        have h := List.all_eq_true.mp z p.2 (List.mem_map.mpr ⟨p, pm, rfl⟩)
        have h' : (kindE (kfN c) p.2.1).isSome = true := h
        rw [ho] at h'
        cases h'
      exact qe this _ _ d (same_of_but s2 b ncl) nd'
    | some k =>
      refine ⟨_, rfl, rfl, _, rfl, iteF ?_⟩
      refine ⟨_, rfl, .inl ⟨rfl, _, SqL.of e⟩, _, rfl, _, rfl, z2, fun r hr' => ?_⟩
      have e' := same_upd (o := .tup [.str p.2.2.2, .str (kW k)]) hr' _ _ e
      refine ⟨cl, _, _, rfl, rfl, e', Nat.lt_of_le_of_lt (show _ ≤ 100 by rw [List.length_map]; exact lq) (by decide), _, _, _, qs ++ [(r, p.2.2.2, k)], rfl, fun x o hx' ex => ?_, by rw [upd_same, List.map_append]; rfl, pairs_push (c := (p.2.2.2, k)) (H' := H') (l := qs.map fun c => .ref c.1) e hpq hr', ?_, fun m hm => ?_⟩
      · rw [upd_ne hx']
        exact same_upd hr' _ _ (b _ _ hx' ex)
      · rw [tk, List.map_append, List.map_append, eq]
        show _ ++ [(p.2.2.2, k)] = _ ++ [(p.2.2.2, (kindE (kfN c) p.2.1).getD true)]
        rw [ho]
        rfl
      · rw [tk] at hm
        rcases List.mem_append.mp hm with hm | hm
        · exact hall m hm
        · rw [List.mem_singleton.mp hm, ho]
          rfl
  · rintro σ H' ⟨y5, y6, y7, qs, rfl, b, e, hpq, eq, hall⟩
    rw [List.length_map, List.take_of_length_le (by rw [List.length_map]; exact Nat.le_refl _)] at eq hall
    have sf := same_of_but s2 b ncl
    have hcols : colsD [c] (.map (ps.map (·.2))) = ndC (qs.map (·.2)) := by
      rw [eq]
      exact if_pos (List.all_eq_true.mpr hall)
    have e1 : ((qs.map (·.2)).map (·.1)) = qs.map fun c => c.2.1 := by
      rw [List.map_map]
      rfl
    have lq : qs.length ≤ 100 := by
      have h := congrArg List.length eq
      rw [List.length_map, List.length_map, List.length_map] at h
      omega
    refine ⟨_, rfl, _, rfl, nm, cl, qs, rfl, .inr e, hpq, by omega, fun hn a' H'' sm ta => ?_, fun hn => ?_⟩
    · exact q _ (hcols.trans (if_pos (by rw [e1]; exact hn))) a' H'' (sf.trans sm) ⟨qs, ta, fun x hx => sm _ _ (hpq x hx), rfl⟩
    · have hb := qe (hcols.trans (if_neg (by rw [e1]; exact hn)))
      exact fun H'' u d sm nd' => hb H'' u d (sf.trans sm) nd'
end
end Kx

set_option maxHeartbeats 8000000
namespace Kx
open PySem PySem.Spec PyProof.Rows L2







section
variable {P : Program} {w : World} {K : PySem.W.Frag} {mg : Str → Option Value} {base : Heap}
/-! ### columns_of_fold -/
abbrev N_columns_of_fold : List Str := ["name", "given", "details", "kinds", "keys", "folds", "columns", "key", "fold", "told", "column"]
theorem sc_cfold : FnScope N_columns_of_fold ["name", "given", "details"] (defScope s_columns_of_fold) := ⟨rfl, rfl, rfl, by decide +kernel, rfl, by decide +kernel, by decide +kernel⟩
theorem all_some {kf : Str → Option Bool} {ks : List NC} : (∀ x ∈ ks.map (·.1), kf x ≠ none) ↔ ks.all (fun k => (kf k.1).isSome) = true := by
  rw [List.all_eq_true]
  constructor
  · intro h k hk
    have := h k.1 (List.mem_map.mpr ⟨k, hk, rfl⟩)
    cases hh : kf k.1 with
    | none => exact absurd hh this
    | some b => rfl
  · intro h x hx z
    obtain ⟨k, hk, rfl⟩ := List.mem_map.mp hx
    have h' := h k hk
    rw [z] at h'
    cases h'
theorem ok_cfold {f C fI : Addr} {fd : FuncData} (F : Fun K "columns_of_fold" "columns_of_fold" s_columns_of_fold f fd) (T : PySem.BadY.BadTxt K mg C fI) (m_dict : mg "dict" = none) (G_kind_of_fold : ReadyX P w K mg base 102 "kind_of_fold" ["name", "fold", "told", "kinds"] (spKF C)) (G_check_there : ReadyX P w K mg base 2 "check_there" ["name", "words", "kinds"] (spThere K C)) (G_unlike_columns : ReadyX P w K mg base 2 "unlike_columns" ["name", "columns"] (spUnl K C)) : FnOk P w K mg base (L2.CX P w) 103 f fd ["name", "given", "details"] (spChk K C "fold") := by
  refine F.okX sc_cfold (fun vs H Q E h => ?_) (fun cdv A outer s H vs Q E hr h => ?_)
  · obtain ⟨nm, gv, dv, det, gs, css, rfl, _⟩ := h
    rfl
  obtain ⟨nm, gv, dv, det, gs, css, rfl, hw, hgv, hg, har, hd, hok, q, qe⟩ := h
  have nd := sc_cfold.nd
  have hr1 : Room 1 _ := hr.mono (by decide)
  have hr2 : Room 2 _ := hr.mono (by decide)
  have hr14 : Room 102 _ := hr
  have hu64 : _ + 64 < cLine := hr.units
  have hu1 : _ + 1 < cLine := Nat.lt_of_le_of_lt (Nat.add_le_add_left (by decide : 1 ≤ 64) _) hu64
  refine ⟨_, pss_cons (ps_set (i := 3) nd rfl (.inr rfl) (pe_callTy (cr_dictT rfl) (by rfl) m_dict PyProof.Rows.boot_dict (pa_cons (pe_ix (show IxR _ (rIxL K) from ix_list) (pv 1) pe_int (fun _ _ => rfl)) pa_nil)))
      (pss_cons (ps_asg (pv 2) (pg_tup rfl (pgs_cons (pg_name (i := 4) nd rfl (.inl rfl)) (pgs_cons (pg_name (i := 5) nd rfl (.inl rfl)) pgs_nil))))
      (pss_cons (ps_expr (pe_fnX G_check_there hr2 (takes_of rfl rfl rfl rfl) (pa_cons (pv 0) (pa_cons (pv 4) (pa_cons (pv 3) pa_nil)))))
      (pss_cons (ps_setLc (i := 6) (own := [("key", 7)]) (g := gName 7) (tt := tYes) rfl nd rfl rfl (sw_true rfl rfl rfl (by decide +kernel)) (pi_tup (pv 4)) (blkOk_by (N := N_columns_of_fold) (sc := defScope s_columns_of_fold) (by decide +kernel)) (fun _ _ _ _ _ => pg_name (i := 7) nd rfl (Or.inl rfl)) (fun _ _ _ _ _ => pts_nil) (fun _ _ _ _ _ => (pe_tup (pa_cons (pv 7) (pa_cons (pe_dget hu1 (pv 3) (pv 7) (fun _ _ => rfl)) pa_nil)))))
      (pss_cons (ps_for (passes_of rfl) rfl (pi_tup (pv 5)) (pg_tup rfl (pgs_cons (pg_name (i := 8) nd rfl (.inl rfl)) (pgs_cons (pg_name (i := 9) nd rfl (.inl rfl)) (pgs_cons (pg_name (i := 10) nd rfl (.inl rfl)) pgs_nil)))) (pss_one (ps_expr (pe_bm PySem.F.plainAttrs_list PySem.F.slot_list_append PySem.F.type_list_append mt_append (pv 6) (pa_cons (pe_tup (pa_cons (pv 10) (pa_cons (pe_fnX G_kind_of_fold hr14 (takes_of rfl rfl rfl rfl) (pa_cons (pv 0) (pa_cons (pv 8) (pa_cons (pv 9) (pa_cons (pv 3) pa_nil))))) pa_nil))) pa_nil)))))
      (pss_one (ps_ret (pe_fnX G_unlike_columns hr2 (takes_of rfl rfl rfl rfl) (pa_cons (pv 0) (pa_cons (pv 6) pa_nil))))))))), ?_⟩
  have z2 : 2 ≤ sizeLine := by decide
  obtain ⟨ks, fs, rfl⟩ := what_fold hw
  obtain ⟨a, c, rfl, rfl, hc, gc⟩ := given1 hg har
  obtain ⟨as, tf, hp, ec⟩ := id hc
  obtain ⟨t, kt, ft, ps, rfl, h1, h2, h3, h4, rfl⟩ := hd
  obtain ⟨lk, lf, hfs⟩ := hok
  rw [List.length_map] at lf
  have h2' : H kt = some (.tup ((ks.map (·.1)).map V.str)) := by
    rw [List.map_map]
    exact h2
  refine ⟨_, rfl, gv, _, 0, _, rfl, rfl, hgv, rfl, a, as.map (·.1), as.map fun c => (c.2.1, V.str (kW c.2.2)), rfl, by rw [List.map_map]; exact tf, paired_cols hp, fun kd hkd => ?_⟩
  have s1 := same_upd (o := .dK (mergeK [] ((as.map fun c => (c.2.1, V.str (kW c.2.2))).map fun kv => ((.inr kv.1 : L2.Key), kv.2)))) hkd
  have hK := kd_new (H := H) (kd := kd) ec gc.nod
  generalize upd H kd (.dK (mergeK [] ((as.map fun c => (c.2.1, V.str (kW c.2.2))).map fun kv => ((.inr kv.1 : L2.Key), kv.2)))) = H1 at s1 hK ⊢
  refine ⟨_, rfl, t, _, rfl, SqT.of (s1 _ _ h1), rfl, _, _, rfl, _, _, rfl, rfl, ?_⟩
  refine ⟨_, rfl, _, rfl, _, rfl, nm, kt, kd, ks.map (·.1), kfN c, rfl, .inl (SqT.of (s1 _ _ h2')), hK, fun hall => ?_, fun hex => ?_⟩
  rotate_left
  · have : colsD [c] (.fold ks (ps.map (·.2))) = none := by
      refine if_neg fun z => ?_
      obtain ⟨x, hx, hn⟩ := hex
      exact all_some.mpr (Bool.and_eq_true_iff.mp z).1 x hx hn
    have hb := qe this
    exact fun H' u d sm nd' => hb H' u d (s1.trans sm) nd'
  -- columns of the keys
  obtain ⟨kvs, ek, gk⟩ := id hK
  let kN : NC → NC := fun k => (k.1, (kfN c k.1).getD true)
  refine ⟨_, rfl, kt, rfl, ⟨_, SqT.of (s1 _ _ h2')⟩, fun cl hcl => ?_⟩
  have ncl : H cl = none := none_same s1 hcl
  refine lc_tup (K := K) (a := kt) (xs := (ks.map (·.1)).map V.str) (fun i H' => Same H1 H' ∧ ∃ qs : List Col, H' cl = some (.lst (qs.map fun c => .ref c.1)) ∧ PairsAt H' qs ∧ qs.map (·.2) = (ks.take i).map kN) ⟨same_upd hcl, [], upd_same, fun x hx => absurd hx List.not_mem_nil, by simp⟩ (fun i H' _ h => SqT.of (h.1 _ _ (s1 _ _ h2'))) ?_ ?_
  · rintro i x H' hx ⟨sm, qs, e, hpq, eq⟩
    rw [List.getElem?_map, List.getElem?_map, Option.map_map] at hx
    obtain ⟨k, hk', rfl⟩ := Option.map_eq_some_iff.mp hx
    have hk0 := hall k.1 (List.mem_map.mpr ⟨k, List.mem_of_getElem? hk', rfl⟩)
    have tk : ks.take (i + 1) = ks.take i ++ [k] := by
      rw [List.take_add_one, hk']
      rfl
    have lq : qs.length ≤ 100 := by
      have h := congrArg List.length eq
      rw [List.length_map, List.length_map, List.length_take] at h
      omega
    cases hb : kfN c k.1 with
    | none => exact absurd hb hk0
    | some b =>
      have gt : DGet H' kd (.str k.1) (some (.str (kW b))) := by
        have h0 : valV kvs (.inr k.1) = some (.str (kW b)) := by rw [gk, hb]; rfl
        exact h0 ▸ DGet.k (k := .inr k.1) (sm _ _ ek)
      refine ⟨rfl, _, rfl, _, rfl, _, rfl, kd, _, rfl, gt, z2, fun r hr' => ?_⟩
      have e' := same_upd (o := .tup [.str k.1, .str (kW b)]) hr' _ _ e
      refine ⟨_, e', Nat.lt_of_le_of_lt (show _ ≤ 100 by rw [List.length_map]; exact lq) (by decide), fun b' o' ex => ?_, qs ++ [(r, k.1, b)], by rw [upd_same, List.map_append]; rfl, pairs_push (c := (k.1, b)) (H' := H') (l := qs.map fun c => .ref c.1) e hpq hr', ?_⟩
      · rw [upd_ne (ne_of_none ex hcl)]
        exact same_upd hr' _ _ (sm _ _ ex)
      · rw [tk, List.map_append, List.map_append, eq]
        show _ ++ [(k.1, b)] = _ ++ [(k.1, (kfN c k.1).getD true)]
        rw [hb]
        rfl
  rintro H2 ⟨sm2, qs0, ecl, hpq0, eq0⟩
  rw [List.length_map, List.length_map, List.take_length] at eq0
  have s2 := s1.trans sm2
  have hK2 := hK.keep sm2
  let fN : FC → NC := fun m => (m.2.2.2, (foldK (kfN c) m).getD true)
  refine ⟨_, rfl, ft, rfl, ⟨_, SqT.of (s2 _ _ h3)⟩, ?_⟩
  refine for_tup (K := K) (a := ft) (xs := ps.map fun p => .ref p.1) (fun i σ H' => ∃ y7 y8 y9 y10 qs, σ = [some (.str nm), some (.ref gv), some (.ref t), some (.ref kd), some (.ref kt), some (.ref ft), some (.ref cl), y7, y8, y9, y10] ∧ But cl H2 H' ∧ H' cl = some (.lst (qs.map fun c => .ref c.1)) ∧ PairsAt H' qs ∧ qs.map (·.2) = ks.map kN ++ ((ps.map (·.2)).take i).map fN ∧ ∀ m ∈ (ps.map (·.2)).take i, (foldK (kfN c) m).isSome = true)
    ⟨_, _, _, _, qs0, rfl, But.refl _ _, ecl, hpq0, by rw [eq0]; simp, fun m hm => absurd hm (by simp)⟩ (fun i σ H' _ h => by
      obtain ⟨_, _, _, _, _, _, b, _⟩ := h
      exact SqT.of (b.tup ecl _ _ (s2 _ _ h3))) ?_ ?_
  · rintro i x σ H' hx ⟨y7, y8, y9, y10, qs, rfl, b, e, hpq, eq, hal⟩
    rw [List.getElem?_map] at hx
    obtain ⟨p, hp', rfl⟩ := Option.map_eq_some_iff.mp hx
    have hi : i < ps.length := (List.getElem?_eq_some_iff.mp hp').1
    have pm := List.mem_of_getElem? hp'
    obtain ⟨told, t1, t2⟩ := h4 p pm
    have kt' : KeepT H H' := fun a xs e => b.tup ecl _ _ (s2 _ _ e)
    have tk : (ps.map (·.2)).take (i + 1) = (ps.map (·.2)).take i ++ [p.2] := by
      rw [List.take_add_one, List.getElem?_map, hp']
      rfl
    have lq : qs.length ≤ 200 := by
      have h := congrArg List.length eq
      rw [List.length_map, List.length_append, List.length_map, List.length_map, List.length_take, List.length_map] at h
      omega
    refine ⟨p.1, _, rfl, SqT.of (kt' _ _ t1), rfl, _, _, rfl, _, _, rfl, _, _, rfl, rfl, ?_⟩
    refine ⟨_, rfl, .inl ⟨rfl, _, SqL.of e⟩, _, rfl, _, rfl, _, rfl, _, rfl, _, rfl, nm, p.2.1, told, kd, kfN c, p.2.2.1, p.2.2.2.1, p.2.2.2.2, rfl, t2.keep kt', hfs p.2 (List.mem_map.mpr ⟨p, pm, rfl⟩), hK2.but b ecl, fun k hk H3 s3 => ⟨z2, fun r hr' => ?_⟩, fun hn => ?_⟩
    · have e3 := s3 _ _ e
      have e' := same_upd (o := .tup [.str p.2.2.2.2, .str (kW k)]) hr' _ _ e3
      refine ⟨cl, _, _, rfl, rfl, e', Nat.lt_of_le_of_lt (show _ ≤ 200 by rw [List.length_map]; exact lq) (by decide), _, _, _, _, qs ++ [(r, p.2.2.2.2, k)], rfl, fun x o hx' ex => ?_, by rw [upd_same, List.map_append]; rfl, pairs_push (c := (p.2.2.2.2, k)) (H' := H3) (l := qs.map fun c => .ref c.1) e3 (fun x hx' => s3 _ _ (hpq x hx')) hr', ?_, fun m hm => ?_⟩
      · rw [upd_ne hx']
        exact same_upd hr' _ _ (s3 _ _ (b _ _ hx' ex))
      · rw [tk, List.map_append, List.map_append, eq, List.append_assoc]
        show _ ++ (_ ++ [(p.2.2.2.2, k)]) = _ ++ (_ ++ [(p.2.2.2.2, (foldK (kfN c) p.2).getD true)])
        rw [show foldK (kfN c) p.2 = some k from hk]
        rfl
      · rw [tk] at hm
        rcases List.mem_append.mp hm with hm | hm
        · exact hal m hm
        · rw [List.mem_singleton.mp hm, show foldK (kfN c) p.2 = some k from hk]
          rfl
    · have : colsD [c] (.fold ks (ps.map (·.2))) = none := by
        refine if_neg fun z => ?_
        have h := List.all_eq_true.mp (Bool.and_eq_true_iff.mp z).2 p.2 (List.mem_map.mpr ⟨p, pm, rfl⟩)
        have h' : (foldK (kfN c) p.2).isSome = true := h
        rw [show foldK (kfN c) p.2 = none from hn] at h'
        cases h'
      have hb := qe this
      exact fun H'' u d sm nd' => hb H'' u d ((same_of_but s2 b ncl).trans sm) nd'
  · rintro σ H' ⟨y7, y8, y9, y10, qs, rfl, b, e, hpq, eq, hal⟩
    rw [List.length_map, List.take_of_length_le (by rw [List.length_map]; exact Nat.le_refl _)] at eq hal
    have sf := same_of_but s2 b ncl
    have hcols : colsD [c] (.fold ks (ps.map (·.2))) = ndC (qs.map (·.2)) := by
      rw [eq]
      exact if_pos (Bool.and_eq_true_iff.mpr ⟨all_some.mp hall, List.all_eq_true.mpr hal⟩)
    have e1 : ((qs.map (·.2)).map (·.1)) = qs.map fun c => c.2.1 := by
      rw [List.map_map]
      rfl
    have lq : qs.length ≤ 200 := by
      have h := congrArg List.length eq
      rw [List.length_map, List.length_append, List.length_map, List.length_map, List.length_map] at h
      omega
    refine ⟨_, rfl, _, rfl, nm, cl, qs, rfl, .inr e, hpq, by omega, fun hn a' H'' sm ta => ?_, fun hn => ?_⟩
    · exact q _ (hcols.trans (if_pos (by rw [e1]; exact hn))) a' H'' (sf.trans sm) ⟨qs, ta, fun x hx => sm _ _ (hpq x hx), rfl⟩
    · have hb := qe (hcols.trans (if_neg (by rw [e1]; exact hn)))
      exact fun H'' u d sm nd' => hb H'' u d (sf.trans sm) nd'
end
end Kx

set_option maxHeartbeats 8000000
namespace Kx
open PySem PySem.Spec PyProof.Rows L2
abbrev s_columns_of_join : Stmt := topS 26







section
variable {P : Program} {w : World} {K : PySem.W.Frag} {mg : Str → Option Value} {base : Heap}
/-! ### columns_of_join -/
abbrev N_columns_of_join : List Str := ["name", "given", "details", "ones", "others", "one_kinds", "other_kinds", "key", "columns", "pair"]
theorem sc_cjoin : FnScope N_columns_of_join ["name", "given", "details"] (defScope s_columns_of_join) := ⟨rfl, rfl, rfl, by decide +kernel, rfl, by decide +kernel, by decide +kernel⟩
theorem ok_cjoin {f C fI : Addr} {fd : FuncData} (F : Fun K "columns_of_join" "columns_of_join" s_columns_of_join f fd) (T : PySem.BadY.BadTxt K mg C fI) (m_dict : mg "dict" = none) (G_check_there : ReadyX P w K mg base 2 "check_there" ["name", "words", "kinds"] (spThere K C)) (G_unlike_columns : ReadyX P w K mg base 2 "unlike_columns" ["name", "columns"] (spUnl K C)) : FnOk P w K mg base (L2.CX P w) 3 f fd ["name", "given", "details"] (spChk K C "join") := by
  refine F.okX sc_cjoin (fun vs H Q E h => ?_) (fun cdv A outer s H vs Q E hr h => ?_)
  · obtain ⟨nm, gv, dv, det, gs, css, rfl, _⟩ := h
    rfl
  obtain ⟨nm, gv, dv, det, gs, css, rfl, hw, hgv, hg, har, hd, hok, q, qe⟩ := h
  have nd := sc_cjoin.nd
  have hr1 : Room 1 _ := hr.mono (by decide)
  have hr2 : Room 2 _ := hr.mono (by decide)
  have hu64 : _ + 64 < cLine := hr.units
  have hu1 : _ + 1 < cLine := Nat.lt_of_le_of_lt (Nat.add_le_add_left (by decide : 1 ≤ 64) _) hu64
  refine ⟨_, pss_cons (ps_asg (pv 1) (pg_unl rfl (pgs_cons (pg_name (i := 3) nd rfl (.inl rfl)) (pgs_cons (pg_name (i := 4) nd rfl (.inl rfl)) pgs_nil))))
      (pss_cons (ps_set (i := 5) nd rfl (.inr rfl) (pe_callTy (cr_dictT rfl) (by rfl) m_dict PyProof.Rows.boot_dict (pa_cons (pv 3) pa_nil)))
      (pss_cons (ps_set (i := 6) nd rfl (.inl rfl) (pe_callTy (cr_dictT rfl) (by rfl) m_dict PyProof.Rows.boot_dict (pa_cons (pv 4) pa_nil)))
      (pss_cons (ps_expr (pe_fnX G_check_there hr2 (takes_of rfl rfl rfl rfl) (pa_cons (pv 0) (pa_cons (pv 2) (pa_cons (pv 5) pa_nil)))))
      (pss_cons (ps_expr (pe_fnX G_check_there hr2 (takes_of rfl rfl rfl rfl) (pa_cons (pv 0) (pa_cons (pv 2) (pa_cons (pv 6) pa_nil)))))
      (pss_cons (ps_for (passes_of rfl) rfl (pi_tup (pv 2)) (pg_name (i := 7) nd rfl (.inl rfl)) (pss_one (ps_if (pt_cmpR op_ne (pe_dget hu1 (pv 5) (pv 7) (fun _ _ => rfl)) (pe_dget hu1 (pv 6) (pv 7) (fun _ _ => rfl)) (nomark _)) (pss_one (ps_raiseBad2 rfl T hr1 (takes_of rfl rfl rfl rfl) (pa_cons (pv 0) (pa_cons pe_str pa_nil)))) (pss_nil))))
      (pss_cons (ps_setLc (i := 8) (own := [("key", 7)]) (g := gName 7) (tt := tYes) rfl nd rfl rfl (sw_true rfl rfl rfl (by decide +kernel)) (pi_tup (pv 2)) (blkOk_by (N := N_columns_of_join) (sc := defScope s_columns_of_join) (by decide +kernel)) (fun _ _ _ _ _ => pg_name (i := 7) nd rfl (Or.inl rfl)) (fun _ _ _ _ _ => pts_nil) (fun _ _ _ _ _ => (pe_tup (pa_cons (pv 7) (pa_cons (pe_dget hu1 (pv 5) (pv 7) (fun _ _ => rfl)) pa_nil)))))
      (pss_cons (ps_expr (pe_bm PySem.F.plainAttrs_list PySem.F.slot_list_extend PySem.F.type_list_extend mt_extend (pv 8) (pa_cons (pe_lc (own := [("pair", 9)]) (g := gName 9) (tt := tTest (tOp (rIn K true) (tOp (rIxT K) (tVar 9) (tC (V.int 0))) (tVar 2))) rfl nd (pi_tup (pv 3)) (blkOk_by (N := N_columns_of_join) (sc := defScope s_columns_of_join) (by decide +kernel)) (fun _ _ _ _ _ => pg_name (i := 9) nd rfl (Or.inl rfl)) (fun _ _ _ _ _ => pts_one (pt_cmpR op_notIn_seq (pe_ix ix_tup (pv 9) pe_int (fun _ _ => rfl)) (pv 2) rfl)) (fun _ _ _ _ _ => (pv 9))) pa_nil)))
      (pss_cons (ps_expr (pe_bm PySem.F.plainAttrs_list PySem.F.slot_list_extend PySem.F.type_list_extend mt_extend (pv 8) (pa_cons (pe_lc (own := [("pair", 9)]) (g := gName 9) (tt := tTest (tOp (rIn K true) (tOp (rIxT K) (tVar 9) (tC (V.int 0))) (tVar 2))) rfl nd (pi_tup (pv 4)) (blkOk_by (N := N_columns_of_join) (sc := defScope s_columns_of_join) (by decide +kernel)) (fun _ _ _ _ _ => pg_name (i := 9) nd rfl (Or.inl rfl)) (fun _ _ _ _ _ => pts_one (pt_cmpR op_notIn_seq (pe_ix ix_tup (pv 9) pe_int (fun _ _ => rfl)) (pv 2) rfl)) (fun _ _ _ _ _ => (pv 9))) pa_nil)))
      (pss_one (ps_ret (pe_fnX G_unlike_columns hr2 (takes_of rfl rfl rfl rfl) (pa_cons (pv 0) (pa_cons (pv 8) pa_nil))))))))))))), ?_⟩
  have z2 : 2 ≤ sizeLine := by decide
  obtain ⟨ks, rfl⟩ := what_join hw
  obtain ⟨a, b, c, e, rfl, rfl, hc, gc, he, ge⟩ := given2 hg har
  obtain ⟨as, tf, hp, ec⟩ := id hc
  obtain ⟨bs, tf2, hp2, ee⟩ := id he
  obtain ⟨kt, rfl, h2⟩ := hd
  have lk : ks.length ≤ 100 := hok
  have h2' : H kt = some (.tup ((ks.map (·.1)).map V.str)) := by
    rw [List.map_map]
    exact h2
  refine ⟨_, rfl, gv, _, rfl, hgv, rfl, _, _, rfl, _, _, rfl, rfl, ?_⟩
  refine ⟨_, rfl, a, as.map (·.1), as.map fun c => (c.2.1, V.str (kW c.2.2)), rfl, by rw [List.map_map]; exact tf, paired_cols hp, fun k1 hk1 => ?_⟩
  have s1 := same_upd (o := .dK (mergeK [] ((as.map fun c => (c.2.1, V.str (kW c.2.2))).map fun kv => ((.inr kv.1 : L2.Key), kv.2)))) hk1
  have hK := kd_new (H := H) (kd := k1) ec gc.nod
  generalize upd H k1 (.dK (mergeK [] ((as.map fun c => (c.2.1, V.str (kW c.2.2))).map fun kv => ((.inr kv.1 : L2.Key), kv.2)))) = H1 at s1 hK ⊢
  refine ⟨_, rfl, b, bs.map (·.1), bs.map fun c => (c.2.1, V.str (kW c.2.2)), rfl, by rw [List.map_map]; exact same_f s1 _ _ tf2, paired_cols (fun x hx => s1 _ _ (hp2 x hx)), fun k2 hk2 => ?_⟩
  have s2 := same_upd (o := .dK (mergeK [] ((bs.map fun c => (c.2.1, V.str (kW c.2.2))).map fun kv => ((.inr kv.1 : L2.Key), kv.2)))) hk2
  have hL := kd_new (H := H1) (kd := k2) ee ge.nod
  replace hK := hK.keep s2
  replace s1 := s1.trans s2
  generalize upd H1 k2 (.dK (mergeK [] ((bs.map fun c => (c.2.1, V.str (kW c.2.2))).map fun kv => ((.inr kv.1 : L2.Key), kv.2)))) = H2 at s1 hK hL ⊢
  clear s2 hk1 hk2
  have none_of : ∀ {k : NC}, k ∈ ks → (kfN c k.1 = none ∨ kfN e k.1 ≠ kfN c k.1) → colsD [c, e] (.join ks) = none := fun {k} hk h => if_neg fun z => by
    have h' := List.all_eq_true.mp z k hk
    have h1 := Bool.and_eq_true_iff.mp h'
    rcases h with h | h
    · have h2 : (kfN c k.1).isSome = true := h1.1
      rw [h] at h2
      cases h2
    · exact h (of_decide_eq_true h1.2)
  refine ⟨_, rfl, _, rfl, _, rfl, nm, kt, k1, ks.map (·.1), kfN c, rfl, .inl (SqT.of (s1 _ _ h2')), hK, fun hall => ?_, fun hex => ?_⟩
  rotate_left
  · obtain ⟨x, hx, hn⟩ := hex
    obtain ⟨k, hk, rfl⟩ := List.mem_map.mp hx
    have hb := qe (none_of hk (.inl hn))
    exact fun H' u d sm nd' => hb H' u d (s1.trans sm) nd'
  refine ⟨_, rfl, _, rfl, _, rfl, nm, kt, k2, ks.map (·.1), kfN e, rfl, .inl (SqT.of (s1 _ _ h2')), hL, fun hall2 => ?_, fun hex => ?_⟩
  rotate_left
  · obtain ⟨x, hx, hn⟩ := hex
    obtain ⟨k, hk, rfl⟩ := List.mem_map.mp hx
    have hb := qe (none_of hk (.inr fun z => hall k.1 hx (by rw [← z]; exact hn)))
    exact fun H' u d sm nd' => hb H' u d (s1.trans sm) nd'
  obtain ⟨kv1, ek1, gk1⟩ := id hK
  obtain ⟨kv2, ek2, gk2⟩ := id hL
  have ekt := s1 _ _ h2'
  -- the kinds are alike
  refine ⟨_, rfl, kt, rfl, ⟨_, SqT.of ekt⟩, ?_⟩
  refine for_tup (K := K) (a := kt) (xs := (ks.map (·.1)).map V.str) (fun i σ H' => ∃ y7 y8 y9, σ = [some (.str nm), some (.ref gv), some (.ref kt), some (.ref a), some (.ref b), some (.ref k1), some (.ref k2), y7, y8, y9] ∧ H' = H2 ∧ ∀ k ∈ ks.take i, kfN e k.1 = kfN c k.1) ⟨_, _, _, rfl, rfl, fun k hk => absurd hk (by simp)⟩ (fun i σ H' _ h => by
    obtain ⟨_, _, _, _, rfl, _⟩ := h
    exact SqT.of ekt) ?_ ?_
  · rintro i x σ H' hx ⟨y7, y8, y9, rfl, rfl, al⟩
    rw [List.getElem?_map, List.getElem?_map, Option.map_map] at hx
    obtain ⟨k, hk', rfl⟩ := Option.map_eq_some_iff.mp hx
    have km := List.mem_of_getElem? hk'
    have hx1 := hall k.1 (List.mem_map.mpr ⟨k, km, rfl⟩)
    have hx2 := hall2 k.1 (List.mem_map.mpr ⟨k, km, rfl⟩)
    have tk : ks.take (i + 1) = ks.take i ++ [k] := by
      rw [List.take_add_one, hk']
      rfl
    cases hb1 : kfN c k.1 with
    | none => exact absurd hb1 hx1
    | some b1 =>
      cases hb2 : kfN e k.1 with
      | none => exact absurd hb2 hx2
      | some b2 =>
        have g1 : DGet H' k1 (.str k.1) (some (.str (kW b1))) := by
          have h0 : valV kv1 (.inr k.1) = some (.str (kW b1)) := by rw [gk1, hb1]; rfl
          exact h0 ▸ DGet.k (k := .inr k.1) ek1
        have g2 : DGet H' k2 (.str k.1) (some (.str (kW b2))) := by
          have h0 : valV kv2 (.inr k.1) = some (.str (kW b2)) := by rw [gk2, hb2]; rfl
          exact h0 ▸ DGet.k (k := .inr k.1) ek2
        refine ⟨_, rfl, _, rfl, k1, _, rfl, g1, _, rfl, _, rfl, k2, _, rfl, g2, rfl, _, rfl, ite2 (fun cc => ?_) (fun cc => ?_)⟩
        · have hb := qe (none_of km (.inr (by
            rw [hb1, hb2]
            intro z
            have : b2 = b1 := Option.some.inj z
            rw [this] at cc
            simp at cc)))
          exact ⟨_, rfl, _, _, rfl, fun d nd' => hb _ _ d s1 nd'⟩
        · refine ⟨_, _, _, rfl, rfl, fun k' hk2 => ?_⟩
          rw [tk] at hk2
          rcases List.mem_append.mp hk2 with hk2 | hk2
          · exact al k' hk2
          · rw [List.mem_singleton.mp hk2, hb1, hb2]
            cases b1 <;> cases b2 <;> first | rfl | (exfalso; apply cc; decide +kernel)
  rintro σ HH ⟨y7, y8, y9, rfl, rfl, al⟩
  rw [List.length_map, List.length_map, List.take_length] at al
  -- columns of the keys
  let kN : NC → NC := fun k => (k.1, (kfN c k.1).getD true)
  refine ⟨_, rfl, kt, rfl, ⟨_, SqT.of ekt⟩, fun cl hcl => ?_⟩
  have ncl : H cl = none := none_same s1 hcl
  refine lc_tup (K := K) (a := kt) (xs := (ks.map (·.1)).map V.str) (fun i H' => Same HH H' ∧ ∃ qs : List Col, H' cl = some (.lst (qs.map fun c => .ref c.1)) ∧ PairsAt H' qs ∧ qs.map (·.2) = (ks.take i).map kN) ⟨same_upd hcl, [], upd_same, fun x hx => absurd hx List.not_mem_nil, by simp⟩ (fun i H' _ h => SqT.of (h.1 _ _ ekt)) ?_ ?_
  · rintro i x H' hx ⟨sm, qs, e', hpq, eq⟩
    rw [List.getElem?_map, List.getElem?_map, Option.map_map] at hx
    obtain ⟨k, hk', rfl⟩ := Option.map_eq_some_iff.mp hx
    have hk0 := hall k.1 (List.mem_map.mpr ⟨k, List.mem_of_getElem? hk', rfl⟩)
    have tk : ks.take (i + 1) = ks.take i ++ [k] := by
      rw [List.take_add_one, hk']
      rfl
    have lq : qs.length ≤ 100 := by
      have h := congrArg List.length eq
      rw [List.length_map, List.length_map, List.length_take] at h
      omega
    cases hb : kfN c k.1 with
    | none => exact absurd hb hk0
    | some b' =>
      have gt : DGet H' k1 (.str k.1) (some (.str (kW b'))) := by
        have h0 : valV kv1 (.inr k.1) = some (.str (kW b')) := by rw [gk1, hb]; rfl
        exact h0 ▸ DGet.k (k := .inr k.1) (sm _ _ ek1)
      refine ⟨rfl, _, rfl, _, rfl, _, rfl, k1, _, rfl, gt, z2, fun r hr' => ?_⟩
      have e'' := same_upd (o := .tup [.str k.1, .str (kW b')]) hr' _ _ e'
      refine ⟨_, e'', Nat.lt_of_le_of_lt (show _ ≤ 100 by rw [List.length_map]; exact lq) (by decide), fun x o' ex => ?_, qs ++ [(r, k.1, b')], by rw [upd_same, List.map_append]; rfl, pairs_push (c := (k.1, b')) (H' := H') (l := qs.map fun c => .ref c.1) e' hpq hr', ?_⟩
      · rw [upd_ne (ne_of_none ex hcl)]
        exact same_upd hr' _ _ (sm _ _ ex)
      · rw [tk, List.map_append, List.map_append, eq]
        show _ ++ [(k.1, b')] = _ ++ [(k.1, (kfN c k.1).getD true)]
        rw [hb]
        rfl
  rintro H3 ⟨sm3, qs0, ecl, hpq0, eq0⟩
  rw [List.length_map, List.length_map, List.take_length] at eq0
  have s3 := s1.trans sm3
  replace ekt := sm3 _ _ ekt
  clear ek1 ek2 gk1 gk2 hK hL sm3
  let PP : Col → Bool := fun c => decide (c.2.1 ∉ ks.map (·.1))
  have la : as.length ≤ 100 := by
    have := gc.few
    rw [← ec, List.length_map] at this
    exact this
  have lb : bs.length ≤ 100 := by
    have := ge.few
    rw [← ee, List.length_map] at this
    exact this
  have lq0 : qs0.length ≤ 100 := by
    have h := congrArg List.length eq0
    rw [List.length_map, List.length_map] at h
    omega
  have tfA := same_f s3 _ _ tf
  have hpA : PairsAt H3 as := fun x hx => s3 _ _ (hp x hx)
  refine ⟨_, rfl, .inl ⟨rfl, _, SqL.of ecl⟩, _, rfl, a, rfl, ⟨_, tfA.sq⟩, fun DA hDA => ?_⟩
  have nDA : DA ≠ cl := (ne_of_none ecl hDA).symm
  refine lc_tup (K := K) (a := a) (xs := as.map fun c => .ref c.1) (fun i H' => Same H3 H' ∧ H' DA = some (.lst (((as.take i).filter PP).map fun c => .ref c.1))) ⟨same_upd hDA, upd_same⟩ (fun i H' _ h => (same_f h.1 _ _ tfA).sq) ?_ ?_
  · rintro i x H' hx ⟨sm, e'⟩
    rw [List.getElem?_map] at hx
    obtain ⟨x', hx', rfl⟩ := Option.map_eq_some_iff.mp hx
    have cm := List.mem_of_getElem? hx'
    refine ⟨rfl, _, rfl, x'.1, _, 0, _, rfl, rfl, SqT.of (sm _ _ (hpA x' cm)), rfl, _, rfl, kt, (ks.map (·.1)).map V.str, rfl, .inr (SqT.of (sm _ _ ekt)), rfl, flat_strs _, _, rfl, notin_strs (fun hn => ?_) (fun hn => ?_)⟩
    · refine ⟨_, rfl, _, e', ?_, fun b' o' ex => ?_, ?_⟩
      · rw [List.length_map]
        have h1 := filt_len (P := PP) (as.take i)
        have h2 : (as.take i).length ≤ as.length := by rw [List.length_take]; omega
        exact Nat.lt_of_le_of_lt (show _ ≤ 100 by omega) (by decide)
      · rw [upd_ne (ne_of_none ex hDA)]
        exact sm _ _ ex
      · rw [filt_yes hx' (decide_eq_true hn), List.map_append]
        exact upd_same
    · refine ⟨sm, ?_⟩
      rw [filt_no hx' (decide_eq_false fun z => z hn)]
      exact e'
  rintro HX ⟨sX, eDA⟩
  rw [List.length_map, List.take_length] at eDA
  have lA := filt_len (P := PP) as
  refine ⟨cl, DA, _, _, rfl, rfl, sX _ _ ecl, eDA, Nat.le_trans (show _ ≤ 200 by rw [List.length_map, List.length_map]; omega) (by decide), ?_⟩
  rw [← List.map_append]
  have bA : But cl H3 (upd HX cl (.lst ((qs0 ++ as.filter PP).map fun c => .ref c.1))) := fun x o hx ex => by
    rw [upd_ne hx]
    exact sX _ _ ex
  have ecl1 : upd HX cl (.lst ((qs0 ++ as.filter PP).map fun c => .ref c.1)) cl = some (.lst ((qs0 ++ as.filter PP).map fun c => .ref c.1)) := upd_same
  generalize upd HX cl (.lst ((qs0 ++ as.filter PP).map fun c => .ref c.1)) = H4 at bA ecl1 ⊢
  have tfB : TupF H4 b (bs.map fun c => .ref c.1) := bA.tupF ecl _ _ (same_f s3 _ _ tf2)
  have hpB : PairsAt H4 bs := fun x hx => bA.tup ecl _ _ (s3 _ _ (hp2 x hx))
  have hpq1 : PairsAt H4 (qs0 ++ as.filter PP) := fun x hx => by
    rcases List.mem_append.mp hx with hx | hx
    · exact bA.tup ecl _ _ (hpq0 x hx)
    · exact bA.tup ecl _ _ (hpA x (List.mem_filter.mp hx).1)
  have s4 := same_of_but s3 bA ncl
  replace ekt := bA.tup ecl _ _ ekt
  replace ecl := ecl1
  clear ecl1 sX eDA bA tfA
  refine ⟨_, rfl, .inl ⟨rfl, _, SqL.of ecl⟩, _, rfl, b, rfl, ⟨_, tfB.sq⟩, fun DB hDB => ?_⟩
  have nDB : DB ≠ cl := (ne_of_none ecl hDB).symm
  refine lc_tup (K := K) (a := b) (xs := bs.map fun c => .ref c.1) (fun i H' => Same H4 H' ∧ H' DB = some (.lst (((bs.take i).filter PP).map fun c => .ref c.1))) ⟨same_upd hDB, upd_same⟩ (fun i H' _ h => (same_f h.1 _ _ tfB).sq) ?_ ?_
  · rintro i x H' hx ⟨sm, e'⟩
    rw [List.getElem?_map] at hx
    obtain ⟨x', hx', rfl⟩ := Option.map_eq_some_iff.mp hx
    have cm := List.mem_of_getElem? hx'
    refine ⟨rfl, _, rfl, x'.1, _, 0, _, rfl, rfl, SqT.of (sm _ _ (hpB x' cm)), rfl, _, rfl, kt, (ks.map (·.1)).map V.str, rfl, .inr (SqT.of (sm _ _ ekt)), rfl, flat_strs _, _, rfl, notin_strs (fun hn => ?_) (fun hn => ?_)⟩
    · refine ⟨_, rfl, _, e', ?_, fun b' o' ex => ?_, ?_⟩
      · rw [List.length_map]
        have h1 := filt_len (P := PP) (bs.take i)
        have h2 : (bs.take i).length ≤ bs.length := by rw [List.length_take]; omega
        exact Nat.lt_of_le_of_lt (show _ ≤ 100 by omega) (by decide)
      · rw [upd_ne (ne_of_none ex hDB)]
        exact sm _ _ ex
      · rw [filt_yes hx' (decide_eq_true hn), List.map_append]
        exact upd_same
    · refine ⟨sm, ?_⟩
      rw [filt_no hx' (decide_eq_false fun z => z hn)]
      exact e'
  rintro HX ⟨sX, eDB⟩
  rw [List.length_map, List.take_length] at eDB
  have lB := filt_len (P := PP) bs
  refine ⟨cl, DB, _, _, rfl, rfl, sX _ _ ecl, eDB, Nat.le_trans (show _ ≤ 300 by rw [List.length_map, List.length_map, List.length_append]; omega) (by decide), ?_⟩
  rw [← List.map_append]
  have bB : But cl H4 (upd HX cl (.lst (((qs0 ++ as.filter PP) ++ bs.filter PP).map fun c => .ref c.1))) := fun x o hx ex => by
    rw [upd_ne hx]
    exact sX _ _ ex
  have ecl2 : upd HX cl (.lst (((qs0 ++ as.filter PP) ++ bs.filter PP).map fun c => .ref c.1)) cl = some (.lst (((qs0 ++ as.filter PP) ++ bs.filter PP).map fun c => .ref c.1)) := upd_same
  generalize upd HX cl (.lst (((qs0 ++ as.filter PP) ++ bs.filter PP).map fun c => .ref c.1)) = H5 at bB ecl2 ⊢
  have hpq2 : PairsAt H5 ((qs0 ++ as.filter PP) ++ bs.filter PP) := fun x hx => by
    rcases List.mem_append.mp hx with hx | hx
    · exact bB.tup ecl _ _ (hpq1 x hx)
    · exact bB.tup ecl _ _ (hpB x (List.mem_filter.mp hx).1)
  have sf := same_of_but s4 bB ncl
  obtain ⟨qs, eqs⟩ : ∃ qs, qs = (qs0 ++ as.filter PP) ++ bs.filter PP := ⟨_, rfl⟩
  rw [← eqs] at ecl2 hpq2
  have hcols : colsD [c, e] (.join ks) = ndC (qs.map (·.2)) := by
    rw [eqs, List.map_append, List.map_append, eq0]
    have h1 : (as.filter PP).map (·.2) = c.filter (fun x => decide (x.1 ∉ ks.map (·.1))) := by
      rw [← ec, List.filter_map]
      rfl
    have h3 : (bs.filter PP).map (·.2) = e.filter (fun x => decide (x.1 ∉ ks.map (·.1))) := by
      rw [← ee, List.filter_map]
      rfl
    rw [h1, h3, List.append_assoc]
    refine if_pos (List.all_eq_true.mpr fun k hk => Bool.and_eq_true_iff.mpr ⟨?_, decide_eq_true (al k hk)⟩)
    have := hall k.1 (List.mem_map.mpr ⟨k, hk, rfl⟩)
    show (kfN c k.1).isSome = true
    cases hh : kfN c k.1 with
    | none => exact absurd hh this
    | some _ => rfl
  have e1 : ((qs.map (·.2)).map (·.1)) = qs.map fun c => c.2.1 := by
    rw [List.map_map]
    rfl
  have lq : qs.length ≤ 300 := by
    rw [eqs, List.length_append, List.length_append]
    omega
  refine ⟨_, rfl, _, rfl, nm, cl, qs, rfl, .inr ecl2, hpq2, by omega, fun hn a' H'' sm ta => ?_, fun hn => ?_⟩
  · exact q _ (hcols.trans (if_pos (by rw [e1]; exact hn))) a' H'' (sf.trans sm) ⟨qs, ta, fun x hx => sm _ _ (hpq2 x hx), rfl⟩
  · have hb := qe (hcols.trans (if_neg (by rw [e1]; exact hn)))
    exact fun H'' u d sm nd' => hb H'' u d (sf.trans sm) nd'
end
end Kx

set_option maxHeartbeats 8000000
namespace Kx
open PySem PySem.Spec PyProof.Rows L2
/-! ### a local name that holds one of some defs that may raise, called -/
structure CalX (P : Program) (w : World) (K : PySem.W.Frag) (mg : Str → Option Value) (base : Heap) (k : Nat) (f : Addr) (sp : Sp) : Prop where
  ex : ∃ (fd : FuncData) (ps : List Str), FnOk P w K mg base (L2.CX P w) k f fd ps sp ∧ PySem.W.keepIn K (.ref f) = true ∧ Binds K fd ps []
section
variable {X : Cx}
def tCallW (i : Nat) (fam : List (Addr × Sp)) (W : WX) (t : TA) : TE := fun σ H Q => ∃ p ∈ fam, σ[i]? = some (some (.ref p.1)) ∧ t σ H fun vs H1 => p.2 vs H1 Q (WE W σ)
theorem pe_cvX {i j : Nat} {fam : List (Addr × Sp)} {W : WX} {x : Str} {p pos : Pos} {e : Expr} {es : List Expr} {t : TA} (c : ∀ p ∈ fam, ∃ k, k ≤ j ∧ CalX X.prog X.w X.K X.mg X.base k p.1 p.2) (hr : Room j X.A) (tk : Takes X W) (hN : X.N[i]? = some x) (hv : Vis X.env.scope x) (ha : PA X (e :: es) t)
    (hd : (x == ("__debug__" : Str)) = false := by decide) (hcd : (x == ("__classdict__" : Str)) = false := by decide)
    (he : starEach (e :: es) X.env = (false, eval e X.env) :: starEach es X.env := by rfl) (hpl : (backTo pos (starEach es X.env)).any (·.1) = false := by rfl) :
    PE X (.Call (.Name x p) (e :: es) [] pos) (tCallW i fam W t) := by
  constructor
  intro pins s σ H Q I h
  obtain ⟨⟨f, sp⟩, hm, hs, ht⟩ := h
  obtain ⟨k, hk, ⟨fd, ps, F, kp, b⟩⟩ := c _ hm
  refine wpAny_Call_Name_kw (thn ((pe_var (pos := p) hN hv hd hcd).run pins s σ H (fun v H1 => v = .ref f ∧ H1 = H) I ⟨.ref f, hs, rfl, rfl⟩) ?_)
  rintro u s1 ⟨v, H1, I1, r1, rfl, rfl⟩
  cases r1
  refine PySem.W.callWith_K (h₀ := X.base) I.ok.mod.kin kp (thn (ha.run pos pins s1 σ _ _ I1 ht) ?_) he hpl
  rintro us s2 ⟨vs, H2, I2, r, q⟩
  exact ⟨I2.kIn, run_fnS F (hr.mono hk) b (passAt tk σ) I2 r q⟩
end
end Kx

set_option maxHeartbeats 8000000
namespace Kx
open PySem PySem.Spec PyProof.Rows L2
/-! ### columns whose names are of a list: they stay so -/
def bigN : List Str := allNames ++ (["z", "a", "b", "d", "s0", "s1", "s2", "s3", "s4", "s5", "s6", "s7", "s9"] : List Str)
theorem big_ok : ∀ x ∈ bigN, PyData.canLay0 (.str x) = true := by decide +kernel
structure NamedC (cs : List NC) : Prop where
  nod : (cs.map (·.1)).Nodup
  inn : ∀ c ∈ cs, c.1 ∈ bigN
theorem NamedC.good {cs : List NC} (n : NamedC cs) : GoodC cs := by
  refine ⟨n.nod, ?_, fun c hc => big_ok _ (n.inn c hc)⟩
  have h1 := nodup_len (M := (cs.map (·.1)).map fun x => (Sum.inr x : L2.Key)) (ks := bigN.map fun x => (Sum.inr x : L2.Key)) (List.pairwise_map.mpr (n.nod.imp fun ne e => ne (Sum.inr.inj e))) fun z hz => by
    obtain ⟨x, hx, rfl⟩ := List.mem_map.mp hz
    obtain ⟨c, hc, rfl⟩ := List.mem_map.mp hx
    exact List.mem_map.mpr ⟨_, n.inn c hc, rfl⟩
  rw [List.length_map, List.length_map, List.length_map] at h1
  have : bigN.length ≤ 100 := by decide
  omega
def DetN : Det → Prop
  | .read cs => ∀ c ∈ cs, c.1 ∈ bigN
  | .map ms => ∀ m ∈ ms, m.2.2 ∈ bigN
  | .fold _ fs => ∀ m ∈ fs, m.2.2.2 ∈ bigN
  | _ => True
theorem ndC_some {cs cs' : List NC} (h : ndC cs = some cs') : cs' = cs ∧ (cs.map (·.1)).Nodup := by
  unfold ndC at h
  split at h
  · rename_i hn
    exact ⟨(Option.some.inj h).symm, hn⟩
  · cases h
theorem kf_mem {cs : List NC} {x : Str} (h : (kfN cs x).isSome = true) : x ∈ cs.map (·.1) := by
  by_cases z : x ∈ cs.map (·.1)
  · exact z
  · rw [kfN_none z] at h
    cases h
theorem getD_in {css : List (List NC)} {i : Nat} (h : i < css.length) (hN : ∀ cs ∈ css, NamedC cs) : NamedC (css.getD i []) := by
  have : css.getD i [] = css[i] := by simp [List.getD, h]
  rw [this]
  exact hN _ (List.getElem_mem h)
theorem cols_named {css : List (List NC)} {det : Det} {cs : List NC} (hN : ∀ c ∈ css, NamedC c) (hd : DetN det) (ha : css.length = det.arity) (h : colsD css det = some cs) : NamedC cs := by
  have in_of : ∀ {c : List NC} {x : Str}, NamedC c → x ∈ c.map (·.1) → x ∈ bigN := fun n hx => by
    obtain ⟨c, hc, rfl⟩ := List.mem_map.mp hx
    exact n.inn c hc
  cases det with
  | read cs0 =>
    obtain ⟨rfl, hn⟩ := ndC_some h
    exact ⟨hn, hd⟩
  | filter e =>
    have g := getD_in (i := 0) (by rw [ha]; show 0 < _; first | exact Nat.zero_lt_one | exact Nat.zero_lt_two) hN
    change (if _ then _ else _) = _ at h
    split at h
    · cases h
      exact g
    · cases h
  | map ms =>
    change (if _ then _ else _) = _ at h
    split at h
    · obtain ⟨rfl, hn⟩ := ndC_some h
      refine ⟨hn, fun c hc => ?_⟩
      obtain ⟨m, hm, rfl⟩ := List.mem_map.mp hc
      exact hd m hm
    · cases h
  | fold ks fs =>
    have g := getD_in (i := 0) (by rw [ha]; show 0 < _; first | exact Nat.zero_lt_one | exact Nat.zero_lt_two) hN
    change (if _ then _ else _) = _ at h
    split at h
    · rename_i hall
      obtain ⟨rfl, hn⟩ := ndC_some h
      refine ⟨hn, fun c hc => ?_⟩
      rcases List.mem_append.mp hc with hc | hc
      · obtain ⟨k, hk, rfl⟩ := List.mem_map.mp hc
        exact in_of g (kf_mem (List.all_eq_true.mp (Bool.and_eq_true_iff.mp hall).1 k hk))
      · obtain ⟨m, hm, rfl⟩ := List.mem_map.mp hc
        exact hd m hm
    · cases h
  | join ks =>
    have g := getD_in (i := 0) (by rw [ha]; show 0 < _; first | exact Nat.zero_lt_one | exact Nat.zero_lt_two) hN
    have g2 := getD_in (i := 1) (by rw [ha]; exact Nat.one_lt_two) hN
    change (if _ then _ else _) = _ at h
    split at h
    · rename_i hall
      obtain ⟨rfl, hn⟩ := ndC_some h
      refine ⟨hn, fun c hc => ?_⟩
      rcases List.mem_append.mp hc with hc | hc
      · obtain ⟨k, hk, rfl⟩ := List.mem_map.mp hc
        exact in_of g (kf_mem (Bool.and_eq_true_iff.mp (List.all_eq_true.mp hall k hk)).1)
      rcases List.mem_append.mp hc with hc | hc
      · exact g.inn c (List.mem_filter.mp hc).1
      · exact g2.inn c (List.mem_filter.mp hc).1
    · cases h
  | union =>
    have g := getD_in (i := 0) (by rw [ha]; show 0 < _; first | exact Nat.zero_lt_one | exact Nat.zero_lt_two) hN
    change (if _ then _ else _) = _ at h
    split at h
    · cases h
      exact g
    · cases h
  | unlike =>
    have g := getD_in (i := 0) (by rw [ha]; show 0 < _; first | exact Nat.zero_lt_one | exact Nat.zero_lt_two) hN
    change some _ = _ at h
    cases h
    exact g
  | sort ws m =>
    have g := getD_in (i := 0) (by rw [ha]; show 0 < _; first | exact Nat.zero_lt_one | exact Nat.zero_lt_two) hN
    change (if _ then _ else _) = _ at h
    split at h
    · cases h
      exact g
    · cases h
/-! ### the columns of a job's steps, or the first wrong step -/
def known (kn : List (Str × List NC)) (x : Str) : List NC := ((kn.find? fun e => decide (e.1 = x)).map (·.2)).getD []
def stepC (kn : List (Str × List NC)) (s : Stp) : Option (List NC) :=
  if s.name ∈ kn.map (·.1) then none else if (∃ x ∈ s.ins, x ∉ kn.map (·.1)) then none else colsD (s.ins.map (known kn)) s.det
def runC : List (Str × List NC) → List Stp → Except Str (List (Str × List NC))
  | kn, [] => .ok kn
  | kn, s :: ss => match stepC kn s with
    | none => .error s.name
    | some cs => runC (kn ++ [(s.name, cs)]) ss
def StpOk (s : Stp) : Prop := DetOk s.det ∧ DetN s.det ∧ s.ins.length = s.det.arity
end Kx

set_option maxHeartbeats 8000000
namespace Kx
open PySem PySem.Spec PyProof.Rows L2
abbrev s_columns_of : Stmt := topS 31
theorem runC_append : ∀ (kn : List (Str × List NC)) (a b : List Stp), runC kn (a ++ b) = match runC kn a with
  | .ok k => runC k b
  | .error e => .error e := by
  intro kn a
  induction a generalizing kn with
  | nil => intro b; rfl
  | cons s ss ih =>
    intro b
    show (match stepC kn s with | none => Except.error s.name | some cs => runC (kn ++ [(s.name, cs)]) (ss ++ b)) = _
    show _ = match (match stepC kn s with | none => Except.error s.name | some cs => runC (kn ++ [(s.name, cs)]) ss) with | .ok k => runC k b | .error e => .error e
    cases stepC kn s with
    | none => rfl
    | some cs => exact ih _ b
abbrev Tg : Type := List (Str × Addr × List NC)
def absT (tg : Tg) : List (Str × List NC) := tg.map fun e => (e.1, e.2.2)
theorem val_in {tg : Tg} (hn : (tg.map (·.1)).Nodup) {e : Str × Addr × List NC} (h : e ∈ tg) : valV (tg.map fun e => ((.inr e.1 : L2.Key), V.ref e.2.1)) (.inr e.1) = some (.ref e.2.1) :=
  val_key (f := fun e : Str × Addr × List NC => V.ref e.2.1) (nm := fun e => e.1) hn h
theorem val_out {tg : Tg} {x : Str} (h : x ∉ tg.map (·.1)) : valV (tg.map fun e => ((.inr e.1 : L2.Key), V.ref e.2.1)) (.inr x) = none := by
  unfold valV
  rw [List.find?_eq_none.mpr]
  · rfl
  · intro p hp
    obtain ⟨e, he, rfl⟩ := List.mem_map.mp hp
    intro z
    exact h (List.mem_map.mpr ⟨e, he, Sum.inr.inj (of_decide_eq_true z)⟩)
theorem known_in : ∀ {tg : Tg}, (tg.map (·.1)).Nodup → ∀ {e : Str × Addr × List NC}, e ∈ tg → known (absT tg) e.1 = e.2.2
  | [], _, e, h => absurd h List.not_mem_nil
  | x :: tg, hn, e, h => by
    unfold known absT
    rw [List.map_cons, List.find?_cons]
    by_cases hx : x.1 = e.1
    · have hxe : x = e := by
        rcases List.mem_cons.mp h with rfl | h
        · rfl
        · exact absurd (by show x.1 ∈ _; rw [hx]; exact List.mem_map.mpr ⟨e, h, rfl⟩) (List.nodup_cons.mp hn).1
      rw [decide_eq_true (show ((x.1, x.2.2) : Str × List NC).1 = e.1 from hx), hxe]
      rfl
    · rw [decide_eq_false (show ¬ ((x.1, x.2.2) : Str × List NC).1 = e.1 from hx)]
      have hl : e ∈ tg := by
        rcases List.mem_cons.mp h with rfl | h
        · exact absurd rfl hx
        · exact h
      exact known_in (List.nodup_cons.mp hn).2 hl
theorem err_at {xs : List Stp} {i : Nat} {s : Stp} {kn k : List (Str × List NC)} (h : xs[i]? = some s) (hr : runC kn (xs.take i) = .ok k) (hs : stepC k s = none) : runC kn xs = .error s.name := by
  obtain ⟨hi, he⟩ := List.getElem?_eq_some_iff.mp h
  have e : xs = xs.take i ++ s :: xs.drop (i + 1) := by
    rw [← he, ← List.drop_eq_getElem_cons hi, List.take_append_drop]
  rw [e, runC_append, hr]
  show (match stepC k s with | none => Except.error s.name | some cs => runC (k ++ [(s.name, cs)]) (xs.drop (i + 1))) = _
  rw [hs]
theorem ok_at {xs : List Stp} {i : Nat} {s : Stp} {kn k : List (Str × List NC)} {cs : List NC} (h : xs[i]? = some s) (hr : runC kn (xs.take i) = .ok k) (hs : stepC k s = some cs) : runC kn (xs.take (i + 1)) = .ok (k ++ [(s.name, cs)]) := by
  have e : xs.take (i + 1) = xs.take i ++ [s] := by
    rw [List.take_add_one, h]
    rfl
  rw [e, runC_append, hr]
  show (match stepC k s with | none => Except.error s.name | some cs => Except.ok (k ++ [(s.name, cs)])) = _
  rw [hs]
theorem choose_es {tg : Tg} : ∀ {ins : List Str}, (∀ x ∈ ins, x ∈ tg.map (·.1)) → ∃ es : Tg, es.map (·.1) = ins ∧ ∀ e ∈ es, e ∈ tg
  | [], _ => ⟨[], rfl, fun e h => absurd h List.not_mem_nil⟩
  | x :: ins, h => by
    obtain ⟨e, he, ex⟩ := List.mem_map.mp (h x List.mem_cons_self)
    obtain ⟨es, h1, h2⟩ := choose_es fun y hy => h y (List.mem_cons_of_mem _ hy)
    refine ⟨e :: es, by rw [List.map_cons, h1, ex], fun y hy => ?_⟩
    rcases List.mem_cons.mp hy with rfl | hy
    · exact he
    · exact h2 y hy
def whats : List Str := ["read", "filter", "map", "fold", "join", "union", "unlike", "sort"]
theorem what_in (d : Det) : d.what ∈ whats := by
  cases d <;> (dsimp only [Det.what]; decide +kernel)
section
variable {P : Program} {w : World} {K : PySem.W.Frag} {mg : Str → Option Value} {base : Heap}
/-- the table of the checkers -/
def CkAt (P : Program) (w : World) (K : PySem.W.Frag) (mg : Str → Option Value) (base : Heap) (C : Addr) : Prop := ∃ (dl : Addr) (ff : Str → Addr), mg "CHECKERS" = some (.ref dl) ∧ ∀ wh ∈ whats, KDct K w dl wh (.ref (ff wh)) ∧ ∃ k, k ≤ 103 ∧ CalX P w K mg base k (ff wh) (spChk K C wh)
abbrev N_columns_of : List Str := ["job", "steps", "answer", "told", "name", "what", "inputs", "details", "source", "columns_of_what"]
def spColsJ (K : PySem.W.Frag) (C : Addr) : Sp := fun vs H Q E => ∃ (job st : Addr) (answer : Str) (as : List (Addr × Stp)), vs = [.ref job] ∧ H job = some (.tup [.ref st, .str answer]) ∧ H st = some (.tup (as.map fun p => .ref p.1)) ∧ (∀ p ∈ as, StpAt H p.1 p.2 ∧ StpOk p.2) ∧ as.length ≤ 100 ∧
  (∀ kn, runC [] (as.map (·.2)) = .ok kn → answer ∈ kn.map (·.1) → ∀ (T : Addr) (tg : Tg) (H' : Hp), Same H H' → H' T = some (.dK (tg.map fun e => (.inr e.1, .ref e.2.1))) → absT tg = kn → (∀ e ∈ tg, CF H' e.2.1 e.2.2) → Q (.ref T) H') ∧
  (∀ kn, runC [] (as.map (·.2)) = .ok kn → answer ∉ kn.map (·.1) → BadE C answer H E) ∧ ∀ nm, runC [] (as.map (·.2)) = .error nm → BadE C nm H E
theorem sc_cols : FnScope N_columns_of ["job"] (defScope s_columns_of) := ⟨rfl, rfl, rfl, by decide +kernel, rfl, by decide +kernel, by decide +kernel⟩
theorem ok_cols {f C fI : Addr} {fd : FuncData} (F : Fun K "columns_of" "columns_of" s_columns_of f fd) (T : PySem.BadY.BadTxt K mg C fI) (CK : CkAt P w K mg base C) : FnOk P w K mg base (L2.CX P w) 104 f fd ["job"] (spColsJ K C) := by
  refine F.okX sc_cols (fun vs H Q E h => ?_) (fun cdv A outer s H vs Q E hr h => ?_)
  · obtain ⟨job, st, answer, as, rfl, _⟩ := h
    rfl
  obtain ⟨job, st, answer, as, rfl, hj, hst, hs, la, q, q2, qe⟩ := h
  obtain ⟨dl, ff, m_ck, hck⟩ := CK
  have cal : ∀ p ∈ (whats.map fun wh => (ff wh, spChk K C wh)), ∃ k, k ≤ 103 ∧ CalX P w K mg base k p.1 p.2 := fun p hp => by
    obtain ⟨wh, hw, rfl⟩ := List.mem_map.mp hp
    exact (hck wh hw).2
  have nd := sc_cols.nd
  have hr1 : Room 1 _ := hr.mono (by decide)
  have hr15 : Room 103 _ := hr
  have hu64 : _ + 64 < cLine := hr.units
  have hu1 : _ + 1 < cLine := Nat.lt_of_le_of_lt (Nat.add_le_add_left (by decide : 1 ≤ 64) _) hu64
  refine ⟨_, pss_cons (ps_asg (pv 0) (pg_tup rfl (pgs_cons (pg_name (i := 1) nd rfl (.inl rfl)) (pgs_cons (pg_name (i := 2) nd rfl (.inl rfl)) pgs_nil))))
      (pss_cons (ps_set (i := 3) nd rfl (.inr rfl) pe_dnewK)
      (pss_cons (ps_for (passes_of rfl) rfl (pi_tup (pv 1)) (pg_tup rfl (pgs_cons (pg_name (i := 4) nd rfl (.inl rfl)) (pgs_cons (pg_name (i := 5) nd rfl (.inl rfl)) (pgs_cons (pg_name (i := 6) nd rfl (.inl rfl)) (pgs_cons (pg_name (i := 7) nd rfl (.inl rfl)) pgs_nil))))) (pss_cons (ps_if (pt_cmp (pc_din hu1 (pv 4) (pv 3)) rfl) (pss_one (ps_raiseBad2 rfl T hr1 (takes_of rfl rfl rfl rfl) (pa_cons (pv 4) (pa_cons pe_str pa_nil)))) (pss_nil))
      (pss_cons (ps_for (passes_of rfl) rfl (pi_tup (pv 6)) (pg_name (i := 8) nd rfl (.inl rfl)) (pss_one (ps_if (pt_cmp (pc_dnotin hu1 (pv 8) (pv 3)) rfl) (pss_one (ps_raiseBad2 rfl T hr1 (takes_of rfl rfl rfl rfl) (pa_cons (pv 4) (pa_cons pe_str pa_nil)))) (pss_nil))))
      (pss_cons (ps_set (i := 9) nd rfl (.inl rfl) (pe_ix ix_kdict (pe_glob (v := .ref dl) rfl m_ck rfl) (pv 5) (fun _ _ => rfl)))
      (pss_one (ps_dput hu1 (pv 3) (pv 4) (pe_cvX (i := 9) cal hr15 (takes_of rfl rfl rfl rfl) rfl (.inl rfl) (pa_cons (pv 4) (pa_cons (pe_lc (own := [("source", 8)]) (g := gName 8) (tt := tYes) rfl nd (pi_tup (pv 6)) (blkOk_by (N := N_columns_of) (sc := defScope s_columns_of) (by decide +kernel)) (fun _ _ _ _ _ => pg_name (i := 8) nd rfl (Or.inl rfl)) (fun _ _ _ _ _ => pts_nil) (fun _ _ _ _ _ => (pe_dget hu1 (pv 3) (pv 8) (fun _ _ => rfl)))) (pa_cons (pv 7) pa_nil)))) rfl))))))
      (pss_cons (ps_if (pt_cmp (pc_dnotin hu1 (pv 2) (pv 3)) rfl) (pss_one (ps_raiseBad2 rfl T hr1 (takes_of rfl rfl rfl rfl) (pa_cons (pv 2) (pa_cons pe_str pa_nil)))) (pss_nil))
      (pss_one (ps_ret (pv 3)))))), ?_⟩
  refine ⟨_, rfl, job, _, rfl, SqT.of hj, rfl, _, _, rfl, _, _, rfl, rfl, fun TT hTT => ?_⟩
  have s1 := same_upd (o := .dK []) hTT
  have eT : upd H TT (.dK []) TT = some (.dK []) := upd_same
  generalize upd H TT (.dK []) = H1 at s1 eT ⊢
  have kT : ∀ {H' : Hp}, But TT H1 H' → KeepT H1 H' := fun b a xs e => b a _ (fun z => by rw [z, eT] at e; cases e) e
  have kF : ∀ {H' : Hp}, But TT H1 H' → KeepF H1 H' := fun b a xs ⟨o, dn, e⟩ => ⟨o, dn, b a _ (fun z => by rw [z, eT] at e; cases e) e⟩
  refine ⟨_, rfl, st, rfl, ⟨_, SqT.of (s1 _ _ hst)⟩, ?_⟩
  refine for_tup (K := K) (a := st) (xs := as.map fun p => .ref p.1) (fun i σ H' => ∃ y4 y5 y6 y7 y8 y9 tg, σ = [some (.ref job), some (.ref st), some (.str answer), some (.ref TT), y4, y5, y6, y7, y8, y9] ∧ But TT H1 H' ∧ H' TT = some (.dK (tg.map fun e => (.inr e.1, .ref e.2.1))) ∧ runC [] ((as.map (·.2)).take i) = .ok (absT tg) ∧ (∀ e ∈ tg, CF H' e.2.1 e.2.2 ∧ NamedC e.2.2) ∧ (tg.map (·.1)).Nodup ∧ tg.length ≤ i)
    ⟨_, _, _, _, _, _, [], rfl, But.refl _ _, eT, rfl, fun e he => absurd he List.not_mem_nil, List.nodup_nil, Nat.le_refl _⟩ (fun i σ H' _ h => by
      obtain ⟨_, _, _, _, _, _, _, _, b, _⟩ := h
      exact SqT.of (kT b _ _ (s1 _ _ hst))) ?_ ?_
  · rintro i x σ H' hx ⟨y4, y5, y6, y7, y8, y9, tg, rfl, b, eT', hrun, hcf, hnd, hlen⟩
    rw [List.getElem?_map] at hx
    obtain ⟨⟨pa, s'⟩, hp', rfl⟩ := Option.map_eq_some_iff.mp hx
    have pm := List.mem_of_getElem? hp'
    have hi : i < as.length := (List.getElem?_eq_some_iff.mp hp').1
    have hsi : (as.map (·.2))[i]? = some s' := by rw [List.getElem?_map, hp']; rfl
    obtain ⟨xat, sok1, sok2, sok3⟩ := hs _ pm
    obtain ⟨inp, dv, x1, x2, x3⟩ := (xat.keep (same_t s1) (same_f s1)).keep (kT b) (kF b)
    dsimp only at x1 x2 x3 sok1 sok2 sok3
    have sm : Same H H' := fun a o e => b a o (ne_of_none e hTT) (s1 _ _ e)
    have names : (absT tg).map (·.1) = tg.map (·.1) := by
      unfold absT
      rw [List.map_map]
      rfl
    refine ⟨pa, _, rfl, SqT.of x1, rfl, _, _, rfl, _, _, rfl, _, _, rfl, _, _, rfl, rfl, ?_⟩
    refine ⟨_, rfl, _, rfl, TT, _, rfl, DGet.k (k := .inr s'.name) eT', _, rfl, ?_⟩
    by_cases hin : s'.name ∈ tg.map (·.1)
    · obtain ⟨e, he, ee⟩ := List.mem_map.mp hin
      have hv : valV (tg.map fun e => ((.inr e.1 : L2.Key), V.ref e.2.1)) (.inr s'.name) = some (.ref e.2.1) := by
        rw [← ee]
        exact val_in hnd he
      rw [hv]
      have hz : stepC (absT tg) s' = none := if_pos (by rw [names]; exact hin)
      exact iteT ⟨_, rfl, _, _, rfl, fun d nd' => qe _ (err_at hsi hrun hz) _ _ d sm nd'⟩
    have hv : valV (tg.map fun e => ((.inr e.1 : L2.Key), V.ref e.2.1)) (.inr s'.name) = none := val_out hin
    rw [hv]
    refine iteF ?_
    refine ⟨_, rfl, inp, rfl, ⟨_, SqT.of x2⟩, ?_⟩
    refine for_tup (K := K) (a := inp) (xs := s'.ins.map V.str) (fun j σ H'' => ∃ y8, σ = [some (.ref job), some (.ref st), some (.str answer), some (.ref TT), some (.str s'.name), some (.str s'.det.what), some (.ref inp), some dv, y8, y9] ∧ H'' = H' ∧ ∀ x ∈ s'.ins.take j, x ∈ tg.map (·.1)) ⟨_, rfl, rfl, fun x hx => absurd hx (by simp)⟩ (fun j σ H'' _ h => by
      obtain ⟨_, _, rfl, _⟩ := h
      exact SqT.of x2) ?_ ?_
    · rintro j x σ H'' hx ⟨y8, rfl, rfl, al⟩
      rw [List.getElem?_map] at hx
      obtain ⟨z, hz, rfl⟩ := Option.map_eq_some_iff.mp hx
      refine ⟨_, rfl, _, rfl, TT, _, rfl, DGet.k (k := .inr z) eT', _, rfl, ?_⟩
      by_cases hzi : z ∈ tg.map (·.1)
      · obtain ⟨e, he, ee⟩ := List.mem_map.mp hzi
        have hv : valV (tg.map fun e => ((.inr e.1 : L2.Key), V.ref e.2.1)) (.inr z) = some (.ref e.2.1) := by
          rw [← ee]
          exact val_in hnd he
        rw [hv]
        refine iteF ⟨_, rfl, rfl, fun u hu => ?_⟩
        rw [List.take_add_one, hz] at hu
        rcases List.mem_append.mp hu with hu | hu
        · exact al u hu
        · rw [List.mem_singleton.mp hu]
          exact hzi
      · rw [val_out hzi]
        have hn : stepC (absT tg) s' = none := by
          unfold stepC
          rw [if_neg (by rw [names]; exact hin)]
          exact if_pos ⟨z, List.mem_of_getElem? hz, by rw [names]; exact hzi⟩
        exact iteT ⟨_, rfl, _, _, rfl, fun d nd' => qe _ (err_at hsi hrun hn) _ _ d sm nd'⟩
    rintro σ H'' ⟨y8, rfl, rfl, al⟩
    rw [List.length_map, List.take_length] at al
    obtain ⟨es, ees, hes⟩ := choose_es al
    refine ⟨_, rfl, dl, s'.det.what, _, rfl, rfl, (hck _ (what_in _)).1, ?_⟩
    have les : es.length ≤ 2 := by
      have h := congrArg List.length ees
      rw [List.length_map, sok3] at h
      have : s'.det.arity ≤ 2 := by cases s'.det <;> first | exact Nat.le_refl 2 | exact Nat.le_succ 1 | exact Nat.zero_le 2
      omega
    refine ⟨(ff s'.det.what, spChk K C s'.det.what), List.mem_map.mpr ⟨_, what_in _, rfl⟩, rfl, _, rfl, _, rfl, inp, rfl, ⟨_, SqT.of x2⟩, fun D hD => ?_⟩
    refine lc_tup (K := K) (a := inp) (xs := s'.ins.map V.str) (fun j G => Same H'' G ∧ G D = some (.lst (((es.take j).map (·.2.1)).map V.ref))) ⟨same_upd hD, upd_same⟩ (fun j G _ h => SqT.of (h.1 _ _ x2)) ?_ ?_
    · rintro j x G hx ⟨smG, eD⟩
      rw [← ees, List.getElem?_map, List.getElem?_map, Option.map_map] at hx
      obtain ⟨e, he, rfl⟩ := Option.map_eq_some_iff.mp hx
      have gt : DGet G TT (.str e.1) (some (.ref e.2.1)) := (val_in hnd (hes e (List.mem_of_getElem? he))) ▸ DGet.k (k := .inr e.1) (smG _ _ eT')
      have tk : es.take (j + 1) = es.take j ++ [e] := by
        rw [List.take_add_one, he]
        rfl
      refine ⟨rfl, _, rfl, _, rfl, TT, _, rfl, gt, _, eD, Nat.lt_of_le_of_lt (show _ ≤ 2 by rw [List.length_map, List.length_map, List.length_take]; omega) (by decide), fun c o ex => ?_, ?_⟩
      · rw [upd_ne (ne_of_none ex hD)]
        exact smG _ _ ex
      · rw [tk, List.map_append, List.map_append]
        exact upd_same
    rintro G ⟨smG, eD⟩
    rw [← ees, List.length_map, List.length_map, List.take_length] at eD
    have hstep : stepC (absT tg) s' = colsD (es.map (·.2.2)) s'.det := by
      unfold stepC
      rw [if_neg (by rw [names]; exact hin), if_neg (fun z => by
        obtain ⟨x, hx, hn⟩ := z
        rw [names] at hn
        exact hn (al x hx)), ← ees, List.map_map]
      congr 1
      refine List.map_congr_left fun e he => ?_
      exact known_in hnd (hes e he)
    have hNam : ∀ cs ∈ es.map (·.2.2), NamedC cs := fun cs hc => by
      obtain ⟨e, he, rfl⟩ := List.mem_map.mp hc
      exact (hcf e (hes e he)).2
    have har : (es.map (·.2.2)).length = s'.det.arity := by
      have h := congrArg List.length ees
      rw [List.length_map] at h
      rw [List.length_map, h, sok3]
    refine ⟨_, rfl, s'.name, D, dv, s'.det, es.map (·.2.1), es.map (·.2.2), rfl, rfl, SqL.of eD, ⟨by rw [List.length_map, List.length_map], fun k g cs hg hc => ?_⟩, har, x3.keep (same_t smG) (same_f smG), sok1, fun cs hcs a H3 sm3 hCF => ?_, fun hn => ?_⟩
    · rw [List.getElem?_map] at hg hc
      obtain ⟨e, he, rfl⟩ := Option.map_eq_some_iff.mp hg
      rw [he] at hc
      cases hc
      have h := hcf e (hes e (List.mem_of_getElem? he))
      exact ⟨h.1.keep (same_t smG) (same_f smG), h.2.good⟩
    · have s5 := smG.trans sm3
      have eT3 := s5 _ _ eT'
      refine ⟨_, rfl, _, rfl, TT, _, rfl, DPut.k (k := .inr s'.name) eT3 (Nat.lt_of_le_of_lt (show _ ≤ 100 by rw [List.length_map]; omega) (by decide)), ?_⟩
      have nT : ∀ {a : Addr} {xs : List V}, H3 a = some (.tup xs) → a ≠ TT := fun e z => by
        rw [z, eT3] at e
        cases e
      have kt3 : KeepT H3 (upd H3 TT (.dK (putK (tg.map fun e => ((.inr e.1 : L2.Key), V.ref e.2.1)) (.inr s'.name) (.ref a)))) := fun a' xs e => by
        rw [upd_ne (nT e)]
        exact e
      have kf3 : KeepF H3 (upd H3 TT (.dK (putK (tg.map fun e => ((.inr e.1 : L2.Key), V.ref e.2.1)) (.inr s'.name) (.ref a)))) := fun a' xs ⟨o, dn, e⟩ => ⟨o, dn, by
        rw [upd_ne (fun z => by rw [z, eT3] at e; cases e)]
        exact e⟩
      refine ⟨_, _, _, _, _, _, tg ++ [(s'.name, a, cs)], rfl, fun c o hc e => ?_, ?_, ?_, fun e he => ?_, ?_, ?_⟩
      · rw [upd_ne hc]
        exact s5 _ _ (b c o hc e)
      · rw [upd_same, putK_new _ hv, List.map_append]
        rfl
      · rw [ok_at hsi hrun (hstep.trans hcs)]
        unfold absT
        rw [List.map_append]
        rfl
      · rcases List.mem_append.mp he with he | he
        · exact ⟨((hcf e he).1.keep (same_t s5) (same_f s5)).keep kt3 kf3, (hcf e he).2⟩
        · rw [List.mem_singleton.mp he]
          exact ⟨hCF.keep kt3 kf3, cols_named hNam sok2 har hcs⟩
      · rw [List.map_append]
        exact List.nodup_append.mpr ⟨hnd, by simp, fun u hu v hv' e => hin (by
          have : v = s'.name := List.mem_singleton.mp hv'
          rw [← this, ← e]
          exact hu)⟩
      · rw [List.length_append]
        exact Nat.succ_le_succ hlen
    · have hb := qe _ (err_at hsi hrun (hstep.trans hn))
      exact fun H5 u d s5 nd' => hb H5 u d ((sm.trans smG).trans s5) nd'
  · rintro σ H' ⟨y4, y5, y6, y7, y8, y9, tg, rfl, b, eT', hrun, hcf, hnd, hlen⟩
    rw [List.length_map, List.take_of_length_le (by rw [List.length_map]; exact Nat.le_refl _)] at hrun
    have sm : Same H H' := fun a o e => b a o (ne_of_none e hTT) (s1 _ _ e)
    have names : (absT tg).map (·.1) = tg.map (·.1) := by
      unfold absT
      rw [List.map_map]
      rfl
    refine ⟨_, rfl, _, rfl, TT, _, rfl, DGet.k (k := .inr answer) eT', _, rfl, ?_⟩
    by_cases hin : answer ∈ tg.map (·.1)
    · obtain ⟨e, he, ee⟩ := List.mem_map.mp hin
      have hv : valV (tg.map fun e => ((.inr e.1 : L2.Key), V.ref e.2.1)) (.inr answer) = some (.ref e.2.1) := by
        rw [← ee]
        exact val_in hnd he
      rw [hv]
      exact iteF ⟨_, rfl, q _ hrun (by rw [names]; exact hin) TT tg H' sm eT' rfl fun e he => (hcf e he).1⟩
    · rw [val_out hin]
      exact iteT ⟨_, rfl, _, _, rfl, fun d nd' => q2 _ hrun (by rw [names]; exact hin) _ _ d sm nd'⟩
end
end Kx

namespace Kx
open PySem PySem.Spec PyProof.Rows L2
theorem but_upd {H : Hp} {p : Addr} {o : HO} : But p H (upd H p o) := fun a x h e => by
  rw [upd_ne h]
  exact e
abbrev s_parts_of : Stmt := topS 7
abbrev s_rows_of_parts : Stmt := topS 8
abbrev s_how_many : Stmt := topS 9
abbrev s_how_deep : Stmt := topS 10
abbrev s_is_large : Stmt := topS 11
def Ex.parts : Ex → List Ex
  | .two _ a b => [a, b]
  | .nt a => [a]
  | .mn a => [a]
  | .ln a => [a]
  | _ => []
def Ex.size : Ex → Nat
  | .two _ a b => a.size + b.size + 1
  | .nt a => a.size + 1
  | .mn a => a.size + 1
  | .ln a => a.size + 1
  | _ => 1
theorem Ex.size_pos (e : Ex) : 0 < e.size := by cases e <;> exact Nat.succ_pos _
def nextR (r : List Ex) : List Ex := r.flatMap Ex.parts
/-- how long the rows are -/
def rowsL : Nat → List Ex → List Nat
  | 0, _ => []
  | _ + 1, [] => []
  | f + 1, e :: r => (e :: r).length :: rowsL f (nextR (e :: r))
def mdep : List Ex → Nat
  | [] => 0
  | e :: r => max e.dep (mdep r)
def sumS : List Ex → Nat
  | [] => 0
  | e :: r => e.size + sumS r
theorem mdep_app (a b : List Ex) : mdep (a ++ b) = max (mdep a) (mdep b) := by
  induction a with
  | nil => simp [mdep]
  | cons e a ih =>
    show max e.dep (mdep (a ++ b)) = max (max e.dep (mdep a)) (mdep b)
    rw [ih, Nat.max_assoc]
theorem sumS_app (a b : List Ex) : sumS (a ++ b) = sumS a + sumS b := by
  induction a with
  | nil => simp [sumS]
  | cons e a ih =>
    show e.size + sumS (a ++ b) = e.size + sumS a + sumS b
    rw [ih, Nat.add_assoc]
theorem parts_dep (e : Ex) : mdep e.parts + 1 = e.dep ∨ (e.parts = [] ∧ e.dep = 1) := by
  cases e with
  | two op a b =>
    refine .inl ?_
    show max a.dep (max b.dep 0) + 1 = max a.dep b.dep + 1
    simp
  | nt a => exact .inl (by show max a.dep 0 + 1 = a.dep + 1; simp)
  | mn a => exact .inl (by show max a.dep 0 + 1 = a.dep + 1; simp)
  | ln a => exact .inl (by show max a.dep 0 + 1 = a.dep + 1; simp)
  | num i => exact .inr ⟨rfl, rfl⟩
  | quo i => exact .inr ⟨rfl, rfl⟩
  | col i => exact .inr ⟨rfl, rfl⟩
theorem parts_size (e : Ex) : sumS e.parts + 1 = e.size := by
  cases e with
  | two op a b => show a.size + (b.size + 0) + 1 = a.size + b.size + 1; omega
  | nt a => rfl
  | mn a => rfl
  | ln a => rfl
  | num i => rfl
  | quo i => rfl
  | col i => rfl
theorem next_dep : ∀ (e : Ex) (r : List Ex), mdep (nextR (e :: r)) < mdep (e :: r)
  | e, [] => by
    have h : nextR [e] = e.parts := by simp [nextR]
    rw [h]
    have := parts_dep e
    have hp := e.dep_pos
    show mdep e.parts < max e.dep 0
    rcases this with h | ⟨h, h2⟩
    · omega
    · rw [h]
      show 0 < _
      omega
  | e, e2 :: r => by
    have ih := next_dep e2 r
    have h : nextR (e :: e2 :: r) = e.parts ++ nextR (e2 :: r) := by simp [nextR]
    rw [h, mdep_app]
    have := parts_dep e
    have hp := e.dep_pos
    show max (mdep e.parts) (mdep (nextR (e2 :: r))) < max e.dep (mdep (e2 :: r))
    rcases this with h | ⟨h, h2⟩
    · omega
    · rw [h]
      show max 0 _ < _
      omega
theorem next_size : ∀ r : List Ex, sumS (nextR r) + r.length = sumS r
  | [] => rfl
  | e :: r => by
    have ih := next_size r
    have h : nextR (e :: r) = e.parts ++ nextR r := by simp [nextR]
    rw [h, sumS_app]
    have := parts_size e
    show sumS e.parts + sumS (nextR r) + (r.length + 1) = e.size + sumS r
    omega
theorem len_sum : ∀ r : List Ex, r.length ≤ sumS r
  | [] => Nat.le_refl _
  | e :: r => by
    have := len_sum r
    have h := e.size_pos
    show r.length + 1 ≤ e.size + sumS r
    omega
theorem rows_nil (f : Nat) : rowsL f [] = [] := by cases f <;> rfl
def largeE (e : Ex) : Bool := decide (80 < (rowsL e.dep [e]).sum) || decide (40 < (rowsL e.dep [e]).length)
section
variable {P : Program} {w : World} {K : PySem.W.Frag} {mg : Str → Option Value} {base : Heap}
/-! ### parts_of -/
theorem none_back {H H' : Hp} {a : Addr} (h : Same H H') (e : H' a = none) : H a = none := by
  cases q : H a with
  | none => rfl
  | some o =>
    rw [h _ _ q] at e
    cases e
def spParts : Sp := fun vs H Q _ => ∃ (v : V) (e : Ex), vs = [v] ∧ ExAt H v e ∧ ∀ (l : Addr) (xs : List V) (H' : Hp), Same H H' → H l = none → H' l = some (.lst xs) → Paired (ExAt H') xs e.parts → Q (.ref l) H'
theorem sc_parts : FnScope ["told"] ["told"] (defScope s_parts_of) := ⟨rfl, rfl, rfl, by decide +kernel, rfl, by decide +kernel, by decide +kernel⟩
theorem ok_parts {f : Addr} {fd : FuncData} (F : Fun K "parts_of" "parts_of" s_parts_of f fd) : FnOk P w K mg base CX0 1 f fd ["told"] spParts := by
  refine F.ok sc_parts (fun vs H Q E h => ?_) (fun cdv A outer s H vs Q E hr h => ?_)
  · obtain ⟨v, e, rfl, _⟩ := h
    rfl
  obtain ⟨v, e, rfl, hx, q⟩ := h
  refine ⟨_, pss_cons (ps_if (pt_cmpR op_eq (pe_ix ix_tup (pv 0) pe_int (fun _ _ => rfl)) pe_str (nomark _)) (pss_one (ps_ret (pe_lst (pa_cons (pe_ix ix_tup (pv 0) pe_int (fun _ _ => rfl)) (pa_cons (pe_ix ix_tup (pv 0) pe_int (fun _ _ => rfl)) pa_nil))))) (pss_nil))
      (pss_cons (ps_if (pt_cmpR op_in_seq (pe_ix ix_tup (pv 0) pe_int (fun _ _ => rfl)) (pe_tup (pa_cons pe_str (pa_cons pe_str (pa_cons pe_str pa_nil)))) (by with_unfolding_all rfl)) (pss_one (ps_ret (pe_lst (pa_cons (pe_ix ix_tup (pv 0) pe_int (fun _ _ => rfl)) pa_nil)))) (pss_nil))
      (pss_one (ps_ret (pe_lst pa_nil)))), ?_⟩
  have z0 : 0 ≤ sizeLine := by decide
  have z1 : 1 ≤ sizeLine := by decide
  have z2 : 2 ≤ sizeLine := by decide
  have z3 : 3 ≤ sizeLine := by decide
  have words : ∀ z : Str, (z ∈ (["not", "minus", "length"] : List Str)) ↔ (z = "not" ∨ z = "minus" ∨ z = "length") := fun z => by
    simp only [List.mem_cons, List.not_mem_nil, or_false]
  cases e with
  | num i =>
    obtain ⟨a, rfl, ha⟩ := hx
    refine ⟨_, rfl, a, _, 0, _, rfl, rfl, SqT.of ha, rfl, rfl, _, rfl, iteF ?_⟩
    refine ⟨_, rfl, a, _, 0, _, rfl, rfl, SqT.of ha, rfl, z3, fun t ht => ⟨t, _, rfl, .inr (SqT.of upd_same), rfl, flat_strs ["not", "minus", "length"], _, rfl, in_strs (l := ["not", "minus", "length"]) (fun h => absurd h (by decide +kernel)) (fun _ => ?_)⟩⟩
    exact ⟨z0, fun l hl => q l [] _ ((same_upd ht).trans (same_upd hl)) (none_back (same_upd ht) hl) upd_same .nil⟩
  | quo z =>
    obtain ⟨a, rfl, ha⟩ := hx
    refine ⟨_, rfl, a, _, 0, _, rfl, rfl, SqT.of ha, rfl, rfl, _, rfl, iteF ?_⟩
    refine ⟨_, rfl, a, _, 0, _, rfl, rfl, SqT.of ha, rfl, z3, fun t ht => ⟨t, _, rfl, .inr (SqT.of upd_same), rfl, flat_strs ["not", "minus", "length"], _, rfl, in_strs (l := ["not", "minus", "length"]) (fun h => absurd h (by decide +kernel)) (fun _ => ?_)⟩⟩
    exact ⟨z0, fun l hl => q l [] _ ((same_upd ht).trans (same_upd hl)) (none_back (same_upd ht) hl) upd_same .nil⟩
  | col x =>
    obtain ⟨a, rfl, ha⟩ := hx
    refine ⟨_, rfl, a, _, 0, _, rfl, rfl, SqT.of ha, rfl, rfl, _, rfl, iteF ?_⟩
    refine ⟨_, rfl, a, _, 0, _, rfl, rfl, SqT.of ha, rfl, z3, fun t ht => ⟨t, _, rfl, .inr (SqT.of upd_same), rfl, flat_strs ["not", "minus", "length"], _, rfl, in_strs (l := ["not", "minus", "length"]) (fun h => absurd h (by decide +kernel)) (fun _ => ?_)⟩⟩
    exact ⟨z0, fun l hl => q l [] _ ((same_upd ht).trans (same_upd hl)) (none_back (same_upd ht) hl) upd_same .nil⟩
  | two op x y =>
    obtain ⟨a, vx, vy, rfl, ha, hx, hy⟩ := hx
    refine ⟨_, rfl, a, _, 0, _, rfl, rfl, SqT.of ha, rfl, rfl, _, rfl, iteT ?_⟩
    refine ⟨_, rfl, a, _, 2, _, rfl, rfl, SqT.of ha, rfl, _, rfl, a, _, 3, _, rfl, rfl, SqT.of ha, rfl, z2, fun l hl => ?_⟩
    have u := same_upd (o := .lst [vx, vy]) hl
    exact q l _ _ u hl upd_same (.cons (hx.keep fun a xs e => u a _ e) (.cons (hy.keep fun a xs e => u a _ e) .nil))
  | nt x =>
    obtain ⟨a, vx, rfl, ha, hx⟩ := hx
    refine ⟨_, rfl, a, _, 0, _, rfl, rfl, SqT.of ha, rfl, rfl, _, rfl, iteF ?_⟩
    refine ⟨_, rfl, a, _, 0, _, rfl, rfl, SqT.of ha, rfl, z3, fun t ht => ⟨t, _, rfl, .inr (SqT.of upd_same), rfl, flat_strs ["not", "minus", "length"], _, rfl, in_strs (l := ["not", "minus", "length"]) (fun _ => ?_) (fun h => absurd (show ("not" : Str) ∈ (["not", "minus", "length"] : List Str) by decide +kernel) h)⟩⟩
    have u1 := same_upd (o := .tup ((["not", "minus", "length"] : List Str).map V.str)) ht
    refine ⟨_, rfl, a, _, 1, _, rfl, rfl, SqT.of (u1 _ _ ha), rfl, z1, fun l hl => ?_⟩
    have u := u1.trans (same_upd (o := .lst [vx]) hl)
    exact q l _ _ u (none_back u1 hl) upd_same (.cons (hx.keep fun a xs e => u a _ e) .nil)
  | mn x =>
    obtain ⟨a, vx, rfl, ha, hx⟩ := hx
    refine ⟨_, rfl, a, _, 0, _, rfl, rfl, SqT.of ha, rfl, rfl, _, rfl, iteF ?_⟩
    refine ⟨_, rfl, a, _, 0, _, rfl, rfl, SqT.of ha, rfl, z3, fun t ht => ⟨t, _, rfl, .inr (SqT.of upd_same), rfl, flat_strs ["not", "minus", "length"], _, rfl, in_strs (l := ["not", "minus", "length"]) (fun _ => ?_) (fun h => absurd (show ("minus" : Str) ∈ (["not", "minus", "length"] : List Str) by decide +kernel) h)⟩⟩
    have u1 := same_upd (o := .tup ((["not", "minus", "length"] : List Str).map V.str)) ht
    refine ⟨_, rfl, a, _, 1, _, rfl, rfl, SqT.of (u1 _ _ ha), rfl, z1, fun l hl => ?_⟩
    have u := u1.trans (same_upd (o := .lst [vx]) hl)
    exact q l _ _ u (none_back u1 hl) upd_same (.cons (hx.keep fun a xs e => u a _ e) .nil)
  | ln x =>
    obtain ⟨a, vx, rfl, ha, hx⟩ := hx
    refine ⟨_, rfl, a, _, 0, _, rfl, rfl, SqT.of ha, rfl, rfl, _, rfl, iteF ?_⟩
    refine ⟨_, rfl, a, _, 0, _, rfl, rfl, SqT.of ha, rfl, z3, fun t ht => ⟨t, _, rfl, .inr (SqT.of upd_same), rfl, flat_strs ["not", "minus", "length"], _, rfl, in_strs (l := ["not", "minus", "length"]) (fun _ => ?_) (fun h => absurd (show ("length" : Str) ∈ (["not", "minus", "length"] : List Str) by decide +kernel) h)⟩⟩
    have u1 := same_upd (o := .tup ((["not", "minus", "length"] : List Str).map V.str)) ht
    refine ⟨_, rfl, a, _, 1, _, rfl, rfl, SqT.of (u1 _ _ ha), rfl, z1, fun l hl => ?_⟩
    have u := u1.trans (same_upd (o := .lst [vx]) hl)
    exact q l _ _ u (none_back u1 hl) upd_same (.cons (hx.keep fun a xs e => u a _ e) .nil)
end
section
variable {P : Program} {w : World} {K : PySem.W.Frag} {mg : Str → Option Value} {base : Heap}
theorem paired_app {α β : Type} {F : α → β → Prop} : ∀ {a : List α} {b : List β} {c : List α} {d : List β}, Paired F a b → Paired F c d → Paired F (a ++ c) (b ++ d)
  | _, _, _, _, .nil, h => h
  | _, _, _, _, .cons x t, h => .cons x (paired_app t h)
theorem paired_at {α β : Type} {F : α → β → Prop} : ∀ {a : List α} {b : List β}, Paired F a b → ∀ {i : Nat} {x : α}, a[i]? = some x → ∃ y, b[i]? = some y ∧ F x y
  | _, _, .nil, i, x, h => by simp at h
  | _, _, .cons f t, 0, x, h => by
    cases h
    exact ⟨_, rfl, f⟩
  | _, _, .cons f t, i + 1, x, h => paired_at t (i := i) (by simpa using h)
theorem paired_keep {H H' : Hp} {xs : List V} {es : List Ex} (h : Paired (ExAt H) xs es) (k : ∀ (a : Addr) (xs : List V), H a = some (.tup xs) → H' a = some (.tup xs)) : Paired (ExAt H') xs es := Paired.mapP h fun a b q => ExAt.keep k q
/-! ### rows_of_parts -/
def spRows : Sp := fun vs H Q _ => ∃ (v : V) (e : Ex), vs = [v] ∧ ExAt H v e ∧ e.size ≤ 10000 ∧ ∀ (l : Addr) (rs : List (Addr × Nat)) (H' : Hp), Same H H' → H' l = some (.lst (rs.map fun r => .ref r.1)) → (∀ r ∈ rs, ∃ xs, H' r.1 = some (.lst xs) ∧ xs.length = r.2) → rs.map (·.2) = rowsL e.dep [e] → Q (.ref l) H'
abbrev N_rows_of_parts : List Str := ["told", "rows", "row", "whole", "part"]
theorem sc_rows : FnScope N_rows_of_parts ["told"] (defScope s_rows_of_parts) := ⟨rfl, rfl, rfl, by decide +kernel, rfl, by decide +kernel, by decide +kernel⟩
theorem ok_rows {f : Addr} {fd : FuncData} (F : Fun K "rows_of_parts" "rows_of_parts" s_rows_of_parts f fd) (m_len : mg "len" = none) (G_parts_of : Ready P w K mg base 1 "parts_of" ["told"] spParts) : FnOk P w K mg base CX0 2 f fd ["told"] spRows := by
  refine F.ok sc_rows (fun vs H Q E h => ?_) (fun cdv A outer s H vs Q E hr h => ?_)
  · obtain ⟨v, e, rfl, _⟩ := h
    rfl
  obtain ⟨v, e, rfl, hx, hsz, q⟩ := h
  have nd := sc_rows.nd
  have hr1 : Room 1 _ := hr
  have z0 : 0 ≤ sizeLine := by decide
  have z1 : 1 ≤ sizeLine := by decide
  refine ⟨_, pss_cons (ps_set (i := 1) nd rfl (.inl rfl) (pe_lst pa_nil))
      (pss_cons (ps_set (i := 2) nd rfl (.inl rfl) (pe_lst (pa_cons (pv 0) pa_nil)))
      (pss_cons (ps_while PassesOwn.never (pt_cmpR op_gt (pe_callB call_len_seq (by rfl) m_len PySem.boot_len (pa_cons (pv 2) pa_nil)) pe_int (nomark _)) (pss_cons (ps_expr (pe_bm PySem.F.plainAttrs_list PySem.F.slot_list_append PySem.F.type_list_append mt_append (pv 1) (pa_cons (pv 2) pa_nil)))
      (pss_one (ps_setLc2 (i := 2) (own := [("whole", 3), ("part", 4)]) (vs1 := [4]) (g := gName 3) (tt := tYes) (wi1 := iList K (tCall spParts [] E0 (tCons (tVar 3) tNil))) (g1 := gName 4) (tt1 := tYes) (te := tVar 4) rfl nd rfl rfl (sw_true rfl rfl rfl (by decide +kernel)) (pi_list (pv 2)) (blkOk_by (N := N_rows_of_parts) (sc := defScope s_rows_of_parts) (by decide +kernel)) (by decide) (fun _ _ _ _ _ => pg_name (i := 3) nd rfl (Or.inl rfl)) (fun _ _ _ _ _ => pts_nil) (fun _ _ _ _ _ => pi_list (pe_fn G_parts_of hr1 (pa_cons (pv 3) pa_nil))) (fun _ _ _ _ _ => pg_name (i := 4) nd rfl (Or.inl rfl)) (fun _ _ _ _ _ => pts_nil) (fun _ _ _ _ _ => (pv 4))))))
      (pss_one (ps_ret (pv 1))))), ?_⟩
  refine ⟨z0, fun R hR => ?_⟩
  have s1 := same_upd (o := .lst []) hR
  have eR1 : upd H R (.lst []) R = some (.lst []) := upd_same
  generalize upd H R (.lst []) = H1 at s1 eR1 ⊢
  refine ⟨_, rfl, z1, fun r0 hr0 => ?_⟩
  have s2 := same_upd (o := .lst [v]) hr0
  have er0 : upd H1 r0 (.lst [v]) r0 = some (.lst [v]) := upd_same
  have n0 : r0 ≠ R := (ne_of_none eR1 hr0).symm
  replace eR1 := s2 _ _ eR1
  replace s1 := s1.trans s2
  generalize upd H1 r0 (.lst [v]) = H2 at s1 er0 eR1 ⊢
  clear s2 hr0
  let Inv : Nat → L2.St → Hp → Prop := fun mm σ H' => ∃ (rs : List (Addr × Nat)) (r : Addr) (xs : List V) (es : List Ex) (y3 y4 : Option V), σ = [some v, some (.ref R), some (.ref r), y3, y4] ∧ Same H H' ∧ H' R = some (.lst (rs.map fun r => .ref r.1)) ∧ (∀ r ∈ rs, r.1 ≠ R ∧ ∃ xs, H' r.1 = some (.lst xs) ∧ xs.length = r.2) ∧ H' r = some (.lst xs) ∧ r ≠ R ∧ Paired (ExAt H') xs es ∧ mdep es ≤ mm ∧ sumS es + rs.length ≤ 10000 ∧ rs.map (·.2) ++ rowsL mm es = rowsL e.dep [e]
  refine ⟨Inv, ⟨e.dep, [], r0, [v], [e], none, none, rfl, s1, eR1, fun r h => absurd h List.not_mem_nil, er0, n0, .cons (ExAt.keep (fun a xs e => s1 a _ e) hx) .nil, by show max e.dep 0 ≤ _; omega, by show e.size + 0 + 0 ≤ _; omega, rfl⟩, ?_⟩
  rintro mm σ H' ⟨rs, r, xs, es, y3, y4, rfl, sm, eR, hrs, er, nr, hp, hd, hs, hrow⟩
  have lx : xs.length = es.length := Paired.length hp
  refine ⟨_, rfl, r, _, rfl, .inl (SqL.of er), _, _, rfl, rfl, _, rfl, ite2 (fun c => ?_) (fun c => ?_)⟩
  · obtain ⟨e0, es', rfl⟩ : ∃ e0 es', es = e0 :: es' := by
      cases es with
      | nil =>
        have := of_decide_eq_true c
        rw [lx] at this
        exact absurd this (by decide)
      | cons a b => exact ⟨a, b, rfl⟩
    have nd1 := next_dep e0 es'
    have ns1 := next_size (e0 :: es')
    have ll := len_sum (e0 :: es')
    obtain ⟨f', rfl⟩ : ∃ f', mm = f' + 1 := ⟨mm - 1, by omega⟩
    refine ⟨fun σ' G => ∃ m', m' < f' + 1 ∧ Inv m' σ' G, fun σ' G h => h, ?_⟩
    refine ⟨_, rfl, .inl ⟨rfl, _, SqL.of eR⟩, _, rfl, R, _, _, rfl, rfl, eR, Nat.lt_of_le_of_lt (show _ ≤ 10000 by rw [List.length_map]; omega) (by decide), ?_⟩
    have eR3 : upd H' R (.lst ((rs.map fun r => V.ref r.1) ++ [.ref r])) R = some (.lst ((rs ++ [(r, xs.length)]).map fun r => V.ref r.1)) := by
      rw [upd_same, List.map_append]
      rfl
    have b3 : But R H' (upd H' R (.lst ((rs.map fun r => V.ref r.1) ++ [.ref r]))) := fun a o ha e => by
      rw [upd_ne ha]
      exact e
    generalize upd H' R (.lst ((rs.map fun r => V.ref r.1) ++ [.ref r])) = H3 at eR3 b3 ⊢
    have er3 := b3 _ _ nr er
    have k3 : ∀ (a : Addr) (xs : List V), H' a = some (.tup xs) → H3 a = some (.tup xs) := fun a xs e => b3 a _ (fun z => by rw [z, eR] at e; cases e) e
    have hp3 := paired_keep hp k3
    have sm3 : Same H H3 := fun a o e => b3 a o (ne_of_none e hR) (sm _ _ e)
    have hrs3 : ∀ x ∈ rs ++ [(r, xs.length)], x.1 ≠ R ∧ ∃ ys, H3 x.1 = some (.lst ys) ∧ ys.length = x.2 := fun x hx => by
      rcases List.mem_append.mp hx with hx | hx
      · obtain ⟨a, ys, b, c⟩ := hrs x hx
        exact ⟨a, ys, b3 _ _ a b, c⟩
      · rw [List.mem_singleton.mp hx]
        exact ⟨nr, xs, er3, rfl⟩
    clear b3 k3
    refine ⟨_, rfl, r, rfl, ⟨_, SqL.of er3⟩, fun D hD => ?_⟩
    let Pv : Nat → Hp → Prop := fun i G => Same H3 G ∧ ∃ ys, G D = some (.lst ys) ∧ Paired (ExAt G) ys (nextR ((e0 :: es').take i))
    refine ⟨fun i m G => m = xs.length - i ∧ i ≤ xs.length ∧ Pv i G, ⟨_, rfl, Nat.zero_le _, same_upd hD, [], upd_same, .nil⟩, ?_⟩
    rintro i m G ⟨rfl, hi, sG, ys, eD, hy⟩
    have sq : SqL K G r xs := SqL.of (sG _ _ er3)
    by_cases hlt : i < xs.length
    · refine .inr ⟨walk_list.goes i G hlt sq, fun G' => Pv (i + 1) G', fun G' p' => ⟨xs.length - (i + 1), by omega, rfl, hlt, p'⟩, fun x G' y => ?_⟩
      obtain ⟨rfl, hx'⟩ := walk_list.yields i G x G' hlt sq y
      obtain ⟨ei, he, hxe⟩ := paired_at (paired_keep hp3 fun a xs e => sG a _ e) hx'
      have tk : (e0 :: es').take (i + 1) = (e0 :: es').take i ++ [ei] := by
        rw [List.take_add_one, he]
        rfl
      have tn : nextR ((e0 :: es').take (i + 1)) = nextR ((e0 :: es').take i) ++ ei.parts := by
        rw [tk]
        simp [nextR]
      refine ⟨rfl, _, rfl, x, ei, rfl, hxe, fun l zs H4 s4 hl0 el hz => ?_⟩
      have eD4 := s4 _ _ eD
      have hy4 := paired_keep hy fun a xs e => s4 a _ e
      have nl : l ≠ D := fun z => by
        rw [z, eD] at hl0
        cases hl0
      have size : (ys ++ zs).length ≤ 10000 := by
        have h1 := Paired.length hy4
        have h2 := Paired.length hz
        have h3 : (nextR ((e0 :: es').take (i + 1))).length ≤ (nextR (e0 :: es')).length := by
          conv => rhs; rw [← List.take_append_drop (i + 1) (e0 :: es')]
          unfold nextR
          rw [List.flatMap_append, List.length_append]
          exact Nat.le_add_right _ _
        have h4 := len_sum (nextR (e0 :: es'))
        rw [tn, List.length_append] at h3
        rw [List.length_append]
        omega
      refine ⟨l, rfl, ⟨_, SqL.of el⟩, fun j k G5 => k = zs.length - j ∧ j ≤ zs.length ∧ But D H4 G5 ∧ G5 D = some (.lst (ys ++ zs.take j)), ⟨_, rfl, Nat.zero_le _, But.refl _ _, by rw [eD4, List.take_zero, List.append_nil]⟩, ?_⟩
      rintro j k G5 ⟨rfl, hj, b5, e5⟩
      have sq5 : SqL K G5 l zs := SqL.of (b5 _ _ nl el)
      have k5 : ∀ (a : Addr) (xs : List V), H4 a = some (.tup xs) → G5 a = some (.tup xs) := fun a xs e => b5 a _ (fun z => by rw [z, eD4] at e; cases e) e
      by_cases hlj : j < zs.length
      · refine .inr ⟨walk_list.goes j G5 hlj sq5, fun G6 => j + 1 ≤ zs.length ∧ But D H4 G6 ∧ G6 D = some (.lst (ys ++ zs.take (j + 1))), fun G6 p6 => ⟨zs.length - (j + 1), by omega, rfl, p6⟩, fun x6 G6 y6 => ?_⟩
        obtain ⟨rfl, hx6⟩ := walk_list.yields j G5 x6 G6 hlj sq5 y6
        refine ⟨rfl, _, rfl, _, e5, ?_, hlj, b5.trans but_upd, ?_⟩
        · refine Nat.lt_of_le_of_lt (show _ ≤ 10000 from ?_) (by decide)
          rw [List.length_append, List.length_take]
          rw [List.length_append] at size
          omega
        · rw [upd_same, List.take_add_one, hx6, List.append_assoc]
          rfl
      · have ej : j = zs.length := by omega
        subst ej
        refine .inl ⟨walk_list.stops G5 sq5, fun a o e => b5 a o (ne_of_none e hD) (s4 _ _ (sG _ _ e)), ys ++ zs, by rw [e5, List.take_length], ?_⟩
        rw [tn]
        exact paired_app (paired_keep hy4 k5) (paired_keep hz k5)
    · have ei : i = xs.length := by omega
      subst ei
      refine .inl ⟨walk_list.stops G sq, ?_⟩
      rw [lx, List.take_length] at hy
      refine ⟨f', by omega, rs ++ [(r, xs.length)], D, ys, nextR (e0 :: es'), y3, y4, rfl, fun a o e => sG _ _ (sm3 _ _ e), sG _ _ eR3, fun x hx => ?_, eD, (ne_of_none eR3 hD).symm, hy, by omega, ?_, ?_⟩
      · obtain ⟨a, zs, b, c⟩ := hrs3 x hx
        exact ⟨a, zs, sG _ _ b, c⟩
      · rw [List.length_append]
        have : (e0 :: es').length = es'.length + 1 := rfl
        show _ + (rs.length + 1) ≤ 10000
        omega
      · rw [← hrow, List.map_append, List.append_assoc, lx]
        rfl
  · have e0 : es = [] := by
      cases es with
      | nil => rfl
      | cons a b => exact absurd (decide_eq_true (by rw [lx]; exact Int.natCast_pos.mpr (Nat.succ_pos _))) c
    subst e0
    rw [rows_nil, List.append_nil] at hrow
    exact ⟨_, rfl, q R rs H' sm eR (fun r hr => (hrs r hr).2) hrow⟩
end
section
variable {P : Program} {w : World} {K : PySem.W.Frag} {mg : Str → Option Value} {base : Heap}
theorem dep_size : ∀ e : Ex, e.dep ≤ e.size
  | .two _ a b => by
    have h1 := dep_size a
    have h2 := dep_size b
    show max a.dep b.dep + 1 ≤ a.size + b.size + 1
    omega
  | .nt a => Nat.succ_le_succ (dep_size a)
  | .mn a => Nat.succ_le_succ (dep_size a)
  | .ln a => Nat.succ_le_succ (dep_size a)
  | .num _ => Nat.le_refl 1
  | .quo _ => Nat.le_refl 1
  | .col _ => Nat.le_refl 1
theorem rows_len : ∀ (f : Nat) (r : List Ex), (rowsL f r).length ≤ f
  | 0, _ => Nat.le_refl _
  | _ + 1, [] => Nat.zero_le _
  | f + 1, e :: r => Nat.succ_le_succ (rows_len f _)
def spMany : Sp := fun vs H Q _ => ∃ (v : V) (e : Ex), vs = [v] ∧ ExAt H v e ∧ e.size ≤ 10000 ∧ ∀ H', Same H H' → Q (.int ((rowsL e.dep [e]).sum : Nat)) H'
abbrev N_how_many : List Str := ["told", "row"]
theorem sc_many : FnScope N_how_many ["told"] (defScope s_how_many) := ⟨rfl, rfl, rfl, by decide +kernel, rfl, by decide +kernel, by decide +kernel⟩
def teLen (K : PySem.W.Frag) (i : Nat) : TE := tCB (fun xs H Q => ∃ p ys, xs = [.ref p] ∧ (SqL K H p ys ∨ SqT K H p ys) ∧ Q (.int ys.length) H) (tCons (tVar i) tNil)
theorem sum_cast : ∀ l : List Nat, ((l.map fun n : Nat => (n : Int)).sum) = ((l.sum : Nat) : Int)
  | [] => rfl
  | a :: l => by
    show (a : Int) + (l.map fun n : Nat => (n : Int)).sum = ((a + l.sum : Nat) : Int)
    rw [sum_cast l]
    omega
theorem ok_many {f : Addr} {fd : FuncData} (F : Fun K "how_many" "how_many" s_how_many f fd) (m_len : mg "len" = none) (m_sum : mg "sum" = none) (G_rows : Ready P w K mg base 2 "rows_of_parts" ["told"] spRows) : FnOk P w K mg base CX0 3 f fd ["told"] spMany := by
  refine F.ok sc_many (fun vs H Q E h => ?_) (fun cdv A outer s H vs Q E hr h => ?_)
  · obtain ⟨v, e, rfl, _⟩ := h
    rfl
  obtain ⟨v, e, rfl, hx, hsz, q⟩ := h
  have nd := sc_many.nd
  have hr2 : Room 2 _ := hr
  refine ⟨_, pss_one (ps_ret (pe_callB (cr_sum rfl) (by rfl) m_sum boot_sum (pa_cons (pe_lc (own := [("row", 1)]) (g := gName 1) (tt := tYes) (te := teLen K 1) rfl nd (pi_list (pe_fn G_rows hr2 (pa_cons (pv 0) pa_nil))) (blkOk_by (N := N_how_many) (sc := defScope s_how_many) (by decide +kernel)) (fun _ _ _ _ _ => pg_name (i := 1) nd rfl (Or.inl rfl)) (fun _ _ _ _ _ => pts_nil) (fun _ _ _ _ _ => (pe_callB call_len_seq (by rfl) m_len PySem.boot_len (pa_cons (pv 1) pa_nil)))) pa_nil))), ?_⟩
  refine ⟨_, rfl, v, e, rfl, hx, hsz, fun l rs H1 s1 el hrs hmap => ⟨l, rfl, ⟨_, SqL.of el⟩, fun D hD => ?_⟩⟩
  refine lc_list (K := K) (a := l) (xs := rs.map fun r => .ref r.1) (fun i G => Same H1 G ∧ G D = some (.lst ((((rs.map (·.2)).map fun n : Nat => (n : Int)).take i).map V.int))) ⟨same_upd hD, upd_same⟩ (fun i G _ h => SqL.of (h.1 _ _ el)) ?_ ?_
  · rintro i x G hx ⟨sm, eD⟩
    rw [List.getElem?_map] at hx
    obtain ⟨r, hr', rfl⟩ := Option.map_eq_some_iff.mp hx
    obtain ⟨xs, er, lx⟩ := hrs r (List.mem_of_getElem? hr')
    have tk : (((rs.map (·.2)).map fun n : Nat => (n : Int))).take (i + 1) = (((rs.map (·.2)).map fun n : Nat => (n : Int))).take i ++ [(xs.length : Int)] := by
      rw [List.take_add_one, List.getElem?_map, List.getElem?_map, hr', lx]
      rfl
    have lr : rs.length ≤ 10000 := by
      have h := congrArg List.length hmap
      rw [List.length_map] at h
      have h2 := rows_len e.dep [e]
      have h3 := dep_size e
      omega
    refine ⟨rfl, _, rfl, r.1, _, rfl, .inl (SqL.of (sm _ _ er)), _, eD, Nat.lt_of_le_of_lt (show _ ≤ 10000 by rw [List.length_map, List.length_take, List.length_map, List.length_map]; omega) (by decide), fun b o ex => ?_, ?_⟩
    · rw [upd_ne (ne_of_none ex hD)]
      exact sm _ _ ex
    · rw [tk, List.map_append]
      exact upd_same
  · rintro G ⟨sm, eD⟩
    rw [List.length_map, List.take_of_length_le (by rw [List.length_map, List.length_map]; exact Nat.le_refl _)] at eD
    refine ⟨D, _, rfl, SqL.of eD, ?_⟩
    rw [sum_cast, hmap]
    exact q _ (s1.trans sm)
def spDeep : Sp := fun vs H Q _ => ∃ (v : V) (e : Ex), vs = [v] ∧ ExAt H v e ∧ e.size ≤ 10000 ∧ ∀ H', Same H H' → Q (.int ((rowsL e.dep [e]).length : Nat)) H'
theorem sc_deep : FnScope ["told"] ["told"] (defScope s_how_deep) := ⟨rfl, rfl, rfl, by decide +kernel, rfl, by decide +kernel, by decide +kernel⟩
theorem ok_deep {f : Addr} {fd : FuncData} (F : Fun K "how_deep" "how_deep" s_how_deep f fd) (m_len : mg "len" = none) (G_rows : Ready P w K mg base 2 "rows_of_parts" ["told"] spRows) : FnOk P w K mg base CX0 3 f fd ["told"] spDeep := by
  refine F.ok sc_deep (fun vs H Q E h => ?_) (fun cdv A outer s H vs Q E hr h => ?_)
  · obtain ⟨v, e, rfl, _⟩ := h
    rfl
  obtain ⟨v, e, rfl, hx, hsz, q⟩ := h
  have hr2 : Room 2 _ := hr
  refine ⟨_, pss_one (ps_ret (pe_callB call_len_seq (by rfl) m_len PySem.boot_len (pa_cons (pe_fn G_rows hr2 (pa_cons (pv 0) pa_nil)) pa_nil))), ?_⟩
  refine ⟨_, rfl, v, e, rfl, hx, hsz, fun l rs H1 s1 el hrs hmap => ⟨l, _, rfl, .inl (SqL.of el), ?_⟩⟩
  have h := congrArg List.length hmap
  rw [List.length_map] at h
  rw [List.length_map, h]
  exact q _ s1
def spLarge : Sp := fun vs H Q _ => ∃ (v : V) (e : Ex), vs = [v] ∧ ExAt H v e ∧ e.size ≤ 10000 ∧ ∀ H', Same H H' → Q (.bl (largeE e)) H'
theorem sc_large : FnScope ["told"] ["told"] (defScope s_is_large) := ⟨rfl, rfl, rfl, by decide +kernel, rfl, by decide +kernel, by decide +kernel⟩
theorem ok_large {f : Addr} {fd : FuncData} (F : Fun K "is_large" "is_large" s_is_large f fd) (m_1 : ∃ t, mg "MOST_IN_ONE" = some (.int 80 t)) (m_2 : ∃ t, mg "MOST_WITHIN" = some (.int 40 t)) (G_many : Ready P w K mg base 3 "how_many" ["told"] spMany) (G_deep : Ready P w K mg base 3 "how_deep" ["told"] spDeep) : FnOk P w K mg base CX0 4 f fd ["told"] spLarge := by
  refine F.ok sc_large (fun vs H Q E h => ?_) (fun cdv A outer s H vs Q E hr h => ?_)
  · obtain ⟨v, e, rfl, _⟩ := h
    rfl
  obtain ⟨v, e, rfl, hx, hsz, q⟩ := h
  obtain ⟨t1, m1⟩ := m_1
  obtain ⟨t2, m2⟩ := m_2
  have hr3 : Room 3 _ := hr
  refine ⟨_, pss_one (ps_ret (pe_or (pe_cmpR op_gt (pe_fn G_many hr3 (pa_cons (pv 0) pa_nil)) (pe_glob (v := .int 80) rfl m1 ⟨_, rfl⟩) (nomark _)) (pe_one (pe_cmpR op_gt (pe_fn G_deep hr3 (pa_cons (pv 0) pa_nil)) (pe_glob (v := .int 40) rfl m2 ⟨_, rfl⟩) (nomark _))))), ?_⟩
  refine ⟨_, rfl, v, e, rfl, hx, hsz, fun H1 s1 => ⟨_, _, rfl, rfl, _, rfl, ?_⟩⟩
  unfold largeE at q
  refine ite2 (fun c => ?_) (fun c => ?_)
  · rw [decide_eq_true (show 80 < (rowsL e.dep [e]).sum by have := of_decide_eq_true c; omega), Bool.true_or] at q
    exact q _ s1
  · rw [decide_eq_false (show ¬ 80 < (rowsL e.dep [e]).sum from fun h => c (decide_eq_true (by omega))), Bool.false_or] at q
    refine ⟨_, rfl, v, e, rfl, ExAt.keep (fun a xs h => s1 a _ h) hx, hsz, fun H2 s2 => ⟨_, _, rfl, rfl, ?_⟩⟩
    have e1 : decide (((rowsL e.dep [e]).length : Int) > 40) = decide (40 < (rowsL e.dep [e]).length) := decide_eq_decide.mpr (by omega)
    have h := q _ (s1.trans s2)
    rw [← e1] at h
    exact h
end
end Kx

namespace Kx
open PySem PySem.Spec PyProof.Rows L2
/-! ### expressions: the columns that are used, other ones put in their place -/
def usedC : Ex → List Str
  | .col x => [x]
  | .two _ a b => usedC a ++ usedC b
  | .nt a => usedC a
  | .mn a => usedC a
  | .ln a => usedC a
  | _ => []
def subE (m : Str → Ex) : Ex → Ex
  | .col x => m x
  | .two op a b => .two op (subE m a) (subE m b)
  | .nt a => .nt (subE m a)
  | .mn a => .mn (subE m a)
  | .ln a => .ln (subE m a)
  | e => e
theorem kind_congr {kf kf' : Str → Option Bool} : ∀ {e : Ex}, (∀ x ∈ usedC e, kf x = kf' x) → kindE kf e = kindE kf' e
  | .num _, _ => rfl
  | .quo _, _ => rfl
  | .col x, h => h x List.mem_cons_self
  | .two op a b, h => by
    show twoK op (kindE kf a) (kindE kf b) = twoK op (kindE kf' a) (kindE kf' b)
    rw [kind_congr (e := a) fun x hx => h x (List.mem_append_left _ hx), kind_congr (e := b) fun x hx => h x (List.mem_append_right _ hx)]
  | .nt a, h => congrArg (oneK true) (kind_congr (e := a) h)
  | .mn a, h => congrArg (oneK true) (kind_congr (e := a) h)
  | .ln a, h => congrArg (oneK false) (kind_congr (e := a) h)
theorem oneK_some {w : Bool} {o : Option Bool} {b : Bool} (h : oneK w o = some b) : o = some w := by
  unfold oneK at h
  split at h
  · assumption
  · cases h
theorem twoK_some {op : Str} {a b : Option Bool} {c : Bool} (h : twoK op a b = some c) : ∃ x y, a = some x ∧ b = some y := by
  cases a with
  | none => cases h
  | some x =>
    cases b with
    | none => cases h
    | some y => exact ⟨x, y, rfl, rfl⟩
theorem kind_used {kf : Str → Option Bool} : ∀ {e : Ex} {b : Bool}, kindE kf e = some b → ∀ x ∈ usedC e, (kf x).isSome = true
  | .num _, _, _, x, hx => by cases hx
  | .quo _, _, _, x, hx => by cases hx
  | .col y, b, h, x, hx => by
    rw [List.mem_singleton.mp hx, show kf y = some b from h]
    rfl
  | .two op a c, b, h, x, hx => by
    obtain ⟨p, q, h1, h2⟩ := twoK_some h
    rcases List.mem_append.mp hx with hx | hx
    · exact kind_used h1 x hx
    · exact kind_used h2 x hx
  | .nt a, b, h, x, hx => kind_used (oneK_some h) x hx
  | .mn a, b, h, x, hx => kind_used (oneK_some h) x hx
  | .ln a, b, h, x, hx => kind_used (oneK_some h) x hx
theorem kind_sub {kf kf' : Str → Option Bool} {m : Str → Ex} : ∀ {e : Ex}, (∀ x ∈ usedC e, kindE kf (m x) = kf' x) → kindE kf (subE m e) = kindE kf' e
  | .num _, _ => rfl
  | .quo _, _ => rfl
  | .col x, h => h x List.mem_cons_self
  | .two op a b, h => by
    show twoK op (kindE kf (subE m a)) (kindE kf (subE m b)) = twoK op (kindE kf' a) (kindE kf' b)
    rw [kind_sub (e := a) fun x hx => h x (List.mem_append_left _ hx), kind_sub (e := b) fun x hx => h x (List.mem_append_right _ hx)]
  | .nt a, h => congrArg (oneK true) (kind_sub (e := a) h)
  | .mn a, h => congrArg (oneK true) (kind_sub (e := a) h)
  | .ln a, h => congrArg (oneK false) (kind_sub (e := a) h)
theorem used_sub {m : Str → Ex} : ∀ {e : Ex} {x : Str}, x ∈ usedC (subE m e) → ∃ y ∈ usedC e, x ∈ usedC (m y)
  | .num _, x, h => by cases h
  | .quo _, x, h => by cases h
  | .col y, x, h => ⟨y, List.mem_cons_self, h⟩
  | .two op a b, x, h => by
    rcases List.mem_append.mp h with h | h
    · obtain ⟨y, hy, hx⟩ := used_sub h
      exact ⟨y, List.mem_append_left _ hy, hx⟩
    · obtain ⟨y, hy, hx⟩ := used_sub h
      exact ⟨y, List.mem_append_right _ hy, hx⟩
  | .nt a, x, h => used_sub (e := a) h
  | .mn a, x, h => used_sub (e := a) h
  | .ln a, x, h => used_sub (e := a) h
/-! ### environments -/
theorem known_in_app {k l : List (Str × List NC)} {x : Str} (h : x ∈ k.map (·.1)) : known (k ++ l) x = known k x := by
  unfold known
  rw [List.find?_append]
  cases e : k.find? (fun e => decide (e.1 = x)) with
  | some y => rfl
  | none =>
    exfalso
    obtain ⟨y, hy, hx⟩ := List.mem_map.mp h
    have := List.find?_eq_none.mp e y hy
    exact this (decide_eq_true hx)
theorem known_out_app {k l : List (Str × List NC)} {x : Str} (h : x ∉ k.map (·.1)) : known (k ++ l) x = known l x := by
  unfold known
  rw [List.find?_append]
  have : k.find? (fun e => decide (e.1 = x)) = none := List.find?_eq_none.mpr fun y hy z => h (List.mem_map.mpr ⟨y, hy, of_decide_eq_true z⟩)
  rw [this]
  rfl
theorem known_one (x : Str) (cs : List NC) : known [(x, cs)] x = cs := by
  unfold known
  rw [List.find?_cons, decide_eq_true (rfl : ((x, cs) : Str × List NC).1 = x)]
  rfl
/-- what k1 tells of the names with P, k2 tells too -/
def Ext (P : Str → Prop) (k1 k2 : List (Str × List NC)) : Prop := ∀ x, P x → x ∈ k1.map (·.1) → x ∈ k2.map (·.1) ∧ known k2 x = known k1 x
theorem Ext.refl (P : Str → Prop) (k : List (Str × List NC)) : Ext P k k := fun x _ h => ⟨h, rfl⟩
theorem Ext.app (P : Str → Prop) (k l : List (Str × List NC)) : Ext P k (k ++ l) := fun x _ h => ⟨by rw [List.map_append]; exact List.mem_append_left _ h, known_in_app h⟩
theorem Ext.trans {P : Str → Prop} {a b c : List (Str × List NC)} (h : Ext P a b) (k : Ext P b c) : Ext P a c := fun x p hx => by
  obtain ⟨h1, h2⟩ := h x p hx
  obtain ⟨k1, k2⟩ := k x p h1
  exact ⟨k1, k2.trans h2⟩
theorem Ext.snoc {P : Str → Prop} {a b : List (Str × List NC)} (h : Ext P a b) {n : Str} {cs : List NC} (ha : n ∉ a.map (·.1)) (hb : n ∉ b.map (·.1)) : Ext P (a ++ [(n, cs)]) (b ++ [(n, cs)]) := fun x p hx => by
  rw [List.map_append] at hx ⊢
  rcases List.mem_append.mp hx with hx | hx
  · obtain ⟨h1, h2⟩ := h x p hx
    exact ⟨List.mem_append_left _ h1, by rw [known_in_app h1, known_in_app hx, h2]⟩
  · have e : x = n := List.mem_singleton.mp hx
    subst e
    exact ⟨List.mem_append_right _ hx, by rw [known_out_app ha, known_out_app hb]⟩
theorem step_some {k : List (Str × List NC)} {s : Stp} {cs : List NC} (h : stepC k s = some cs) : s.name ∉ k.map (·.1) ∧ (∀ x ∈ s.ins, x ∈ k.map (·.1)) ∧ colsD (s.ins.map (known k)) s.det = some cs := by
  unfold stepC at h
  split at h
  · cases h
  · rename_i h1
    split at h
    · cases h
    · rename_i h2
      exact ⟨h1, fun x hx => Classical.byContradiction fun z => h2 ⟨x, hx, z⟩, h⟩
theorem step_of {k : List (Str × List NC)} {s : Stp} {cs : List NC} (h1 : s.name ∉ k.map (·.1)) (h2 : ∀ x ∈ s.ins, x ∈ k.map (·.1)) (h3 : colsD (s.ins.map (known k)) s.det = some cs) : stepC k s = some cs := by
  unfold stepC
  rw [if_neg h1, if_neg fun ⟨x, hx, z⟩ => z (h2 x hx)]
  exact h3
theorem step_ext {P : Str → Prop} {k1 k2 : List (Str × List NC)} {s : Stp} {cs : List NC} (h : stepC k1 s = some cs) (e : Ext P k1 k2) (hp : ∀ x ∈ s.ins, P x) (hn : s.name ∉ k2.map (·.1)) : stepC k2 s = some cs := by
  obtain ⟨_, h2, h3⟩ := step_some h
  refine step_of hn (fun x hx => (e x (hp x hx) (h2 x hx)).1) ?_
  rw [← h3]
  congr 1
  exact List.map_congr_left fun x hx => (e x (hp x hx) (h2 x hx)).2
theorem run_cons {k : List (Str × List NC)} {s : Stp} {ss : List Stp} {kn : List (Str × List NC)} (h : runC k (s :: ss) = .ok kn) : ∃ cs, stepC k s = some cs ∧ runC (k ++ [(s.name, cs)]) ss = .ok kn := by
  have h : (match stepC k s with | none => Except.error s.name | some cs => runC (k ++ [(s.name, cs)]) ss) = .ok kn := h
  cases e : stepC k s with
  | none => rw [e] at h; cases h
  | some cs => rw [e] at h; exact ⟨cs, rfl, h⟩
theorem run_step {k : List (Str × List NC)} {s : Stp} {ss : List Stp} {cs : List NC} (h : stepC k s = some cs) : runC k (s :: ss) = runC (k ++ [(s.name, cs)]) ss := by
  show (match stepC k s with | none => Except.error s.name | some cs => runC (k ++ [(s.name, cs)]) ss) = _
  rw [h]
theorem run_names : ∀ {ss : List Stp} {k kn : List (Str × List NC)}, runC k ss = .ok kn → kn.map (·.1) = k.map (·.1) ++ ss.map (·.name) ∧ (ss.map (·.name)).Nodup ∧ ∀ s ∈ ss, s.name ∉ k.map (·.1)
  | [], k, kn, h => by
    have : Except.ok k = (Except.ok kn : Except Str _) := h
    cases this
    exact ⟨by simp, List.nodup_nil, fun s hs => by cases hs⟩
  | s :: ss, k, kn, h => by
    obtain ⟨cs, h1, h2⟩ := run_cons h
    obtain ⟨a, b, c⟩ := run_names h2
    rw [List.map_append] at a c
    refine ⟨by rw [a, List.append_assoc]; rfl, List.nodup_cons.mpr ⟨fun z => ?_, b⟩, fun t ht => ?_⟩
    · obtain ⟨t, ht, e⟩ := List.mem_map.mp z
      exact c t ht (List.mem_append_right _ (List.mem_singleton.mpr e))
    · rcases List.mem_cons.mp ht with rfl | ht
      · exact (step_some h1).1
      · exact fun z => c t ht (List.mem_append_left _ z)
theorem run_split {a b : List Stp} {k kn : List (Str × List NC)} (h : runC k (a ++ b) = .ok kn) : ∃ ka, runC k a = .ok ka ∧ runC ka b = .ok kn := by
  rw [runC_append] at h
  cases e : runC k a with
  | error x => rw [e] at h; cases h
  | ok ka => rw [e] at h; exact ⟨ka, rfl, h⟩
theorem run_join {a b : List Stp} {k ka kn : List (Str × List NC)} (h1 : runC k a = .ok ka) (h2 : runC ka b = .ok kn) : runC k (a ++ b) = .ok kn := by
  rw [runC_append, h1]
  exact h2
theorem run_ext {P : Str → Prop} : ∀ {ss : List Stp} {k1 k2 kn : List (Str × List NC)}, runC k1 ss = .ok kn → Ext P k1 k2 → (∀ s ∈ ss, (∀ x ∈ s.ins, P x) ∧ s.name ∉ k2.map (·.1)) → ∃ kn2, runC k2 ss = .ok kn2 ∧ Ext P kn kn2
  | [], k1, k2, kn, h, e, _ => by
    have : Except.ok k1 = (Except.ok kn : Except Str _) := h
    cases this
    exact ⟨k2, rfl, e⟩
  | s :: ss, k1, k2, kn, h, e, hs => by
    obtain ⟨cs, h1, h2⟩ := run_cons h
    have hn := (run_names h).2.1
    obtain ⟨hs1, hs2⟩ := hs s List.mem_cons_self
    have h3 := step_ext h1 e hs1 hs2
    obtain ⟨kn2, h4, h5⟩ := run_ext (ss := ss) h2 (e.snoc (step_some h1).1 hs2) fun t ht => ⟨(hs t (List.mem_cons_of_mem _ ht)).1, fun z => by
      rw [List.map_append] at z
      rcases List.mem_append.mp z with z | z
      · exact (hs t (List.mem_cons_of_mem _ ht)).2 z
      · exact (List.nodup_cons.mp hn).1 (List.mem_map.mpr ⟨t, ht, List.mem_singleton.mp z⟩)⟩
    exact ⟨kn2, by rw [run_step h3]; exact h4, h5⟩
/-! ### a step told by its name -/
theorem split_at {ss : List Stp} {s : Stp} (h : s ∈ ss) : ∃ a b, ss = a ++ s :: b := List.append_of_mem h
theorem find_named {ss : List Stp} {nm : Str} {s : Stp} (h : ss.find? (fun s => decide (s.name = nm)) = some s) : s ∈ ss ∧ s.name = nm := ⟨List.mem_of_find?_eq_some h, of_decide_eq_true (List.find?_some (p := fun s : Stp => decide (s.name = nm)) h)⟩
theorem named_uniq {ss : List Stp} (nd : (ss.map (·.name)).Nodup) : ∀ {s t : Stp}, s ∈ ss → t ∈ ss → s.name = t.name → s = t := by
  induction ss with
  | nil => intro s t h; cases h
  | cons x r ih =>
    obtain ⟨h1, h2⟩ := List.nodup_cons.mp nd
    intro s t hs ht e
    rcases List.mem_cons.mp hs with hs | hs
    · rcases List.mem_cons.mp ht with ht | ht
      · rw [hs, ht]
      · exact absurd (List.mem_map.mpr ⟨t, ht, by rw [← e, hs]⟩) h1
    · rcases List.mem_cons.mp ht with ht | ht
      · exact absurd (List.mem_map.mpr ⟨s, hs, by rw [e, ht]⟩) h1
      · exact ih h2 hs ht e
theorem named_find {ss : List Stp} (nd : (ss.map (·.name)).Nodup) {s : Stp} (hs : s ∈ ss) : ss.find? (fun t => decide (t.name = s.name)) = some s := by
  cases e : ss.find? (fun t => decide (t.name = s.name)) with
  | none => exact absurd (decide_eq_true rfl) (List.find?_eq_none.mp e s hs)
  | some t =>
    obtain ⟨h1, h2⟩ := find_named e
    rw [named_uniq nd h1 hs h2]
/-- what a step ahead tells holds behind it -/
theorem told_behind {a : List Stp} {kp : List (Str × List NC)} (h : runC [] a = .ok kp) {t : Stp} (ht : t ∈ a) : t.name ∈ kp.map (·.1) ∧ (∀ x ∈ t.ins, x ∈ kp.map (·.1)) ∧ colsD (t.ins.map (known kp)) t.det = some (known kp t.name) := by
  obtain ⟨b, c, rfl⟩ := split_at ht
  obtain ⟨kb, h1, h2⟩ := run_split h
  obtain ⟨cs, h3, h4⟩ := run_cons h2
  obtain ⟨n1, n2, n3⟩ := step_some h3
  have e : Ext (fun _ => True) (kb ++ [(t.name, cs)]) kp := by
    have : ∀ {ss : List Stp} {k kn : List (Str × List NC)}, runC k ss = .ok kn → Ext (fun _ => True) k kn := by
      intro ss
      induction ss with
      | nil =>
        intro k kn h
        have : Except.ok k = (Except.ok kn : Except Str _) := h
        cases this
        exact Ext.refl _ _
      | cons s r ih =>
        intro k kn h
        obtain ⟨cs, _, h2⟩ := run_cons h
        exact (Ext.app _ k [(s.name, cs)]).trans (ih h2)
    exact this h4
  have e1 : Ext (fun _ => True) kb kp := (Ext.app _ _ _).trans e
  obtain ⟨m1, m2⟩ := e t.name trivial (by rw [List.map_append]; exact List.mem_append_right _ List.mem_cons_self)
  rw [known_out_app n1, known_one] at m2
  refine ⟨m1, fun x hx => (e1 x trivial (n2 x hx)).1, ?_⟩
  rw [m2, ← n3]
  congr 1
  exact List.map_congr_left fun x hx => (e1 x trivial (n2 x hx)).2
/-- steps put in the place of one -/
def inPlace (ss : List Stp) (nm : Str) (made : List Stp) : List Stp := ss.flatMap fun s => if s.name = nm then made else [s]
theorem place_none {ss : List Stp} {nm : Str} {made : List Stp} (h : ∀ s ∈ ss, s.name ≠ nm) : inPlace ss nm made = ss := by
  unfold inPlace
  induction ss with
  | nil => rfl
  | cons s r ih =>
    rw [List.flatMap_cons, if_neg (h s List.mem_cons_self), ih fun t ht => h t (List.mem_cons_of_mem _ ht)]
    rfl
theorem place_split {a b : List Stp} {s : Stp} {made : List Stp} (nd : ((a ++ s :: b).map (·.name)).Nodup) : inPlace (a ++ s :: b) s.name made = a ++ (made ++ b) := by
  rw [List.map_append, List.map_cons] at nd
  obtain ⟨_, n2, n3⟩ := List.nodup_append.mp nd
  unfold inPlace
  rw [List.flatMap_append, List.flatMap_cons, if_pos rfl]
  have h1 := place_none (nm := s.name) (made := made) (ss := a) fun t ht e => n3 t.name (List.mem_map.mpr ⟨t, ht, rfl⟩) s.name List.mem_cons_self e
  have h2 := place_none (nm := s.name) (made := made) (ss := b) fun t ht e => (List.nodup_cons.mp n2).1 (List.mem_map.mpr ⟨t, ht, e⟩)
  unfold inPlace at h1 h2
  rw [h1, h2]
/-- the whole job stays right when a step gives way to steps that tell the same -/
theorem replaced {a b : List Stp} {s : Stp} {made : List Stp} {kp kn kq : List (Str × List NC)} {cs : List NC} (h : runC [] (a ++ s :: b) = .ok kn) (ha : runC [] a = .ok kp) (hs : stepC kp s = some cs) (hm : runC kp made = .ok kq) (he : Ext (fun _ => True) (kp ++ [(s.name, cs)]) kq)
    (hf : ∀ t ∈ made, t.name = s.name ∨ t.name ∉ (a ++ s :: b).map (·.name)) : ∃ kn2, runC [] (a ++ (made ++ b)) = .ok kn2 ∧ Ext (fun _ => True) kn kn2 := by
  obtain ⟨ka, h1, h2⟩ := run_split h
  rw [ha] at h1
  cases h1
  obtain ⟨cs', h3, h4⟩ := run_cons h2
  rw [hs] at h3
  cases h3
  have nd := (run_names h).2.1
  have q1 := (run_names hm).1
  have a1 := (run_names ha).1
  obtain ⟨kn2, h5, h6⟩ := run_ext h4 he fun t ht => ⟨fun _ _ => trivial, fun z => by
    rw [q1, a1] at z
    rw [List.map_append, List.map_cons] at nd
    obtain ⟨n1, n2, n3⟩ := List.nodup_append.mp nd
    have tb : t.name ∈ b.map (·.name) := List.mem_map.mpr ⟨t, ht, rfl⟩
    rcases List.mem_append.mp z with z | z
    · exact n3 _ (by simpa using z) _ (List.mem_cons_of_mem _ tb) rfl
    · obtain ⟨u, hu, eu⟩ := List.mem_map.mp z
      rcases hf u hu with f | f
      · exact (List.nodup_cons.mp n2).1 (by rw [← f, eu]; exact tb)
      · exact f (by rw [eu, List.map_append, List.map_cons]; exact List.mem_append_right _ (List.mem_cons_of_mem _ tb))⟩
  exact ⟨kn2, run_join ha (run_join hm h5), h6⟩
end Kx

namespace Kx
open PySem PySem.Spec PyProof.Rows L2
/-! ### steps as data -/
def exD : Ex → PyData
  | .num i => .tuple [.str "number", .int i]
  | .quo z => .tuple [.str "quoted", .str z]
  | .col x => .tuple [.str "column", .str x]
  | .two op a b => .tuple [.str "two", .str op, exD a, exD b]
  | .nt a => .tuple [.str "not", exD a]
  | .mn a => .tuple [.str "minus", exD a]
  | .ln a => .tuple [.str "length", exD a]
def optD : Option Ex → PyData
  | none => .none
  | some e => exD e
def strsD (l : List Str) : PyData := .tuple (l.map PyData.str)
def twoD (x : Str × Str) : PyData := .tuple [.str x.1, .str x.2]
def detD : Det → PyData
  | .read cs => .tuple (cs.map fun c => twoD (c.1, kW c.2))
  | .filter e => exD e
  | .map ms => .tuple (ms.map fun m => .tuple [exD m.1, .str m.2.2])
  | .fold ks fs => .tuple [strsD (ks.map (·.1)), .tuple (fs.map fun f => .tuple [.str f.1, optD f.2.1, .str f.2.2.2])]
  | .join ks => strsD (ks.map (·.1))
  | .union => .tuple []
  | .unlike => .tuple []
  | .sort ws m => .tuple [.tuple (ws.map twoD), .int m]
def tailD (s : Stp) : PyData := .tuple [.str s.det.what, strsD s.ins, detD s.det]
def stpD (s : Stp) : PyData := .tuple [.str s.name, .str s.det.what, strsD s.ins, detD s.det]
mutual
/-- no truth value, no dict -/
def nb : PyData → Bool
  | .bool _ => false
  | .dict _ => false
  | .list xs => nbAll xs
  | .tuple xs => nbAll xs
  | _ => true
def nbAll : List PyData → Bool
  | [] => true
  | x :: xs => nb x && nbAll xs
end
mutual
theorem eqv_eq : ∀ d e : PyData, nb d = true → nb e = true → PyData.eqv d e = true → d = e
  | .none, e, _, _, h => by cases e <;> first | rfl | (simp [PyData.eqv] at h)
  | .bool _, _, hd, _, _ => by simp [nb] at hd
  | .dict _, _, hd, _, _ => by simp [nb] at hd
  | .int i, e, _, he, h => by
    cases e <;> first | (simp [nb] at he; done) | (simp [PyData.eqv] at h; done) | (simp [PyData.eqv] at h; rw [h])
  | .str i, e, _, he, h => by
    cases e <;> first | (simp [nb] at he; done) | (simp [PyData.eqv] at h; done) | (simp [PyData.eqv] at h; rw [h])
  | .list xs, e, hd, he, h => by
    cases e with
    | list ys => rw [eqvAll_eq xs ys (by simpa [nb] using hd) (by simpa [nb] using he) (by simpa [PyData.eqv] using h)]
    | _ => simp [PyData.eqv] at h
  | .tuple xs, e, hd, he, h => by
    cases e with
    | tuple ys => rw [eqvAll_eq xs ys (by simpa [nb] using hd) (by simpa [nb] using he) (by simpa [PyData.eqv] using h)]
    | _ => simp [PyData.eqv] at h
theorem eqvAll_eq : ∀ xs ys : List PyData, nbAll xs = true → nbAll ys = true → PyData.eqvAll xs ys = true → xs = ys
  | [], [], _, _, _ => rfl
  | [], _ :: _, _, _, h => by simp [PyData.eqvAll] at h
  | _ :: _, [], _, _, h => by simp [PyData.eqvAll] at h
  | x :: xs, y :: ys, hx, hy, h => by
    simp only [nbAll, Bool.and_eq_true] at hx hy
    simp only [PyData.eqvAll, Bool.and_eq_true] at h
    rw [eqv_eq x y hx.1 hy.1 h.1, eqvAll_eq xs ys hx.2 hy.2 h.2]
end
theorem nb_map {α : Type} {g : α → PyData} : ∀ {l : List α}, (∀ x ∈ l, nb (g x) = true) → nbAll (l.map g) = true
  | [], _ => by simp [nbAll]
  | x :: r, h => by
    rw [List.map_cons]
    simp only [nbAll, Bool.and_eq_true]
    exact ⟨h x List.mem_cons_self, nb_map fun y hy => h y (List.mem_cons_of_mem _ hy)⟩
theorem nb_tup {l : List PyData} (h : nbAll l = true) : nb (.tuple l) = true := by simpa [nb] using h
theorem nb_ex : ∀ e : Ex, nb (exD e) = true
  | .num _ => by simp [exD, nb, nbAll]
  | .quo _ => by simp [exD, nb, nbAll]
  | .col _ => by simp [exD, nb, nbAll]
  | .two _ a b => by simp [exD, nb, nbAll, nb_ex a, nb_ex b]
  | .nt a => by simp [exD, nb, nbAll, nb_ex a]
  | .mn a => by simp [exD, nb, nbAll, nb_ex a]
  | .ln a => by simp [exD, nb, nbAll, nb_ex a]
theorem nb_opt : ∀ o : Option Ex, nb (optD o) = true
  | none => by simp [optD, nb]
  | some e => nb_ex e
theorem nb_strs (l : List Str) : nb (strsD l) = true := nb_tup (nb_map fun x _ => by simp [nb])
theorem nb_det : ∀ d : Det, nb (detD d) = true
  | .read cs => nb_tup (nb_map fun x _ => by simp [twoD, nb, nbAll])
  | .filter e => nb_ex e
  | .map ms => nb_tup (nb_map fun x _ => by simp [nb, nbAll, nb_ex])
  | .fold ks fs => by
    have h := nb_tup (nb_map (l := fs) (g := fun f : FC => .tuple [.str f.1, optD f.2.1, .str f.2.2.2]) fun x _ => by simp [nb, nbAll, nb_opt])
    have h2 := nb_strs (ks.map (·.1))
    show nb (.tuple [strsD (ks.map (·.1)), _]) = true
    refine nb_tup ?_
    simp only [nbAll, Bool.and_eq_true]
    exact ⟨h2, h, trivial⟩
  | .join ks => nb_strs _
  | .union => by simp [detD, nb, nbAll]
  | .unlike => by simp [detD, nb, nbAll]
  | .sort ws m => by
    have h := nb_tup (nb_map (l := ws) (g := twoD) fun x _ => by simp [twoD, nb, nbAll])
    refine nb_tup ?_
    simp only [nbAll, Bool.and_eq_true]
    exact ⟨h, by simp [nb], trivial⟩
theorem nb_tail (s : Stp) : nb (tailD s) = true := by
  refine nb_tup ?_
  simp only [nbAll, Bool.and_eq_true]
  exact ⟨by simp [nb], nb_strs _, nb_det _, trivial⟩
theorem ex_inj : ∀ {a b : Ex}, exD a = exD b → a = b
  | .num x, b, h => by
    cases b with
    | num y => rw [PyData.int.inj (List.cons.inj (List.cons.inj (PyData.tuple.inj h)).2).1]
    | _ => exact absurd (PyData.str.inj (List.cons.inj (PyData.tuple.inj h)).1) (by decide +kernel)
  | .quo x, b, h => by
    cases b with
    | quo y => rw [PyData.str.inj (List.cons.inj (List.cons.inj (PyData.tuple.inj h)).2).1]
    | _ => exact absurd (PyData.str.inj (List.cons.inj (PyData.tuple.inj h)).1) (by decide +kernel)
  | .col x, b, h => by
    cases b with
    | col y => rw [PyData.str.inj (List.cons.inj (List.cons.inj (PyData.tuple.inj h)).2).1]
    | _ => exact absurd (PyData.str.inj (List.cons.inj (PyData.tuple.inj h)).1) (by decide +kernel)
  | .two op a c, b, h => by
    cases b with
    | two op' a' c' =>
      obtain ⟨h2, h3⟩ := List.cons.inj (List.cons.inj (PyData.tuple.inj h)).2
      obtain ⟨h4, h5⟩ := List.cons.inj h3
      rw [PyData.str.inj h2, ex_inj h4, ex_inj (List.cons.inj h5).1]
    | _ => exact absurd (PyData.str.inj (List.cons.inj (PyData.tuple.inj h)).1) (by decide +kernel)
  | .nt a, b, h => by
    cases b with
    | nt a' => rw [ex_inj (List.cons.inj (List.cons.inj (PyData.tuple.inj h)).2).1]
    | _ => exact absurd (PyData.str.inj (List.cons.inj (PyData.tuple.inj h)).1) (by decide +kernel)
  | .mn a, b, h => by
    cases b with
    | mn a' => rw [ex_inj (List.cons.inj (List.cons.inj (PyData.tuple.inj h)).2).1]
    | _ => exact absurd (PyData.str.inj (List.cons.inj (PyData.tuple.inj h)).1) (by decide +kernel)
  | .ln a, b, h => by
    cases b with
    | ln a' => rw [ex_inj (List.cons.inj (List.cons.inj (PyData.tuple.inj h)).2).1]
    | _ => exact absurd (PyData.str.inj (List.cons.inj (PyData.tuple.inj h)).1) (by decide +kernel)
end Kx

namespace Kx
open PySem PySem.Spec PyProof.Rows L2
/-! ### what stands alike tells the same columns -/
theorem map_factor {α β γ : Type} {g : α → β} {f : α → γ} (h : ∀ x y, g x = g y → f x = f y) : ∀ {l m : List α}, l.map g = m.map g → l.map f = m.map f
  | [], [], _ => rfl
  | [], _ :: _, e => by cases e
  | _ :: _, [], e => by cases e
  | x :: l, y :: m, e => by
    obtain ⟨e1, e2⟩ := List.cons.inj e
    rw [List.map_cons, List.map_cons, h x y e1, map_factor h e2]
theorem all_map {α : Type} (p : α → Bool) : ∀ l : List α, l.all p = (l.map p).all id
  | [] => rfl
  | x :: l => by rw [List.all_cons, List.map_cons, List.all_cons, all_map p l]; rfl
theorem strs_inj {a b : List Str} (h : strsD a = strsD b) : a = b := by
  have h2 : a.map PyData.str = b.map PyData.str := PyData.tuple.inj h
  have := map_factor (f := id) (fun x y e => PyData.str.inj e) h2
  rwa [List.map_id, List.map_id] at this
theorem opt_inj : ∀ {a b : Option Ex}, optD a = optD b → a = b
  | none, none, _ => rfl
  | some a, some b, h => by rw [ex_inj h]
  | none, some b, h => by cases b <;> cases h
  | some a, none, h => by cases a <;> cases h
theorem two_inj {a b : Str × Str} (h : twoD a = twoD b) : a = b := by
  obtain ⟨h1, h2⟩ := List.cons.inj (PyData.tuple.inj h)
  exact Prod.ext (PyData.str.inj h1) (PyData.str.inj (List.cons.inj h2).1)
def Det.no : Det → Nat
  | .read _ => 0
  | .filter _ => 1
  | .map _ => 2
  | .fold _ _ => 3
  | .join _ => 4
  | .union => 5
  | .unlike => 6
  | .sort _ _ => 7
def whatsN : List Str := ["read", "filter", "map", "fold", "join", "union", "unlike", "sort"]
theorem what_no (d : Det) : d.what = whatsN.getD d.no "" ∧ d.no < 8 := by cases d <;> exact ⟨rfl, by simp [Det.no]⟩
theorem no_of {a b : Det} (h : a.what = b.what) : a.no = b.no := by
  obtain ⟨a1, a2⟩ := what_no a
  obtain ⟨b1, b2⟩ := what_no b
  rw [a1, b1] at h
  exact (show ∀ i, i < 8 → ∀ j, j < 8 → whatsN.getD i "" = whatsN.getD j "" → i = j by decide +kernel) _ a2 _ b2 h
theorem all_factor {α β : Type} {g : α → β} {f : α → Bool} (h : ∀ x y, g x = g y → f x = f y) {l m : List α} (e : l.map g = m.map g) : l.all f = m.all f := by
  rw [all_map, map_factor h e, ← all_map]
theorem cols_alike {a b : Det} (hw : a.what = b.what) (h : detD a = detD b) (css : List (List NC)) : colsD css a = colsD css b := by
  cases a with
  | read cs =>
    cases b with
    | read cs' =>
      have h := map_factor (g := fun c : NC => twoD (c.1, kW c.2)) (f := id) (fun x y e => by
        have := two_inj e
        exact Prod.ext (congrArg (fun z : Str × Str => z.1) this) (kW_inj (congrArg (fun z : Str × Str => z.2) this))) (PyData.tuple.inj h)
      rw [List.map_id, List.map_id] at h
      rw [h]
    | _ => (have z := no_of hw; simp [Det.no] at z)
  | filter e =>
    cases b with
    | filter e' => rw [ex_inj h]
    | _ => (have z := no_of hw; simp [Det.no] at z)
  | map ms =>
    cases b with
    | map ms' =>
      have hk : ∀ x y : MC, (PyData.tuple [exD x.1, .str x.2.2]) = .tuple [exD y.1, .str y.2.2] → x.1 = y.1 ∧ x.2.2 = y.2.2 := fun x y e => by
        obtain ⟨h1, h2⟩ := List.cons.inj (PyData.tuple.inj e)
        exact ⟨ex_inj h1, PyData.str.inj (List.cons.inj h2).1⟩
      have h := PyData.tuple.inj h
      show (if ms.all (fun m => (kindE (kfN (css.getD 0 [])) m.1).isSome) = true then ndC (ms.map fun m => (m.2.2, (kindE (kfN (css.getD 0 [])) m.1).getD true)) else none) = _
      rw [all_factor (f := fun m : MC => (kindE (kfN (css.getD 0 [])) m.1).isSome) (fun x y e => by rw [(hk x y e).1]) h, map_factor (f := fun m : MC => (m.2.2, (kindE (kfN (css.getD 0 [])) m.1).getD true)) (fun x y e => by rw [(hk x y e).1, (hk x y e).2]) h]
      rfl
    | _ => (have z := no_of hw; simp [Det.no] at z)
  | fold ks fs =>
    cases b with
    | fold ks' fs' =>
      have hk : ∀ x y : FC, (PyData.tuple [.str x.1, optD x.2.1, .str x.2.2.2]) = .tuple [.str y.1, optD y.2.1, .str y.2.2.2] → x.1 = y.1 ∧ x.2.1 = y.2.1 ∧ x.2.2.2 = y.2.2.2 := fun x y e => by
        obtain ⟨h1, h2⟩ := List.cons.inj (PyData.tuple.inj e)
        obtain ⟨h3, h4⟩ := List.cons.inj h2
        exact ⟨PyData.str.inj h1, opt_inj h3, PyData.str.inj (List.cons.inj h4).1⟩
      have hF : ∀ (kf : Str → Option Bool) (x y : FC), (PyData.tuple [.str x.1, optD x.2.1, .str x.2.2.2]) = .tuple [.str y.1, optD y.2.1, .str y.2.2.2] → foldK kf x = foldK kf y := fun kf x y e => by
        unfold foldK
        rw [(hk x y e).1, (hk x y e).2.1]
      obtain ⟨h1, h2⟩ := List.cons.inj (PyData.tuple.inj h)
      have h1 := strs_inj h1
      have h2 := PyData.tuple.inj (List.cons.inj h2).1
      show (if (ks.all (fun k => (kfN (css.getD 0 []) k.1).isSome) && fs.all fun m => (foldK (kfN (css.getD 0 [])) m).isSome) = true then ndC ((ks.map fun k => (k.1, (kfN (css.getD 0 []) k.1).getD true)) ++ fs.map fun m => (m.2.2.2, (foldK (kfN (css.getD 0 [])) m).getD true)) else none) = _
      rw [all_factor (f := fun k : NC => (kfN (css.getD 0 []) k.1).isSome) (fun x y e => by rw [e]) h1, map_factor (f := fun k : NC => (k.1, (kfN (css.getD 0 []) k.1).getD true)) (fun x y e => by rw [e]) h1,
        all_factor (f := fun m : FC => (foldK (kfN (css.getD 0 [])) m).isSome) (fun x y e => by rw [hF _ x y e]) h2, map_factor (f := fun m : FC => (m.2.2.2, (foldK (kfN (css.getD 0 [])) m).getD true)) (fun x y e => by rw [hF _ x y e, (hk x y e).2.2]) h2]
      rfl
    | _ => (have z := no_of hw; simp [Det.no] at z)
  | join ks =>
    cases b with
    | join ks' =>
      have h1 : ks.map (·.1) = ks'.map (·.1) := strs_inj h
      show (if (ks.all fun k => (kfN (css.getD 0 []) k.1).isSome && decide (kfN (css.getD 1 []) k.1 = kfN (css.getD 0 []) k.1)) = true then
        ndC ((ks.map fun k => (k.1, (kfN (css.getD 0 []) k.1).getD true)) ++ ((css.getD 0 []).filter (fun c => decide (c.1 ∉ ks.map (·.1))) ++ (css.getD 1 []).filter fun c => decide (c.1 ∉ ks.map (·.1)))) else none) = _
      rw [all_factor (f := fun k : NC => (kfN (css.getD 0 []) k.1).isSome && decide (kfN (css.getD 1 []) k.1 = kfN (css.getD 0 []) k.1)) (fun x y e => by rw [e]) h1, map_factor (f := fun k : NC => (k.1, (kfN (css.getD 0 []) k.1).getD true)) (fun x y e => by rw [e]) h1, h1]
      rfl
    | _ => (have z := no_of hw; simp [Det.no] at z)
  | union =>
    cases b with
    | union => rfl
    | _ => (have z := no_of hw; simp [Det.no] at z)
  | unlike =>
    cases b with
    | unlike => rfl
    | _ => (have z := no_of hw; simp [Det.no] at z)
  | sort ws m =>
    cases b with
    | sort ws' m' =>
      obtain ⟨h1, _⟩ := List.cons.inj (PyData.tuple.inj h)
      have h1 := map_factor (f := id) (fun x y e => two_inj e) (PyData.tuple.inj h1)
      rw [List.map_id, List.map_id] at h1
      rw [h1]
      rfl
    | _ => (have z := no_of hw; simp [Det.no] at z)
def alikeS (o s : Stp) : Bool := PyData.eqv (tailD o) (tailD s)
theorem alike_tail {o s : Stp} (h : alikeS o s = true) : o.det.what = s.det.what ∧ o.ins = s.ins ∧ detD o.det = detD s.det := by
  have h := PyData.tuple.inj (eqv_eq _ _ (nb_tail o) (nb_tail s) h)
  obtain ⟨h1, h2⟩ := List.cons.inj h
  obtain ⟨h3, h4⟩ := List.cons.inj h2
  exact ⟨PyData.str.inj h1, strs_inj h3, (List.cons.inj h4).1⟩
end Kx

namespace Kx
open PySem PySem.Spec PyProof.Rows L2
/-! ### names that are free -/
def nmOf (i : Nat) : Str := ("s" : Str) ++ Str.ofString (toString (i : Int))
theorem nm_nodup : ((List.range 60).map nmOf).Nodup := by decide +kernel
def freeA (taken : List Str) (n : Nat) : List Str := ((List.range n).map nmOf).filter fun x => decide (x ∉ taken)
def freeF (taken : List Str) (many : Nat) : List Str := (freeA taken 60).take many
theorem free_mem {taken : List Str} {many : Nat} {x : Str} (h : x ∈ freeF taken many) : x ∉ taken := of_decide_eq_true (List.mem_filter.mp (List.mem_of_mem_take h)).2
theorem free_nodup (taken : List Str) (many : Nat) : (freeF taken many).Nodup := (nm_nodup.filter _).sublist (List.take_sublist _ _)
theorem sub_len {l m : List Str} (h : l.Nodup) (hs : ∀ x ∈ l, x ∈ m) : l.length ≤ m.length := by
  have := nodup_len (M := l.map fun x => (Sum.inr x : L2.Key)) (ks := m.map fun x => (Sum.inr x : L2.Key)) (List.pairwise_map.mpr (h.imp fun ne e => ne (Sum.inr.inj e))) fun z hz => by
    obtain ⟨x, hx, rfl⟩ := List.mem_map.mp hz
    exact List.mem_map.mpr ⟨x, hs x hx, rfl⟩
  rwa [List.length_map, List.length_map] at this
theorem freeA_len (taken : List Str) {n : Nat} (hn : n ≤ 60) : n ≤ (freeA taken n).length + taken.length := by
  have nd : ((List.range n).map nmOf).Nodup := by
    refine nm_nodup.sublist ?_
    exact (List.range_sublist.mpr hn).map _
  have h := List.length_eq_countP_add_countP (fun x => decide (x ∉ taken)) (l := (List.range n).map nmOf)
  rw [List.length_map, List.length_range, List.countP_eq_length_filter, List.countP_eq_length_filter] at h
  have h2 := sub_len (l := ((List.range n).map nmOf).filter fun x => decide (¬ decide (x ∉ taken) = true)) (m := taken) (nd.filter _) fun x hx => by
    have := of_decide_eq_true (List.mem_filter.mp hx).2
    exact Classical.byContradiction fun z => this (decide_eq_true z)
  unfold freeA
  omega
theorem free_len {taken : List Str} {many : Nat} (h : taken.length + many ≤ 60) : (freeF taken many).length = many := by
  have := freeA_len taken (Nat.le_refl 60)
  unfold freeF
  rw [List.length_take]
  omega
/-! ### filters put below -/
def pastL (ok : Str → Bool) (told : Ex) : List Str → List Str → List Stp × List Str
  | n :: ns, x :: xs => if ok x = true then (⟨n, [x], .filter told⟩ :: (pastL ok told ns xs).1, n :: (pastL ok told ns xs).2) else ((pastL ok told ns xs).1, x :: (pastL ok told ns xs).2)
  | _, _ => ([], [])
abbrev TT : Str → Prop := fun _ => True
theorem ext_at {k1 k2 : List (Str × List NC)} (e : Ext TT k1 k2) {x : Str} (h : x ∈ k1.map (·.1)) : x ∈ k2.map (·.1) ∧ known k2 x = known k1 x := e x trivial h
theorem past_typed {kp : List (Str × List NC)} {ok : Str → Bool} {told : Ex} : ∀ (ns xs : List Str) (k : List (Str × List NC)), ns.length = xs.length → Ext TT kp k → (∀ x ∈ xs, x ∈ kp.map (·.1)) → (∀ x ∈ xs, ok x = true → kindE (kfN (known kp x)) told = some true) → ns.Nodup → (∀ n ∈ ns, n ∉ k.map (·.1)) →
    ∃ k', runC k (pastL ok told ns xs).1 = .ok k' ∧ Ext TT k k' ∧ (pastL ok told ns xs).2.map (known k') = xs.map (known kp) ∧ (∀ y ∈ (pastL ok told ns xs).2, y ∈ k'.map (·.1)) ∧ ∀ t ∈ (pastL ok told ns xs).1, t.name ∈ ns
  | [], [], k, _, _, _, _, _, _ => ⟨k, rfl, Ext.refl _ _, rfl, (fun y h => by cases h), fun t h => by cases h⟩
  | [], _ :: _, _, h, _, _, _, _, _ => by cases h
  | _ :: _, [], _, h, _, _, _, _, _ => by cases h
  | n :: ns, x :: xs, k, hl, e, hx, hk, nd, hf => by
    obtain ⟨nd1, nd2⟩ := List.nodup_cons.mp nd
    have hxk := hx x List.mem_cons_self
    obtain ⟨e1, e2⟩ := ext_at e hxk
    by_cases c : ok x = true
    · have es : stepC k ⟨n, [x], .filter told⟩ = some (known kp x) := by
        refine step_of (hf n List.mem_cons_self) (fun y hy => by rw [List.mem_singleton.mp hy]; exact e1) ?_
        show (if kindE (kfN (known k x)) told = some true then some (known k x) else none) = _
        rw [e2, if_pos (hk x List.mem_cons_self c)]
      obtain ⟨k', h1, h2, h3, h4, h5⟩ := past_typed ns xs (k ++ [(n, known kp x)]) (Nat.succ.inj hl) (e.trans (Ext.app _ _ _)) (fun y hy => hx y (List.mem_cons_of_mem _ hy)) (fun y hy => hk y (List.mem_cons_of_mem _ hy)) nd2 fun m hm z => by
        rw [List.map_append] at z
        rcases List.mem_append.mp z with z | z
        · exact hf m (List.mem_cons_of_mem _ hm) z
        · exact nd1 (by rw [← show m = n from List.mem_singleton.mp z]; exact hm)
      have ep : pastL ok told (n :: ns) (x :: xs) = (⟨n, [x], .filter told⟩ :: (pastL ok told ns xs).1, n :: (pastL ok told ns xs).2) := if_pos c
      have hn : n ∈ (k ++ [(n, known kp x)]).map (·.1) := by rw [List.map_append]; exact List.mem_append_right _ List.mem_cons_self
      obtain ⟨g1, g2⟩ := ext_at h2 hn
      rw [known_out_app (hf n List.mem_cons_self), known_one] at g2
      rw [ep]
      refine ⟨k', by rw [run_step es]; exact h1, (Ext.app _ _ _).trans h2, ?_, fun y hy => ?_, fun t ht => ?_⟩
      · rw [List.map_cons, List.map_cons, h3, g2]
      · rcases List.mem_cons.mp hy with rfl | hy
        · exact g1
        · exact h4 y hy
      · rcases List.mem_cons.mp ht with rfl | ht
        · exact List.mem_cons_self
        · exact List.mem_cons_of_mem _ (h5 t ht)
    · obtain ⟨k', h1, h2, h3, h4, h5⟩ := past_typed ns xs k (Nat.succ.inj hl) e (fun y hy => hx y (List.mem_cons_of_mem _ hy)) (fun y hy => hk y (List.mem_cons_of_mem _ hy)) nd2 fun m hm => hf m (List.mem_cons_of_mem _ hm)
      have ep : pastL ok told (n :: ns) (x :: xs) = ((pastL ok told ns xs).1, x :: (pastL ok told ns xs).2) := if_neg c
      obtain ⟨g1, g2⟩ := ext_at h2 e1
      rw [ep]
      refine ⟨k', h1, h2, ?_, fun y hy => ?_, fun t ht => List.mem_cons_of_mem _ (h5 t ht)⟩
      · rw [List.map_cons, List.map_cons, h3, g2, e2]
      · rcases List.mem_cons.mp hy with rfl | hy
        · exact g1
        · exact h4 y hy
/-! ### kinds below and above a step -/
theorem kf_app_in {a b : List NC} {x : Str} (h : x ∈ a.map (·.1)) : kfN (a ++ b) x = kfN a x := by
  unfold kfN
  rw [List.find?_append]
  cases e : a.find? (fun c => decide (c.1 = x)) with
  | some y => rfl
  | none =>
    obtain ⟨y, hy, hx⟩ := List.mem_map.mp h
    exact absurd (decide_eq_true hx) (List.find?_eq_none.mp e y hy)
theorem kf_app_out {a b : List NC} {x : Str} (h : x ∉ a.map (·.1)) : kfN (a ++ b) x = kfN b x := by
  unfold kfN
  rw [List.find?_append, List.find?_eq_none.mpr fun y hy z => h (List.mem_map.mpr ⟨y, hy, of_decide_eq_true z⟩)]
  rfl
theorem kf_map {α : Type} {nm : α → Str} {f : α → Bool} {kf : Str → Option Bool} {l : List α} {x : Str} (hx : x ∈ l.map nm) (h : ∀ a ∈ l, nm a = x → kf x = some (f a)) : kfN (l.map fun a => (nm a, f a)) x = kf x := by
  unfold kfN
  rw [List.find?_map]
  cases e : l.find? ((fun c : NC => decide (c.1 = x)) ∘ fun a => (nm a, f a)) with
  | none =>
    obtain ⟨y, hy, ex⟩ := List.mem_map.mp hx
    exact absurd (decide_eq_true (p := ((nm y, f y) : NC).1 = x) ex) (List.find?_eq_none.mp e y hy)
  | some y =>
    have h1 := List.mem_of_find?_eq_some e
    have h2 : nm y = x := of_decide_eq_true (p := ((nm y, f y) : NC).1 = x) (List.find?_some (p := (fun c : NC => decide (c.1 = x)) ∘ fun a => (nm a, f a)) e)
    exact (h y h1 h2).symm
theorem kf_filter {a : List NC} {p : NC → Bool} {x : Str} (h : ∀ c ∈ a, c.1 = x → p c = true) : kfN (a.filter p) x = kfN a x := by
  unfold kfN
  congr 1
  induction a with
  | nil => rfl
  | cons c r ih =>
    have ih := ih fun d hd => h d (List.mem_cons_of_mem _ hd)
    by_cases e : c.1 = x
    · rw [List.filter_cons_of_pos (h c List.mem_cons_self e), List.find?_cons, List.find?_cons, decide_eq_true e]
    · rw [show (c :: r).find? (fun c => decide (c.1 = x)) = r.find? (fun c => decide (c.1 = x)) by rw [List.find?_cons, decide_eq_false e]]
      cases hp : p c with
      | true => rw [List.filter_cons_of_pos hp, List.find?_cons, decide_eq_false e, ← ih]
      | false => rw [List.filter_cons_of_neg (by rw [hp]; exact Bool.false_ne_true), ih]
def meanM (ms : List MC) (x : Str) : Ex := ((ms.find? fun m => decide (m.2.2 = x)).map (·.1)).getD (.num 0)
theorem isSome_some {α : Type} [Inhabited α] {o : Option α} {d : α} (h : o.isSome = true) : o = some (o.getD d) := by
  cases o with
  | none => cases h
  | some a => rfl
theorem cols_map {C cs : List NC} {ms : List MC} (h : colsD [C] (.map ms) = some cs) : cs = ms.map (fun m => (m.2.2, (kindE (kfN C) m.1).getD true)) ∧ (∀ m ∈ ms, (kindE (kfN C) m.1).isSome = true) ∧ (cs.map (·.1)).Nodup := by
  have h : (if ms.all (fun m => (kindE (kfN C) m.1).isSome) = true then ndC (ms.map fun m => (m.2.2, (kindE (kfN C) m.1).getD true)) else none) = some cs := h
  split at h
  · rename_i hall
    obtain ⟨rfl, hn⟩ := ndC_some h
    exact ⟨rfl, fun m hm => List.all_eq_true.mp hall m hm, hn⟩
  · cases h
theorem mean_kind {C cs : List NC} {ms : List MC} (h : colsD [C] (.map ms) = some cs) {x : Str} (hx : (kfN cs x).isSome = true) : kindE (kfN C) (meanM ms x) = kfN cs x ∧ ∃ m ∈ ms, m.2.2 = x ∧ meanM ms x = m.1 := by
  obtain ⟨rfl, h2, _⟩ := cols_map h
  have e0 : kfN (ms.map fun m => (m.2.2, (kindE (kfN C) m.1).getD true)) x = ((ms.find? fun m => decide (m.2.2 = x)).map fun m => (kindE (kfN C) m.1).getD true) := by
    unfold kfN
    rw [List.find?_map, Option.map_map]
    rfl
  rw [e0] at hx ⊢
  unfold meanM
  cases e : ms.find? (fun m => decide (m.2.2 = x)) with
  | none => rw [e] at hx; cases hx
  | some m =>
    have h1 := List.mem_of_find?_eq_some e
    exact ⟨isSome_some (h2 m h1), m, h1, of_decide_eq_true (List.find?_some (p := fun m : MC => decide (m.2.2 = x)) e), rfl⟩
theorem cols_fold {C cs : List NC} {ks : List NC} {fs : List FC} (h : colsD [C] (.fold ks fs) = some cs) : cs = (ks.map fun k => (k.1, (kfN C k.1).getD true)) ++ (fs.map fun m => (m.2.2.2, (foldK (kfN C) m).getD true)) ∧ (∀ k ∈ ks, (kfN C k.1).isSome = true) ∧ (∀ m ∈ fs, (foldK (kfN C) m).isSome = true) ∧ (cs.map (·.1)).Nodup := by
  have h : (if (ks.all (fun k => (kfN C k.1).isSome) && fs.all fun m => (foldK (kfN C) m).isSome) = true then ndC ((ks.map fun k => (k.1, (kfN C k.1).getD true)) ++ fs.map fun m => (m.2.2.2, (foldK (kfN C) m).getD true)) else none) = some cs := h
  split at h
  · rename_i hall
    obtain ⟨h1, h2⟩ := Bool.and_eq_true_iff.mp hall
    obtain ⟨rfl, hn⟩ := ndC_some h
    exact ⟨rfl, fun m hm => List.all_eq_true.mp h1 m hm, fun m hm => List.all_eq_true.mp h2 m hm, hn⟩
  · cases h
theorem kf_fold {C cs : List NC} {ks : List NC} {fs : List FC} (h : colsD [C] (.fold ks fs) = some cs) {x : Str} (hx : x ∈ ks.map (·.1)) : kfN cs x = kfN C x := by
  obtain ⟨rfl, h1, _, _⟩ := cols_fold h
  rw [kf_app_in (by rw [List.map_map]; exact hx)]
  refine kf_map (nm := fun k : NC => k.1) (f := fun k : NC => (kfN C k.1).getD true) hx fun a ha e => ?_
  rw [← e]
  exact isSome_some (h1 a ha)
theorem cols_join {A B cs : List NC} {ks : List NC} (h : colsD [A, B] (.join ks) = some cs) : cs = (ks.map fun k => (k.1, (kfN A k.1).getD true)) ++ (A.filter (fun c => decide (c.1 ∉ ks.map (·.1))) ++ B.filter fun c => decide (c.1 ∉ ks.map (·.1))) ∧ (∀ k ∈ ks, (kfN A k.1).isSome = true ∧ kfN B k.1 = kfN A k.1) ∧ (cs.map (·.1)).Nodup := by
  have h : (if (ks.all fun k => (kfN A k.1).isSome && decide (kfN B k.1 = kfN A k.1)) = true then ndC ((ks.map fun k => (k.1, (kfN A k.1).getD true)) ++ (A.filter (fun c => decide (c.1 ∉ ks.map (·.1))) ++ B.filter fun c => decide (c.1 ∉ ks.map (·.1)))) else none) = some cs := h
  split at h
  · rename_i hall
    obtain ⟨rfl, hn⟩ := ndC_some h
    refine ⟨rfl, fun m hm => ?_, hn⟩
    obtain ⟨h1, h2⟩ := Bool.and_eq_true_iff.mp (List.all_eq_true.mp hall m hm)
    exact ⟨h1, of_decide_eq_true h2⟩
  · cases h
theorem kf_join1 {A B cs : List NC} {ks : List NC} (h : colsD [A, B] (.join ks) = some cs) {x : Str} (hx : x ∈ A.map (·.1)) : kfN cs x = kfN A x := by
  obtain ⟨rfl, h1, _⟩ := cols_join h
  by_cases c : x ∈ ks.map (·.1)
  · rw [kf_app_in (by rw [List.map_map]; exact c)]
    refine kf_map (nm := fun k : NC => k.1) (f := fun k : NC => (kfN A k.1).getD true) c fun a ha e => ?_
    rw [← e]
    exact isSome_some (h1 a ha).1
  · obtain ⟨y, hy, ey⟩ := List.mem_map.mp hx
    rw [kf_app_out (by rw [List.map_map]; exact c), kf_app_in (List.mem_map.mpr ⟨y, List.mem_filter.mpr ⟨hy, decide_eq_true (by rw [ey]; exact c)⟩, ey⟩)]
    exact kf_filter fun d _ e => decide_eq_true (by rw [e]; exact c)
theorem kf_join2 {A B cs : List NC} {ks : List NC} (h : colsD [A, B] (.join ks) = some cs) {x : Str} (hx : x ∈ B.map (·.1)) : kfN cs x = kfN B x := by
  obtain ⟨rfl, h1, nd⟩ := cols_join h
  by_cases c : x ∈ ks.map (·.1)
  · rw [kf_app_in (by rw [List.map_map]; exact c)]
    refine kf_map (nm := fun k : NC => k.1) (f := fun k : NC => (kfN A k.1).getD true) c fun a ha e => ?_
    obtain ⟨p, q⟩ := h1 a ha
    rw [← e, q]
    exact isSome_some p
  · obtain ⟨y, hy, ey⟩ := List.mem_map.mp hx
    have hB : x ∈ (B.filter fun c => decide (c.1 ∉ ks.map (·.1))).map (·.1) := List.mem_map.mpr ⟨y, List.mem_filter.mpr ⟨hy, decide_eq_true (by rw [ey]; exact c)⟩, ey⟩
    rw [List.map_append, List.map_append] at nd
    have n2 := (List.nodup_append.mp (List.nodup_append.mp nd).2.1).2.2
    rw [kf_app_out (by rw [List.map_map]; exact c), kf_app_out fun z => n2 x z x hB rfl]
    exact kf_filter fun d _ e => decide_eq_true (by rw [e]; exact c)
end Kx

namespace Kx
open PySem PySem.Spec PyProof.Rows L2
/-! ### the rules -/
def namedS (ss : List Stp) (nm : Str) : Option Stp := ss.find? fun s => decide (s.name = nm)
def usedS (ss : List Stp) (nm : Str) : Bool := ss.any fun s => decide (nm ∈ s.ins)
abbrev namesS (ss : List Stp) : List Str := ss.map (·.name)
def hasIn (kn : List (Str × List NC)) (told : Ex) (x : Str) : Bool := (usedC told).all fun y => decide (y ∈ (known kn x).map (·.1))
def pastP (kn : List (Str × List NC)) (ss : List Stp) (b : Stp) (told : Ex) : List Stp × List Str := pastL (hasIn kn told) told (freeF (namesS ss) b.ins.length) b.ins
def pastG (kn : List (Str × List NC)) (ss : List Stp) (s b : Stp) (told : Ex) : Option (List Stp) := if (pastP kn ss b told).1.length = 0 then none else some ((pastP kn ss b told).1 ++ [⟨s.name, (pastP kn ss b told).2, b.det⟩])
def usedF (ks : List NC) (fs : List FC) : List Str := ks.map (·.1) ++ fs.flatMap fun f => match f.2.1 with
  | none => []
  | some e => usedC e
def keptF (kn : List (Str × List NC)) (s : Stp) (ks : List NC) (fs : List FC) : List NC := (known kn (s.ins.getD 0 "")).filter fun c => decide (c.1 ∈ usedF ks fs)
def narrowF (kn : List (Str × List NC)) (ss : List Stp) (s : Stp) (ks : List NC) (fs : List FC) : Option (List Stp) :=
  if (keptF kn s ks fs).length = 0 ∨ (keptF kn s ks fs).length = (known kn (s.ins.getD 0 "")).length then none else
  some [⟨(freeF (namesS ss) 1).getD 0 "", [s.ins.getD 0 ""], .map ((keptF kn s ks fs).map fun c => (.col c.1, c.2, c.1))⟩, ⟨s.name, [(freeF (namesS ss) 1).getD 0 ""], s.det⟩]
def madeF (kn : List (Str × List NC)) (ss : List Stp) (rule : Str) (s : Stp) : Option (List Stp) := match s.det with
  | .read _ => none
  | .fold ks fs => if rule = "narrow" then narrowF kn ss s ks fs else none
  | .filter e => match namedS ss (s.ins.getD 0 "") with
    | none => none
    | some b => match b.det with
      | .filter f => if rule = "and" then some [⟨s.name, b.ins, .filter (.two "and" f e)⟩] else none
      | .map ms => if rule = "past map" then pastG kn ss s b (subE (meanM ms) e) else none
      | .join _ => if rule = "past join" then pastG kn ss s b e else none
      | .fold ks _ => if rule = "past fold" then (if ((usedC e).all fun y => decide (y ∈ ks.map (·.1))) = true then pastG kn ss s b e else none) else none
      | .union => if rule = "past union" then pastG kn ss s b e else none
      | .unlike => if rule = "past unlike" then pastG kn ss s b e else none
      | _ => none
  | .map ms => match namedS ss (s.ins.getD 0 "") with
    | none => none
    | some b => match b.det with
      | .map mb => if rule = "maps" then some [⟨s.name, b.ins, .map (ms.map fun m => (subE (meanM mb) m.1, m.2.1, m.2.2))⟩] else none
      | _ => none
  | _ => none
def substS (nm new : Str) (s : Stp) : Stp := ⟨s.name, s.ins.map fun x => if x = nm then new else x, s.det⟩
def firstS (ss : List Stp) (s : Stp) : Str := ((ss.find? fun o => alikeS o s).map (·.name)).getD s.name
def sameF (ss : List Stp) (s : Stp) : Option (List Stp) := if s.det.what = "read" ∨ firstS ss s = s.name ∨ usedS ss s.name = false then none else some (ss.map (substS s.name (firstS ss s)))
def dropF (ss : List Stp) (an nm : Str) : Option (List Stp) := if nm = an ∨ usedS ss nm = true then none else some (inPlace ss nm [])
def knOf (ss : List Stp) : List (Str × List NC) := match runC [] ss with
  | .ok k => k
  | .error _ => []
def apF (ss : List Stp) (an rule nm : Str) : Option (List Stp) := match namedS ss nm with
  | none => none
  | some s => if rule = "same" then sameF ss s else if rule = "drop" then dropF ss an nm else (madeF (knOf ss) ss rule s).map (inPlace ss nm)
/-! ### the job stays right -/
structure At (ss : List Stp) (s : Stp) (a b : List Stp) (kp kn : List (Str × List NC)) (cs : List NC) : Prop where
  eq : ss = a ++ s :: b
  run : runC [] ss = .ok kn
  ra : runC [] a = .ok kp
  st : stepC kp s = some cs
theorem at_of {ss : List Stp} {s : Stp} {kn : List (Str × List NC)} (h : runC [] ss = .ok kn) (hs : s ∈ ss) : ∃ a b kp cs, At ss s a b kp kn cs := by
  obtain ⟨a, b, rfl⟩ := split_at hs
  obtain ⟨kp, h1, h2⟩ := run_split h
  obtain ⟨cs, h3, _⟩ := run_cons h2
  exact ⟨a, b, kp, cs, rfl, h, h1, h3⟩
theorem run_grows : ∀ {ss : List Stp} {k kn : List (Str × List NC)}, runC k ss = .ok kn → Ext TT k kn
  | [], k, kn, h => by
    have : Except.ok k = (Except.ok kn : Except Str _) := h
    cases this
    exact Ext.refl _ _
  | s :: r, k, kn, h => by
    obtain ⟨cs, _, h2⟩ := run_cons h
    exact (Ext.app _ k [(s.name, cs)]).trans (run_grows h2)
section
variable {ss a b : List Stp} {s : Stp} {kp kn : List (Str × List NC)} {cs : List NC}
theorem At.ext (A : At ss s a b kp kn cs) : Ext TT kp kn := by
  have h := A.run
  rw [A.eq] at h
  obtain ⟨ka, h1, h2⟩ := run_split h
  rw [A.ra] at h1
  cases h1
  exact run_grows h2
theorem At.nd (A : At ss s a b kp kn cs) : (namesS ss).Nodup := (run_names A.run).2.1
theorem At.names (A : At ss s a b kp kn cs) : kp.map (·.1) = namesS a := by
  have := (run_names A.ra).1
  simpa using this
theorem At.below (A : At ss s a b kp kn cs) {x : Str} (hx : x ∈ s.ins) {t : Stp} (ht : namedS ss x = some t) : t ∈ a ∧ t.name = x := by
  obtain ⟨h1, h2⟩ := find_named ht
  have hk := (step_some A.st).2.1 x hx
  rw [A.names] at hk
  obtain ⟨u, hu, eu⟩ := List.mem_map.mp hk
  have : u = t := named_uniq A.nd (by rw [A.eq]; exact List.mem_append_left _ hu) h1 (by rw [h2]; exact eu)
  exact ⟨this ▸ hu, h2⟩
theorem At.mem (A : At ss s a b kp kn cs) {t : Stp} (h : t ∈ a) : t.name ∈ namesS ss := by
  rw [A.eq, namesS, List.map_append]
  exact List.mem_append_left _ (List.mem_map.mpr ⟨t, h, rfl⟩)
theorem At.self (A : At ss s a b kp kn cs) : s.name ∈ namesS ss := by
  rw [A.eq, namesS, List.map_append, List.map_cons]
  exact List.mem_append_right _ List.mem_cons_self
/-- what is made for a step is right where the step stood -/
def Made (ss : List Stp) (s : Stp) (kp : List (Str × List NC)) (cs : List NC) (made : List Stp) : Prop := ∃ kq, runC kp made = .ok kq ∧ Ext TT (kp ++ [(s.name, cs)]) kq ∧ ∀ t ∈ made, t.name = s.name ∨ t.name ∉ namesS ss
theorem At.one (A : At ss s a b kp kn cs) {ins : List Str} {det : Det} (h1 : ∀ x ∈ ins, x ∈ kp.map (·.1)) (h2 : colsD (ins.map (known kp)) det = some cs) : Made ss s kp cs [⟨s.name, ins, det⟩] := by
  have hs : stepC kp ⟨s.name, ins, det⟩ = some cs := step_of (step_some A.st).1 h1 h2
  refine ⟨kp ++ [(s.name, cs)], by rw [run_step hs]; rfl, Ext.refl _ _, fun t ht => ?_⟩
  rw [List.mem_singleton.mp ht]
  exact .inl rfl
theorem At.past (A : At ss s a b kp kn cs) {t : Stp} (ht : t ∈ a) (hcs : known kp t.name = cs) {told : Ex} (hl : ss.length + t.ins.length ≤ 60) (hk : ∀ x ∈ t.ins, (∀ y ∈ usedC told, y ∈ (known kp x).map (·.1)) → kindE (kfN (known kp x)) told = some true) {made : List Stp} (hm : pastG kn ss s t told = some made) : Made ss s kp cs made := by
  obtain ⟨b1, b2, b3⟩ := told_behind A.ra ht
  unfold pastG at hm
  split at hm
  · cases hm
  cases hm
  have fl := free_len (taken := namesS ss) (many := t.ins.length) (by rw [List.length_map]; exact hl)
  obtain ⟨k', h1, h2, h3, h4, h5⟩ := past_typed (kp := kp) (ok := hasIn kn told) (told := told) (freeF (namesS ss) t.ins.length) t.ins kp fl (Ext.refl _ _) b2 (fun x hx ho => hk x hx fun y hy => by
    have := of_decide_eq_true (List.all_eq_true.mp ho y hy)
    rwa [(A.ext x trivial (b2 x hx)).2] at this) (free_nodup _ _) (fun n hn z => by
      rw [A.names] at z
      obtain ⟨u, hu, eu⟩ := List.mem_map.mp z
      exact free_mem hn (eu ▸ A.mem hu))
  have hfr : s.name ∉ k'.map (·.1) := fun z => by
    rw [(run_names h1).1] at z
    rcases List.mem_append.mp z with z | z
    · exact (step_some A.st).1 z
    · obtain ⟨u, hu, eu⟩ := List.mem_map.mp z
      exact free_mem (h5 u hu) (eu ▸ A.self)
  have hs : stepC k' ⟨s.name, (pastP kn ss t told).2, t.det⟩ = some cs := step_of hfr h4 (by
    show colsD ((pastP kn ss t told).2.map (known k')) t.det = some cs
    unfold pastP
    rw [h3, b3, hcs])
  refine ⟨k' ++ [(s.name, cs)], run_join h1 (by rw [run_step hs]; rfl), h2.snoc (step_some A.st).1 hfr, fun u hu => ?_⟩
  rcases List.mem_append.mp hu with hu | hu
  · exact .inr (free_mem (h5 u hu))
  · rw [List.mem_singleton.mp hu]
    exact .inl rfl
theorem ins_one {t : Stp} (h : t.ins.length = 1) : t.ins = [t.ins.getD 0 ""] := by
  match t.ins, h with
  | [x], _ => rfl
theorem ins_two {t : Stp} (h : t.ins.length = 2) : ∃ x y, t.ins = [x, y] := by
  match t.ins, h with
  | [x, y], _ => exact ⟨x, y, rfl⟩
theorem cols_filter {C cs : List NC} {e : Ex} (h : colsD [C] (.filter e) = some cs) : cs = C ∧ kindE (kfN C) e = some true := by
  have h : (if kindE (kfN C) e = some true then some C else none) = some cs := h
  split at h
  · cases h
    exact ⟨rfl, by assumption⟩
  · cases h
theorem and_kind {kf : Str → Option Bool} {f e : Ex} (h1 : kindE kf f = some true) (h2 : kindE kf e = some true) : kindE kf (.two "and" f e) = some true := by
  show twoK "and" (kindE kf f) (kindE kf e) = some true
  rw [h1, h2]
  rfl
theorem kf_mem' {C : List NC} {x : Str} (h : (kfN C x).isSome = true) : x ∈ C.map (·.1) := kf_mem h
theorem mem_kf {C : List NC} {x : Str} (h : x ∈ C.map (·.1)) : (kfN C x).isSome = true := by
  unfold kfN
  cases e : C.find? (fun c => decide (c.1 = x)) with
  | some y => rfl
  | none =>
    obtain ⟨y, hy, ex⟩ := List.mem_map.mp h
    exact absurd (decide_eq_true ex) (List.find?_eq_none.mp e y hy)
theorem made_filter (A : At ss s a b kp kn cs) {e : Ex} (hd : s.det = .filter e) (har : ∀ t ∈ ss, t.ins.length = t.det.arity) (hl : ss.length ≤ 50) {rule : Str} {made : List Stp} (hm : madeF kn ss rule s = some made) : Made ss s kp cs made := by
  obtain ⟨s1, s2, s3⟩ := step_some A.st
  have hin := ins_one (t := s) (by rw [har s (by rw [A.eq]; exact List.mem_append_right _ List.mem_cons_self), hd]; rfl)
  have hx : s.ins.getD 0 "" ∈ s.ins := by rw [hin]; exact List.mem_cons_self
  rw [hin, hd] at s3
  obtain ⟨rfl, he⟩ := cols_filter s3
  unfold madeF at hm
  rw [hd] at hm
  dsimp only at hm
  cases ht : namedS ss (s.ins.getD 0 "") with
  | none => rw [ht] at hm; cases hm
  | some t =>
    rw [ht] at hm
    dsimp only at hm
    obtain ⟨ta, tn⟩ := A.below hx ht
    obtain ⟨b1, b2, b3⟩ := told_behind A.ra ta
    have tss : t ∈ ss := by rw [A.eq]; exact List.mem_append_left _ ta
    have tar := har t tss
    rw [tn] at b3
    have hl2 : ss.length + t.ins.length ≤ 60 := by
      have : t.det.arity ≤ 2 := by cases t.det <;> first | exact Nat.le_refl 2 | exact Nat.le_succ 1 | exact Nat.zero_le 2
      omega
    have past := fun (told : Ex) hk => A.past ta (by rw [tn]) (told := told) hl2 hk (made := made)
    cases hdt : t.det with
    | read c => rw [hdt] at hm; cases hm
    | sort ws m => rw [hdt] at hm; cases hm
    | filter f =>
      rw [hdt] at hm b3 tar
      dsimp only at hm
      have hti := ins_one (t := t) tar
      rw [hti] at b3
      obtain ⟨c1, c2⟩ := cols_filter b3
      split at hm
      · cases hm
        refine A.one b2 ?_
        rw [hti, c1]
        show (if kindE (kfN (known kp (t.ins.getD 0 ""))) (.two "and" f e) = some true then _ else _) = _
        rw [if_pos (and_kind c2 (by rw [c1] at he; exact he))]
        rfl
      · cases hm
    | map ms =>
      rw [hdt] at hm b3 tar
      dsimp only at hm
      have hti := ins_one (t := t) tar
      rw [hti] at b3
      split at hm
      · refine past _ (fun x hx _ => ?_) hm
        rw [hti] at hx
        rw [List.mem_singleton.mp hx, kind_sub (kf' := kfN (known kp (s.ins.getD 0 ""))) fun y hy => (mean_kind b3 (kind_used he y hy)).1]
        exact he
      · cases hm
    | fold ks fs =>
      rw [hdt] at hm b3 tar
      dsimp only at hm
      have hti := ins_one (t := t) tar
      rw [hti] at b3
      split at hm
      · split at hm
        · rename_i hall
          refine past _ (fun x hx _ => ?_) hm
          rw [hti] at hx
          rw [List.mem_singleton.mp hx, ← kind_congr (kf := kfN (known kp (s.ins.getD 0 ""))) fun y hy => kf_fold b3 (of_decide_eq_true (List.all_eq_true.mp hall y hy))]
          exact he
        · cases hm
      · cases hm
    | join ks =>
      rw [hdt] at hm b3 tar
      dsimp only at hm
      obtain ⟨x1, x2, hti⟩ := ins_two (t := t) tar
      rw [hti] at b3
      split at hm
      · refine past _ (fun x hx hin => ?_) hm
        rw [hti] at hx
        rcases List.mem_cons.mp hx with rfl | hx
        · rw [← kind_congr (kf := kfN (known kp (s.ins.getD 0 ""))) fun y hy => kf_join1 b3 (hin y hy)]
          exact he
        · have ex := List.mem_singleton.mp hx
          subst ex
          rw [← kind_congr (kf := kfN (known kp (s.ins.getD 0 ""))) fun y hy => kf_join2 b3 (hin y hy)]
          exact he
      · cases hm
    | union =>
      rw [hdt] at hm b3 tar
      dsimp only at hm
      obtain ⟨x1, x2, hti⟩ := ins_two (t := t) tar
      rw [hti] at b3
      have b3 : (if known kp x1 = known kp x2 then some (known kp x1) else none) = some (known kp (s.ins.getD 0 "")) := b3
      split at b3
      · rename_i e12
        have e3 := Option.some.inj b3
        split at hm
        · refine past _ (fun x hx hin => ?_) hm
          rw [hti] at hx
          rcases List.mem_cons.mp hx with rfl | hx
          · rw [e3]; exact he
          · rw [List.mem_singleton.mp hx, ← e12, e3]; exact he
        · cases hm
      · cases b3
    | unlike =>
      rw [hdt] at hm b3 tar
      dsimp only at hm
      have hti := ins_one (t := t) tar
      rw [hti] at b3
      have b3 : some (known kp (t.ins.getD 0 "")) = some (known kp (s.ins.getD 0 "")) := b3
      split at hm
      · refine past _ (fun x hx hin => ?_) hm
        rw [hti] at hx
        rw [List.mem_singleton.mp hx, Option.some.inj b3]
        exact he
      · cases hm
end
end Kx

namespace Kx
open PySem PySem.Spec PyProof.Rows L2
section
variable {ss a b : List Stp} {s : Stp} {kp kn : List (Str × List NC)} {cs : List NC}
theorem all_congr {α : Type} {p q : α → Bool} : ∀ {l : List α}, (∀ x ∈ l, p x = q x) → l.all p = l.all q
  | [], _ => rfl
  | x :: r, h => by rw [List.all_cons, List.all_cons, h x List.mem_cons_self, all_congr fun y hy => h y (List.mem_cons_of_mem _ hy)]
theorem made_map (A : At ss s a b kp kn cs) {ms : List MC} (hd : s.det = .map ms) (har : ∀ t ∈ ss, t.ins.length = t.det.arity) {rule : Str} {made : List Stp} (hm : madeF kn ss rule s = some made) : Made ss s kp cs made := by
  obtain ⟨s1, s2, s3⟩ := step_some A.st
  have hin := ins_one (t := s) (by rw [har s (by rw [A.eq]; exact List.mem_append_right _ List.mem_cons_self), hd]; rfl)
  have hx : s.ins.getD 0 "" ∈ s.ins := by rw [hin]; exact List.mem_cons_self
  rw [hin, hd] at s3
  unfold madeF at hm
  rw [hd] at hm
  dsimp only at hm
  cases ht : namedS ss (s.ins.getD 0 "") with
  | none => rw [ht] at hm; cases hm
  | some t =>
    rw [ht] at hm
    dsimp only at hm
    obtain ⟨ta, tn⟩ := A.below hx ht
    obtain ⟨b1, b2, b3⟩ := told_behind A.ra ta
    have tss : t ∈ ss := by rw [A.eq]; exact List.mem_append_left _ ta
    have tar := har t tss
    rw [tn] at b3
    cases hdt : t.det with
    | map mb =>
      rw [hdt] at hm b3 tar
      dsimp only at hm
      have hti := ins_one (t := t) tar
      rw [hti] at b3
      split at hm
      · cases hm
        refine A.one b2 ?_
        rw [hti]
        have hk : ∀ m ∈ ms, kindE (kfN (known kp (t.ins.getD 0 ""))) (subE (meanM mb) m.1) = kindE (kfN (known kp (s.ins.getD 0 ""))) m.1 := fun m hm => by
          obtain ⟨_, h2, _⟩ := cols_map s3
          exact kind_sub fun y hy => (mean_kind b3 (kind_used (isSome_some (d := true) (h2 m hm)) y hy)).1
        rw [← s3]
        show (if (ms.map fun m => ((subE (meanM mb) m.1, m.2.1, m.2.2) : MC)).all (fun m => (kindE (kfN (known kp (t.ins.getD 0 ""))) m.1).isSome) = true then ndC ((ms.map fun m => ((subE (meanM mb) m.1, m.2.1, m.2.2) : MC)).map fun m => (m.2.2, (kindE (kfN (known kp (t.ins.getD 0 ""))) m.1).getD true)) else none) = (if ms.all (fun m => (kindE (kfN (known kp (s.ins.getD 0 ""))) m.1).isSome) = true then ndC (ms.map fun m => (m.2.2, (kindE (kfN (known kp (s.ins.getD 0 ""))) m.1).getD true)) else none)
        rw [List.all_map, List.map_map, all_congr (q := fun m : MC => (kindE (kfN (known kp (s.ins.getD 0 ""))) m.1).isSome) fun m hm => by show (kindE _ (subE _ _)).isSome = _; rw [hk m hm], List.map_congr_left (g := fun m : MC => (m.2.2, (kindE (kfN (known kp (s.ins.getD 0 ""))) m.1).getD true)) fun m hm => by show (m.2.2, (kindE _ (subE _ _)).getD true) = _; rw [hk m hm]]
      · cases hm
    | _ => rw [hdt] at hm; cases hm
theorem fold_congr {C D : List NC} {ks : List NC} {fs : List FC} (h : ∀ x ∈ usedF ks fs, kfN C x = kfN D x) : colsD [C] (.fold ks fs) = colsD [D] (.fold ks fs) := by
  have h1 : ∀ k ∈ ks, kfN C k.1 = kfN D k.1 := fun k hk => h _ (List.mem_append_left _ (List.mem_map.mpr ⟨k, hk, rfl⟩))
  have h2 : ∀ m ∈ fs, foldK (kfN C) m = foldK (kfN D) m := fun m hm => by
    unfold foldK
    cases e : m.2.1 with
    | none => rfl
    | some x =>
      dsimp only
      rw [kind_congr (kf := kfN C) (kf' := kfN D) fun y hy => h y (List.mem_append_right _ (List.mem_flatMap.mpr ⟨m, hm, by rw [e]; exact hy⟩))]
  show (if (ks.all (fun k => (kfN C k.1).isSome) && fs.all fun m => (foldK (kfN C) m).isSome) = true then ndC ((ks.map fun k => (k.1, (kfN C k.1).getD true)) ++ fs.map fun m => (m.2.2.2, (foldK (kfN C) m).getD true)) else none) = (if (ks.all (fun k => (kfN D k.1).isSome) && fs.all fun m => (foldK (kfN D) m).isSome) = true then ndC ((ks.map fun k => (k.1, (kfN D k.1).getD true)) ++ fs.map fun m => (m.2.2.2, (foldK (kfN D) m).getD true)) else none)
  rw [all_congr (q := fun k : NC => (kfN D k.1).isSome) fun k hk => by rw [h1 k hk], all_congr (q := fun m : FC => (foldK (kfN D) m).isSome) fun m hm => by rw [h2 m hm], List.map_congr_left (g := fun k : NC => (k.1, (kfN D k.1).getD true)) fun k hk => by rw [h1 k hk], List.map_congr_left (g := fun m : FC => (m.2.2.2, (foldK (kfN D) m).getD true)) fun m hm => by rw [h2 m hm]]
theorem run_named : ∀ {r : List Stp} {k kn : List (Str × List NC)}, runC k r = .ok kn → (∀ s ∈ r, DetN s.det ∧ s.ins.length = s.det.arity) → (∀ x ∈ k.map (·.1), NamedC (known k x)) → ∀ x ∈ kn.map (·.1), NamedC (known kn x)
  | [], k, kn, h, _, hk => by
    have : Except.ok k = (Except.ok kn : Except Str _) := h
    cases this
    exact hk
  | s :: r, k, kn, h, hs, hk => by
    obtain ⟨cs, h1, h2⟩ := run_cons h
    obtain ⟨n1, n2, n3⟩ := step_some h1
    obtain ⟨d1, d2⟩ := hs s List.mem_cons_self
    have hc : NamedC cs := cols_named (css := s.ins.map (known k)) (fun c hc => by
      obtain ⟨x, hx, rfl⟩ := List.mem_map.mp hc
      exact hk x (n2 x hx)) d1 (by rw [List.length_map]; exact d2) n3
    refine run_named h2 (fun t ht => hs t (List.mem_cons_of_mem _ ht)) fun x hx => ?_
    rw [List.map_append] at hx
    rcases List.mem_append.mp hx with hx | hx
    · rw [known_in_app hx]
      exact hk x hx
    · have e : x = s.name := List.mem_singleton.mp hx
      subst e
      rw [known_out_app n1, known_one]
      exact hc
theorem made_fold (A : At ss s a b kp kn cs) {ks : List NC} {fs : List FC} (hd : s.det = .fold ks fs) (har : ∀ t ∈ ss, DetN t.det ∧ t.ins.length = t.det.arity) (hl : ss.length ≤ 50) {rule : Str} {made : List Stp} (hm : madeF kn ss rule s = some made) : Made ss s kp cs made ∧ ∃ kept : List NC, (kept.map (·.1)).Nodup ∧ kept.length ≤ 100 ∧ (∀ c ∈ kept, c.1 ∈ bigN) ∧ ∃ ah, made = [⟨ah, [s.ins.getD 0 ""], .map (kept.map fun c => (.col c.1, c.2, c.1))⟩, ⟨s.name, [ah], s.det⟩] := by
  obtain ⟨s1, s2, s3⟩ := step_some A.st
  have hss : s ∈ ss := by rw [A.eq]; exact List.mem_append_right _ List.mem_cons_self
  have hin := ins_one (t := s) (by rw [(har s hss).2, hd]; rfl)
  have hx : s.ins.getD 0 "" ∈ s.ins := by rw [hin]; exact List.mem_cons_self
  have hxk := s2 _ hx
  rw [hin, hd] at s3
  unfold madeF at hm
  rw [hd] at hm
  dsimp only at hm
  split at hm
  · unfold narrowF keptF at hm
    rw [(A.ext _ trivial hxk).2] at hm
    have hN : NamedC (known kp (s.ins.getD 0 "")) := run_named A.ra (fun t ht => har t (by rw [A.eq]; exact List.mem_append_left _ ht)) (fun x h => by cases h) _ hxk
    generalize hC : known kp (s.ins.getD 0 "") = C at hm hN s3
    generalize hK : C.filter (fun c => decide (c.1 ∈ usedF ks fs)) = kept at hm
    split at hm
    · cases hm
    · have fl := free_len (taken := namesS ss) (many := 1) (by rw [List.length_map]; omega)
      have hah : (freeF (namesS ss) 1).getD 0 "" ∈ freeF (namesS ss) 1 := by
        match freeF (namesS ss) 1, fl with
        | [x], _ => exact List.mem_cons_self
      generalize (freeF (namesS ss) 1).getD 0 "" = ah at hm hah
      have hfree := free_mem hah
      cases hm
      have hsub : (kept.map (·.1)).Nodup := by
        rw [← hK]
        exact hN.nod.sublist (List.filter_sublist.map _)
      have hkk : ∀ c ∈ kept, kfN C c.1 = some c.2 ∧ c ∈ C := fun c hc => by
        rw [← hK] at hc
        have := (List.mem_filter.mp hc).1
        exact ⟨kfN_of hN.nod this, this⟩
      refine ⟨?_, kept, hsub, ?_, fun c hc => hN.inn c (hkk c hc).2, ah, by rw [hd]⟩
      · have n1 : ah ∉ kp.map (·.1) := fun z => by
          rw [A.names] at z
          obtain ⟨u, hu, eu⟩ := List.mem_map.mp z
          exact hfree (eu ▸ A.mem hu)
        have e1 : stepC kp ⟨ah, [s.ins.getD 0 ""], .map (kept.map fun c => (.col c.1, c.2, c.1))⟩ = some kept := by
          refine step_of n1 (fun y hy => by rw [List.mem_singleton.mp hy]; exact hxk) ?_
          show colsD [known kp (s.ins.getD 0 "")] _ = _
          rw [hC]
          show (if (kept.map fun c => ((.col c.1, c.2, c.1) : MC)).all (fun m => (kindE (kfN C) m.1).isSome) = true then ndC ((kept.map fun c => ((.col c.1, c.2, c.1) : MC)).map fun m => (m.2.2, (kindE (kfN C) m.1).getD true)) else none) = some kept
          rw [List.all_map, List.map_map, List.map_congr_left (g := fun c : NC => c) (fun c hc => by
            show (c.1, (kfN C c.1).getD true) = c
            rw [(hkk c hc).1]
            rfl), List.map_id' kept, if_pos (List.all_eq_true.mpr fun c hc => by
            show (kfN C c.1).isSome = true
            rw [(hkk c hc).1]
            rfl)]
          unfold ndC
          rw [if_pos hsub]
        have n2 : s.name ∉ (kp ++ [(ah, kept)]).map (·.1) := fun z => by
          rw [List.map_append] at z
          rcases List.mem_append.mp z with z | z
          · exact s1 z
          · exact hfree (by rw [← show s.name = ah from List.mem_singleton.mp z]; exact A.self)
        have e2 : stepC (kp ++ [(ah, kept)]) ⟨s.name, [ah], .fold ks fs⟩ = some cs := by
          refine step_of n2 (fun y hy => by rw [List.mem_singleton.mp hy, List.map_append]; exact List.mem_append_right _ List.mem_cons_self) ?_
          show colsD [known (kp ++ [(ah, kept)]) ah] _ = _
          rw [known_out_app n1, known_one, ← s3]
          refine fold_congr fun x hx => ?_
          rw [← hK, hC]
          exact kf_filter (p := fun c : NC => decide (c.1 ∈ usedF ks fs)) fun c _ e => decide_eq_true (by rw [e]; exact hx)
        refine ⟨(kp ++ [(ah, kept)]) ++ [(s.name, cs)], by
          rw [hd, run_step e1]
          show runC (kp ++ [(ah, kept)]) [⟨s.name, [ah], .fold ks fs⟩] = _
          rw [run_step e2]
          rfl, (Ext.app _ _ _).snoc s1 n2, fun t ht => ?_⟩
        rcases List.mem_cons.mp ht with rfl | ht
        · exact .inr hfree
        · rw [List.mem_singleton.mp ht]
          exact .inl rfl
      · have := hN.good.few
        have h2 := List.length_filter_le (fun c : NC => decide (c.1 ∈ usedF ks fs)) C
        rw [hK] at h2
        omega
  · cases hm
/-! ### a name taken for another, a step dropped -/
theorem run_subst {nm f : Str} : ∀ {r : List Stp} {k kn : List (Str × List NC)}, runC k r = .ok kn → nm ∈ k.map (·.1) → f ∈ k.map (·.1) → known k f = known k nm → runC k (r.map (substS nm f)) = .ok kn
  | [], k, kn, h, _, _, _ => h
  | s :: r, k, kn, h, h1, h2, h3 => by
    obtain ⟨cs, h4, h5⟩ := run_cons h
    obtain ⟨n1, n2, n3⟩ := step_some h4
    have e : stepC k (substS nm f s) = some cs := by
      refine step_of n1 (fun x hx => ?_) ?_
      · obtain ⟨y, hy, rfl⟩ := List.mem_map.mp hx
        split
        · exact h2
        · exact n2 y hy
      · rw [← n3]
        show colsD ((s.ins.map fun x => if x = nm then f else x).map (known k)) s.det = _
        congr 1
        rw [List.map_map]
        refine List.map_congr_left fun x hx => ?_
        show known k (if x = nm then f else x) = known k x
        split
        · rename_i ex
          rw [ex, h3]
        · rfl
    rw [List.map_cons, run_step e]
    refine run_subst h5 ?_ ?_ ?_
    · rw [List.map_append]; exact List.mem_append_left _ h1
    · rw [List.map_append]; exact List.mem_append_left _ h2
    · rw [known_in_app h1, known_in_app h2, h3]
mutual
theorem eqv_self : ∀ d : PyData, nb d = true → PyData.eqv d d = true
  | .none, _ => by simp [PyData.eqv]
  | .bool _, h => by simp [nb] at h
  | .int _, _ => by simp [PyData.eqv]
  | .str _, _ => by simp [PyData.eqv]
  | .list xs, h => by
    simp only [PyData.eqv]
    exact eqvAll_self xs (by simpa [nb] using h)
  | .tuple xs, h => by
    simp only [PyData.eqv]
    exact eqvAll_self xs (by simpa [nb] using h)
  | .dict _, h => by simp [nb] at h
theorem eqvAll_self : ∀ xs : List PyData, nbAll xs = true → PyData.eqvAll xs xs = true
  | [], _ => by simp [PyData.eqvAll]
  | x :: xs, h => by
    simp only [nbAll, Bool.and_eq_true] at h
    simp only [PyData.eqvAll, Bool.and_eq_true]
    exact ⟨eqv_self x h.1, eqvAll_self xs h.2⟩
end
theorem alike_self (s : Stp) : alikeS s s = true := eqv_self _ (nb_tail s)
theorem subst_id {nm f : Str} {s : Stp} (h : nm ∉ s.ins) : substS nm f s = s := by
  unfold substS
  have : s.ins.map (fun x => if x = nm then f else x) = s.ins := by
    conv => rhs; rw [← List.map_id s.ins]
    exact List.map_congr_left fun x hx => if_neg fun e : x = nm => h (e ▸ hx)
  rw [this]
theorem same_typed (A : At ss s a b kp kn cs) {ss' : List Stp} (h : sameF ss s = some ss') : runC [] ss' = .ok kn := by
  unfold sameF at h
  split at h
  · cases h
  · rename_i hn
    cases h
    have hne : firstS ss s ≠ s.name := fun z => hn (.inr (.inl z))
    obtain ⟨s1, s2, s3⟩ := step_some A.st
    obtain ⟨o, ho, hoa⟩ : ∃ o, (firstS ss s = o.name) ∧ o ∈ a ∧ alikeS o s = true := by
      unfold firstS at hne ⊢
      rw [A.eq, List.find?_append] at hne ⊢
      cases e : a.find? (fun o => alikeS o s) with
      | some o => exact ⟨o, rfl, List.mem_of_find?_eq_some e, List.find?_some (p := fun o => alikeS o s) e⟩
      | none =>
        rw [e, List.find?_cons, alike_self] at hne
        exact absurd rfl hne
    obtain ⟨oa, ok⟩ := hoa
    obtain ⟨t1, t2, t3⟩ := alike_tail ok
    obtain ⟨b1, b2, b3⟩ := told_behind A.ra oa
    have hk : known kp o.name = cs := by
      rw [cols_alike t1 t3, t2, s3] at b3
      exact (Option.some.inj b3).symm
    have hrun := A.run
    rw [A.eq] at hrun
    obtain ⟨ka, h1, h2⟩ := run_split hrun
    rw [A.ra] at h1
    cases h1
    obtain ⟨cs', h3, h4⟩ := run_cons h2
    rw [A.st] at h3
    cases h3
    have ua : ∀ t ∈ a, s.name ∉ t.ins := fun t ht z => s1 ((told_behind A.ra ht).2.1 _ z)
    have us : s.name ∉ s.ins := fun z => s1 (s2 _ z)
    rw [ho, A.eq, List.map_append, List.map_cons, subst_id us, show a.map (substS s.name o.name) = a by
      conv => rhs; rw [← List.map_id a]
      exact List.map_congr_left fun t ht => subst_id (ua t ht)]
    refine run_join A.ra ?_
    rw [run_step A.st]
    refine run_subst h4 ?_ ?_ ?_
    · rw [List.map_append]; exact List.mem_append_right _ List.mem_cons_self
    · rw [List.map_append]; exact List.mem_append_left _ b1
    · rw [known_in_app b1, known_out_app s1, known_one, hk]
theorem drop_typed (A : At ss s a b kp kn cs) {an : Str} (han : an ∈ kn.map (·.1)) {ss' : List Stp} (h : dropF ss an s.name = some ss') : ∃ kn2, runC [] ss' = .ok kn2 ∧ an ∈ kn2.map (·.1) := by
  unfold dropF at h
  split at h
  · cases h
  · rename_i hn
    cases h
    have h1 : an ≠ s.name := fun z => hn (.inl z.symm)
    have h2 : usedS ss s.name ≠ true := fun z => hn (.inr z)
    obtain ⟨s1, s2, s3⟩ := step_some A.st
    have hrun := A.run
    have nd := A.nd
    rw [A.eq] at hrun nd
    obtain ⟨ka, g1, g2⟩ := run_split hrun
    rw [A.ra] at g1
    cases g1
    obtain ⟨cs', g3, g4⟩ := run_cons g2
    rw [A.st] at g3
    cases g3
    obtain ⟨kn2, q1, q2⟩ := run_ext (P := fun x => x ≠ s.name) (k2 := kp) g4 (fun x hx hm => by
      rw [List.map_append] at hm
      rcases List.mem_append.mp hm with hm | hm
      · exact ⟨hm, (known_in_app hm).symm⟩
      · exact absurd (List.mem_singleton.mp hm) hx) fun t ht => ⟨fun x hx e => h2 (by
        unfold usedS
        rw [List.any_eq_true]
        exact ⟨t, by rw [A.eq]; exact List.mem_append_right _ (List.mem_cons_of_mem _ ht), decide_eq_true (e ▸ hx)⟩), fun z => by
        have := (run_names g4).2.2 t ht
        rw [List.map_append] at this
        exact this (List.mem_append_left _ z)⟩
    refine ⟨kn2, ?_, (q2 an h1 han).1⟩
    rw [A.eq, place_split nd]
    exact run_join A.ra q1
end
end Kx

namespace Kx
open PySem PySem.Spec PyProof.Rows L2
/-! ### jobs as data -/
structure Ok (n : Nat) (d : PyData) : Prop where
  lay : PyData.canLay0 d = true
  dep : d.depth ≤ n
theorem Ok.mono {n m : Nat} {d : PyData} (h : Ok n d) (hm : n ≤ m) : Ok m d := ⟨h.lay, Nat.le_trans h.dep hm⟩
theorem Ok.shaped {n : Nat} {d : PyData} (h : Ok n d) (hn : n ≤ 64) : SeqAt.shaped d = true := by
  show (PyData.canLay0 d && decide (d.depth ≤ 64)) = true
  rw [h.lay, decide_eq_true (Nat.le_trans h.dep hn)]
  rfl
theorem all_lay : ∀ {ds : List PyData}, (∀ d ∈ ds, PyData.canLay0 d = true) → PyData.canLayAll0 ds = true
  | [], _ => rfl
  | d :: r, h => by
    show (PyData.canLay0 d && PyData.canLayAll0 r) = true
    rw [h d List.mem_cons_self, all_lay fun x hx => h x (List.mem_cons_of_mem _ hx)]
    rfl
theorem all_dep {n : Nat} : ∀ {ds : List PyData}, (∀ d ∈ ds, d.depth ≤ n) → PyData.depthAll ds ≤ n
  | [], _ => Nat.zero_le _
  | d :: r, h => by
    show max (PyData.depth d) (PyData.depthAll r) ≤ n
    exact Nat.max_le.mpr ⟨h d List.mem_cons_self, all_dep fun x hx => h x (List.mem_cons_of_mem _ hx)⟩
theorem dk_tup {n : Nat} {ds : List PyData} (h : ∀ d ∈ ds, Ok n d) : Ok (n + 1) (.tuple ds) :=
  ⟨all_lay fun d hd => (h d hd).lay, Nat.succ_le_succ (all_dep fun d hd => (h d hd).dep)⟩
theorem dk_str {n : Nat} {z : Str} (h : PyData.strOk z = true) : Ok n (.str z) := ⟨h, Nat.zero_le _⟩
theorem dk_int {n : Nat} {i : Int} : Ok n (.int i) := ⟨rfl, Nat.zero_le _⟩
theorem dk_two {n : Nat} {a b : PyData} (ha : Ok n a) (hb : Ok n b) : Ok (n + 1) (.tuple [a, b]) := dk_tup fun d hd => by
  rcases List.mem_cons.mp hd with rfl | hd
  · exact ha
  · rw [List.mem_singleton.mp hd]
    exact hb
theorem dk_three {n : Nat} {a b c : PyData} (ha : Ok n a) (hb : Ok n b) (hc : Ok n c) : Ok (n + 1) (.tuple [a, b, c]) := dk_tup fun d hd => by
  rcases List.mem_cons.mp hd with rfl | hd
  · exact ha
  rcases List.mem_cons.mp hd with rfl | hd
  · exact hb
  · rw [List.mem_singleton.mp hd]
    exact hc
theorem dk_four {n : Nat} {a b c e : PyData} (ha : Ok n a) (hb : Ok n b) (hc : Ok n c) (he : Ok n e) : Ok (n + 1) (.tuple [a, b, c, e]) := dk_tup fun d hd => by
  rcases List.mem_cons.mp hd with rfl | hd
  · exact ha
  rcases List.mem_cons.mp hd with rfl | hd
  · exact hb
  rcases List.mem_cons.mp hd with rfl | hd
  · exact hc
  · rw [List.mem_singleton.mp hd]
    exact he
theorem dk_nil {n : Nat} : Ok (n + 1) (.tuple []) := dk_tup fun d hd => by cases hd
theorem dk_map {A : Type} {n : Nat} {g : A → PyData} {as : List A} (h : ∀ a ∈ as, Ok n (g a)) : Ok (n + 1) (.tuple (as.map g)) := dk_tup fun d hd => by
  obtain ⟨a, ha, rfl⟩ := List.mem_map.mp hd
  exact h a ha
/-! ### how large, and of what signs -/
abbrev Sg (x : Str) : Prop := PyData.canLay0 (.str x) = true
abbrev LayE (e : Ex) : Prop := PyData.canLay0 (exD e) = true
theorem words_sg : ∀ z ∈ (["number", "quoted", "column", "two", "not", "minus", "length", "and", "read", "filter", "map", "fold", "join", "union", "unlike", "sort", "int", "text"] : List Str), PyData.strOk z = true := by decide +kernel
theorem sub_size {m : Str → Ex} {n : Nat} (h : ∀ x, (m x).size ≤ n) (hn : 1 ≤ n) : ∀ e : Ex, (subE m e).size ≤ e.size * n
  | .num _ => by show 1 ≤ 1 * n; omega
  | .quo _ => by show 1 ≤ 1 * n; omega
  | .col x => by have := h x; show (m x).size ≤ 1 * n; omega
  | .two op a b => by
    have h1 := sub_size h hn a
    have h2 := sub_size h hn b
    show (subE m a).size + (subE m b).size + 1 ≤ (a.size + b.size + 1) * n
    rw [Nat.add_mul, Nat.add_mul]
    omega
  | .nt a => by
    have h1 := sub_size h hn a
    show (subE m a).size + 1 ≤ (a.size + 1) * n
    rw [Nat.add_mul]
    omega
  | .mn a => by
    have h1 := sub_size h hn a
    show (subE m a).size + 1 ≤ (a.size + 1) * n
    rw [Nat.add_mul]
    omega
  | .ln a => by
    have h1 := sub_size h hn a
    show (subE m a).size + 1 ≤ (a.size + 1) * n
    rw [Nat.add_mul]
    omega
theorem sub_dep {m : Str → Ex} {n : Nat} (h : ∀ x, (m x).dep ≤ n) : ∀ e : Ex, (subE m e).dep ≤ e.dep + n
  | .num _ => Nat.le_add_right _ _
  | .quo _ => Nat.le_add_right _ _
  | .col x => by have := h x; show (m x).dep ≤ 1 + n; omega
  | .two op a b => by
    have h1 := sub_dep h a
    have h2 := sub_dep h b
    show max (subE m a).dep (subE m b).dep + 1 ≤ max a.dep b.dep + 1 + n
    omega
  | .nt a => by have h1 := sub_dep h a; show (subE m a).dep + 1 ≤ a.dep + 1 + n; omega
  | .mn a => by have h1 := sub_dep h a; show (subE m a).dep + 1 ≤ a.dep + 1 + n; omega
  | .ln a => by have h1 := sub_dep h a; show (subE m a).dep + 1 ≤ a.dep + 1 + n; omega
theorem sub_ops {m : Str → Ex} (h : ∀ x, OpsOk (m x)) : ∀ e : Ex, OpsOk e → OpsOk (subE m e)
  | .num _, _ => trivial
  | .quo _, _ => trivial
  | .col x, _ => h x
  | .two op a b, ⟨h1, h2, h3⟩ => ⟨h1, sub_ops h a h2, sub_ops h b h3⟩
  | .nt a, h1 => sub_ops h a h1
  | .mn a, h1 => sub_ops h a h1
  | .ln a, h1 => sub_ops h a h1
theorem lay_tup {ds : List PyData} : PyData.canLay0 (.tuple ds) = PyData.canLayAll0 ds := rfl
theorem lay_cons {d : PyData} {ds : List PyData} : PyData.canLayAll0 (d :: ds) = (PyData.canLay0 d && PyData.canLayAll0 ds) := rfl
theorem sub_lay {m : Str → Ex} (h : ∀ x, LayE (m x)) : ∀ e : Ex, LayE e → LayE (subE m e)
  | .num _, q => q
  | .quo _, q => q
  | .col x, _ => h x
  | .two op a b, q => by
    simp only [LayE, exD, lay_tup, lay_cons, Bool.and_eq_true] at q
    show PyData.canLay0 (.tuple [.str "two", .str op, exD (subE m a), exD (subE m b)]) = true
    simp only [lay_tup, lay_cons, Bool.and_eq_true]
    exact ⟨q.1, q.2.1, sub_lay h a q.2.2.1, sub_lay h b q.2.2.2.1, q.2.2.2.2⟩
  | .nt a, q => by
    simp only [LayE, exD, lay_tup, lay_cons, Bool.and_eq_true] at q
    show PyData.canLay0 (.tuple [.str "not", exD (subE m a)]) = true
    simp only [lay_tup, lay_cons, Bool.and_eq_true]
    exact ⟨q.1, sub_lay h a q.2.1, q.2.2⟩
  | .mn a, q => by
    simp only [LayE, exD, lay_tup, lay_cons, Bool.and_eq_true] at q
    show PyData.canLay0 (.tuple [.str "minus", exD (subE m a)]) = true
    simp only [lay_tup, lay_cons, Bool.and_eq_true]
    exact ⟨q.1, sub_lay h a q.2.1, q.2.2⟩
  | .ln a, q => by
    simp only [LayE, exD, lay_tup, lay_cons, Bool.and_eq_true] at q
    show PyData.canLay0 (.tuple [.str "length", exD (subE m a)]) = true
    simp only [lay_tup, lay_cons, Bool.and_eq_true]
    exact ⟨q.1, sub_lay h a q.2.1, q.2.2⟩
theorem ex_depth : ∀ e : Ex, (exD e).depth ≤ e.dep
  | .num _ => Nat.le_refl _
  | .quo _ => Nat.le_refl _
  | .col _ => Nat.le_refl _
  | .two op a b => by
    have h1 := ex_depth a
    have h2 := ex_depth b
    show max 0 (max 0 (max (exD a).depth (max (exD b).depth 0))) + 1 ≤ max a.dep b.dep + 1
    omega
  | .nt a => by have h1 := ex_depth a; show max 0 (max (exD a).depth 0) + 1 ≤ a.dep + 1; omega
  | .mn a => by have h1 := ex_depth a; show max 0 (max (exD a).depth 0) + 1 ≤ a.dep + 1; omega
  | .ln a => by have h1 := ex_depth a; show max 0 (max (exD a).depth 0) + 1 ≤ a.dep + 1; omega
def Bs (e : Ex) : Prop := e.size ≤ 80 ∧ e.dep ≤ 40
def Bb (e : Ex) : Prop := e.size ≤ 9000 ∧ e.dep ≤ 90
theorem Bs.big {e : Ex} (h : Bs e) : Bb e := ⟨by have := h.1; omega, by have := h.2; omega⟩
structure G (B : Ex → Prop) (e : Ex) : Prop where
  ops : OpsOk e
  lay : LayE e
  b : B e
theorem G.mono {B C : Ex → Prop} (h : ∀ e, B e → C e) {e : Ex} (g : G B e) : G C e := ⟨g.ops, g.lay, h e g.b⟩
def DetJ (B : Ex → Prop) : Det → Prop
  | .read cs => cs.length ≤ 100 ∧ ∀ c ∈ cs, Sg c.1
  | .filter e => G B e
  | .map ms => ms.length ≤ 100 ∧ ∀ m ∈ ms, G B m.1 ∧ Sg m.2.2
  | .fold ks fs => ks.length ≤ 100 ∧ fs.length ≤ 100 ∧ (∀ k ∈ ks, Sg k.1) ∧ ∀ m ∈ fs, Sg m.1 ∧ Sg m.2.2.2 ∧ (m.1 ≠ "count" → ∃ e, m.2.1 = some e) ∧ ∀ e, m.2.1 = some e → G Bs e
  | .join ks => ks.length ≤ 100 ∧ ∀ k ∈ ks, Sg k.1
  | .union => True
  | .unlike => True
  | .sort ws _ => ws.length ≤ 100 ∧ ∀ x ∈ ws, Sg x.1 ∧ Sg x.2
theorem DetJ.mono {B C : Ex → Prop} (h : ∀ e, B e → C e) {d : Det} (g : DetJ B d) : DetJ C d := by
  cases d with
  | filter e => exact G.mono h g
  | map ms => exact ⟨g.1, fun m hm => ⟨(g.2 m hm).1.mono h, (g.2 m hm).2⟩⟩
  | _ => exact g
structure StpJ (B : Ex → Prop) (s : Stp) : Prop where
  det : DetJ B s.det
  nm : DetN s.det
  ar : s.ins.length = s.det.arity
  sn : Sg s.name
  si : ∀ x ∈ s.ins, Sg x
theorem StpJ.mono {B C : Ex → Prop} (h : ∀ e, B e → C e) {s : Stp} (g : StpJ B s) : StpJ C s := ⟨g.det.mono h, g.nm, g.ar, g.sn, g.si⟩
theorem StpJ.big {s : Stp} (g : StpJ Bs s) : StpJ Bb s := g.mono fun _ => Bs.big
theorem StpJ.ok {s : Stp} (g : StpJ Bb s) : StpOk s := by
  refine ⟨?_, g.nm, g.ar⟩
  have ex : ∀ e, G Bb e → ExOk e := fun e h => ⟨h.ops, by have := h.b.2; omega⟩
  have h := g.det
  cases hd : s.det with
  | read cs => rw [hd] at h; exact h.1
  | filter e => rw [hd] at h; exact ex e h
  | map ms => rw [hd] at h; exact ⟨h.1, fun m hm => ex _ (h.2 m hm).1⟩
  | fold ks fs =>
    rw [hd] at h
    refine ⟨h.1, h.2.1, fun m hm hc => ?_⟩
    obtain ⟨e, he⟩ := (h.2.2.2 m hm).2.2.1 hc
    exact ⟨e, he, ex e (((h.2.2.2 m hm).2.2.2 e he).mono fun _ => Bs.big)⟩
  | join ks => rw [hd] at h; exact h.1
  | union => trivial
  | unlike => trivial
  | sort ws m => rw [hd] at h; exact h.1
structure JG (ss : List Stp) (an : Str) (n : Nat) : Prop where
  typed : ∃ kn, runC [] ss = .ok kn ∧ an ∈ kn.map (·.1)
  steps : ∀ s ∈ ss, StpJ Bs s
  len : ss.length ≤ n
  sa : Sg an
structure JB (ss : List Stp) (an : Str) (n : Nat) : Prop where
  typed : ∃ kn, runC [] ss = .ok kn ∧ an ∈ kn.map (·.1)
  steps : ∀ s ∈ ss, StpJ Bb s
  len : ss.length ≤ n
  sa : Sg an
theorem free_sg {taken : List Str} {many : Nat} {x : Str} (h : x ∈ freeF taken many) : Sg x := by
  have h := (List.mem_filter.mp (List.mem_of_mem_take h)).1
  exact (show ∀ z ∈ (List.range 60).map nmOf, PyData.canLay0 (.str z) = true by decide +kernel) x h
theorem mean_of {ms : List MC} {Q : Ex → Prop} (h : ∀ m ∈ ms, Q m.1) (h0 : Q (.num 0)) (x : Str) : Q (meanM ms x) := by
  unfold meanM
  cases e : ms.find? (fun m => decide (m.2.2 = x)) with
  | none => exact h0
  | some m => exact h m (List.mem_of_find?_eq_some e)
theorem g_num : G Bs (.num 0) := ⟨trivial, by show PyData.canLay0 (exD (.num 0)) = true; decide +kernel, by decide, by decide⟩
theorem g_sub {ms : List MC} {e : Ex} (h : ∀ m ∈ ms, G Bs m.1) (g : G Bs e) : G Bb (subE (meanM ms) e) := by
  have hm := mean_of (Q := G Bs) h g_num
  refine ⟨sub_ops (fun x => (hm x).ops) e g.ops, sub_lay (fun x => (hm x).lay) e g.lay, ?_, ?_⟩
  · have h1 := sub_size (n := 80) (fun x => (hm x).b.1) (by decide) e
    have h2 : e.size * 80 ≤ 80 * 80 := Nat.mul_le_mul_right _ g.b.1
    omega
  · have h1 := sub_dep (n := 40) (fun x => (hm x).b.2) e
    have := g.b.2
    omega
theorem g_and {f e : Ex} (h1 : G Bs f) (h2 : G Bs e) : G Bb (.two "and" f e) := by
  refine ⟨⟨.inr (by decide +kernel), h1.ops, h2.ops⟩, ?_, ?_, ?_⟩
  · show PyData.canLay0 (.tuple [.str "two", .str "and", exD f, exD e]) = true
    simp only [lay_tup, lay_cons, Bool.and_eq_true]
    exact ⟨by decide +kernel, by decide +kernel, h1.lay, h2.lay, by decide⟩
  · have a := h1.b.1
    have b := h2.b.1
    show f.size + e.size + 1 ≤ 9000
    omega
  · have a := h1.b.2
    have b := h2.b.2
    show max f.dep e.dep + 1 ≤ 90
    omega
theorem pastL_facts {ok : Str → Bool} {told : Ex} : ∀ (ns xs : List Str), ns.length = xs.length → (pastL ok told ns xs).2.length = xs.length ∧ (pastL ok told ns xs).1.length ≤ xs.length ∧ (∀ y ∈ (pastL ok told ns xs).2, y ∈ ns ∨ y ∈ xs) ∧ ∀ t ∈ (pastL ok told ns xs).1, t.name ∈ ns ∧ (∃ x ∈ xs, t.ins = [x]) ∧ t.det = .filter told
  | [], [], _ => ⟨rfl, Nat.le_refl _, (fun y h => by cases h), fun t h => by cases h⟩
  | [], _ :: _, h => by cases h
  | _ :: _, [], h => by cases h
  | n :: ns, x :: xs, h => by
    obtain ⟨h1, h2, h3, h4⟩ := pastL_facts (ok := ok) (told := told) ns xs (Nat.succ.inj h)
    by_cases c : ok x = true
    · rw [show pastL ok told (n :: ns) (x :: xs) = (⟨n, [x], .filter told⟩ :: (pastL ok told ns xs).1, n :: (pastL ok told ns xs).2) from if_pos c]
      refine ⟨congrArg (· + 1) h1, Nat.succ_le_succ h2, fun y hy => ?_, fun t ht => ?_⟩
      · rcases List.mem_cons.mp hy with rfl | hy
        · exact .inl List.mem_cons_self
        · exact (h3 y hy).imp (List.mem_cons_of_mem _) (List.mem_cons_of_mem _)
      · rcases List.mem_cons.mp ht with rfl | ht
        · exact ⟨List.mem_cons_self, ⟨x, List.mem_cons_self, rfl⟩, rfl⟩
        · obtain ⟨a, ⟨z, b, c⟩, d⟩ := h4 t ht
          exact ⟨List.mem_cons_of_mem _ a, ⟨z, List.mem_cons_of_mem _ b, c⟩, d⟩
    · rw [show pastL ok told (n :: ns) (x :: xs) = ((pastL ok told ns xs).1, x :: (pastL ok told ns xs).2) from if_neg c]
      refine ⟨congrArg (· + 1) h1, Nat.le_succ_of_le h2, fun y hy => ?_, fun t ht => ?_⟩
      · rcases List.mem_cons.mp hy with rfl | hy
        · exact .inr List.mem_cons_self
        · exact (h3 y hy).imp (List.mem_cons_of_mem _) (List.mem_cons_of_mem _)
      · obtain ⟨a, ⟨z, b, c⟩, d⟩ := h4 t ht
        exact ⟨List.mem_cons_of_mem _ a, ⟨z, List.mem_cons_of_mem _ b, c⟩, d⟩
section
variable {ss : List Stp} {s : Stp}
theorem pastG_J (hJ : ∀ t ∈ ss, StpJ Bs t) (hs : s ∈ ss) {t : Stp} (ht : t ∈ ss) {kn : List (Str × List NC)} {told : Ex} (g : G Bb told) (hl : ss.length ≤ 50) {made : List Stp} (h : pastG kn ss s t told = some made) : (∀ u ∈ made, StpJ Bb u) ∧ made.length ≤ 3 := by
  have jt := hJ t ht
  have ar2 : t.det.arity ≤ 2 := by cases t.det <;> first | exact Nat.le_refl 2 | exact Nat.le_succ 1 | exact Nat.zero_le 2
  unfold pastG at h
  split at h
  · cases h
  · cases h
    obtain ⟨h1, h2, h3, h4⟩ := pastL_facts (ok := hasIn kn told) (told := told) (freeF (namesS ss) t.ins.length) t.ins (free_len (by rw [List.length_map, jt.ar]; omega))
    refine ⟨fun u hu => ?_, ?_⟩
    · rcases List.mem_append.mp hu with hu | hu
      · obtain ⟨a, ⟨z, b, c⟩, d⟩ := h4 u hu
        refine ⟨?_, ?_, ?_, free_sg a, ?_⟩
        · rw [d]; exact g
        · rw [d]; trivial
        · rw [c, d]; rfl
        · rw [c]; exact fun y hy => by rw [List.mem_singleton.mp hy]; exact jt.si z b
      · rw [List.mem_singleton.mp hu]
        refine ⟨jt.det.mono fun _ => Bs.big, jt.nm, h1.trans jt.ar, (hJ s hs).sn, fun y hy => ?_⟩
        rcases h3 y hy with q | q
        · exact free_sg q
        · exact jt.si y q
    · rw [List.length_append, List.length_singleton]
      have := jt.ar
      show (pastL (hasIn kn told) told (freeF (namesS ss) t.ins.length) t.ins).1.length + 1 ≤ 3
      omega
theorem named_mem {nm : Str} {t : Stp} (h : namedS ss nm = some t) : t ∈ ss := List.mem_of_find?_eq_some h
theorem made_J {kn : List (Str × List NC)} (hr : runC [] ss = .ok kn) (hJ : ∀ t ∈ ss, StpJ Bs t) (hs : s ∈ ss) (hl : ss.length ≤ 50) {rule : Str} {made : List Stp} (h : madeF kn ss rule s = some made) : (∀ u ∈ made, StpJ Bb u) ∧ made.length ≤ 3 := by
  have js := hJ s hs
  have h0 := h
  unfold madeF at h
  cases hd : s.det with
  | read c => rw [hd] at h; cases h
  | join c => rw [hd] at h; cases h
  | union => rw [hd] at h; cases h
  | unlike => rw [hd] at h; cases h
  | sort c m => rw [hd] at h; cases h
  | fold ks fs =>
    obtain ⟨a, b, kp, cs, A⟩ := at_of hr hs
    obtain ⟨_, kept, k1, k2, k3, ah, e⟩ := made_fold A hd (fun t ht => ⟨(hJ t ht).nm, (hJ t ht).ar⟩) hl h0
    have sah : Sg ah := by
      rw [hd] at h
      dsimp only at h
      split at h
      · unfold narrowF at h
        split at h
        · cases h
        · rw [e] at h
          have fl := free_len (taken := namesS ss) (many := 1) (by rw [List.length_map]; omega)
          have hah : (freeF (namesS ss) 1).getD 0 "" ∈ freeF (namesS ss) 1 := by
            match freeF (namesS ss) 1, fl with
            | [x], _ => exact List.mem_cons_self
          have := congrArg (fun o => (o.getD []).map (·.name)) h
          have e2 : (freeF (namesS ss) 1).getD 0 "" = ah := (List.cons.inj this).1
          rw [← e2]
          exact free_sg hah
      · cases h
    have hin : s.ins.getD 0 "" ∈ s.ins := by
      rw [ins_one (t := s) (by rw [js.ar, hd]; rfl)]
      exact List.mem_cons_self
    subst e
    refine ⟨fun u hu => ?_, Nat.le_succ 2⟩
    rcases List.mem_cons.mp hu with rfl | hu
    · refine ⟨⟨by rw [List.length_map]; exact k2, fun m hm => ?_⟩, fun m hm => ?_, rfl, sah, fun y hy => by rw [List.mem_singleton.mp hy]; exact js.si _ hin⟩
      · obtain ⟨c, hc, rfl⟩ := List.mem_map.mp hm
        have sc := big_ok _ (k3 c hc)
        refine ⟨⟨trivial, ?_, (by decide : 1 ≤ 9000), (by decide : 1 ≤ 90)⟩, sc⟩
        show PyData.canLay0 (.tuple [.str "column", .str c.1]) = true
        simp only [lay_tup, lay_cons, Bool.and_eq_true]
        exact ⟨by decide +kernel, sc, by decide⟩
      · obtain ⟨c, hc, rfl⟩ := List.mem_map.mp hm
        exact k3 c hc
    · rw [List.mem_singleton.mp hu]
      exact ⟨js.det.mono fun _ => Bs.big, js.nm, by rw [hd]; rfl, js.sn, fun y hy => by rw [List.mem_singleton.mp hy]; exact sah⟩
  | map ms =>
    rw [hd] at h
    dsimp only at h
    have jd := js.det
    rw [hd] at jd
    cases ht : namedS ss (s.ins.getD 0 "") with
    | none => rw [ht] at h; cases h
    | some t =>
      rw [ht] at h
      dsimp only at h
      have jt := hJ t (named_mem ht)
      cases hdt : t.det with
      | map mb =>
        rw [hdt] at h
        dsimp only at h
        have jdt := jt.det
        rw [hdt] at jdt
        split at h
        · cases h
          refine ⟨fun u hu => ?_, by show 1 ≤ 3; decide⟩
          rw [List.mem_singleton.mp hu]
          have jn := js.nm
          rw [hd] at jn
          refine ⟨⟨by rw [List.length_map]; exact jd.1, fun m hm => ?_⟩, fun m hm => ?_, by rw [jt.ar, hdt]; rfl, js.sn, jt.si⟩
          · obtain ⟨c, hc, rfl⟩ := List.mem_map.mp hm
            exact ⟨g_sub (fun m hm => (jdt.2 m hm).1) (jd.2 c hc).1, (jd.2 c hc).2⟩
          · obtain ⟨c, hc, rfl⟩ := List.mem_map.mp hm
            exact jn c hc
        · cases h
      | _ => rw [hdt] at h; cases h
  | filter e =>
    rw [hd] at h
    dsimp only at h
    have jd := js.det
    rw [hd] at jd
    cases ht : namedS ss (s.ins.getD 0 "") with
    | none => rw [ht] at h; cases h
    | some t =>
      rw [ht] at h
      dsimp only at h
      have jt := hJ t (named_mem ht)
      have jdt := jt.det
      have P := fun (told : Ex) (g : G Bb told) => pastG_J hJ hs (named_mem ht) (kn := kn) g hl (made := made)
      have ge : G Bb e := G.mono (fun _ => Bs.big) jd
      cases hdt : t.det with
      | read c => rw [hdt] at h; cases h
      | sort c m => rw [hdt] at h; cases h
      | filter f =>
        rw [hdt] at h jdt
        dsimp only at h
        split at h
        · cases h
          refine ⟨fun u hu => ?_, by show 1 ≤ 3; decide⟩
          rw [List.mem_singleton.mp hu]
          exact ⟨g_and jdt jd, trivial, by rw [jt.ar, hdt]; rfl, js.sn, jt.si⟩
        · cases h
      | map ms =>
        rw [hdt] at h jdt
        dsimp only at h
        split at h
        · exact P _ (g_sub (fun m hm => (jdt.2 m hm).1) jd) h
        · cases h
      | fold ks fs =>
        rw [hdt] at h
        dsimp only at h
        split at h
        · split at h
          · exact P _ ge h
          · cases h
        · cases h
      | join ks =>
        rw [hdt] at h
        dsimp only at h
        split at h
        · exact P _ ge h
        · cases h
      | union =>
        rw [hdt] at h
        dsimp only at h
        split at h
        · exact P _ ge h
        · cases h
      | unlike =>
        rw [hdt] at h
        dsimp only at h
        split at h
        · exact P _ ge h
        · cases h
theorem kn_of {kn : List (Str × List NC)} (h : runC [] ss = .ok kn) : knOf ss = kn := by
  unfold knOf
  rw [h]
/-- what a rule makes of a right job is right -/
theorem ap_ok {an rule nm : Str} {n : Nat} (j : JG ss an n) (hn : n ≤ 45) {ss' : List Stp} (h : apF ss an rule nm = some ss') : JB ss' an (n + 2) := by
  obtain ⟨kn, hr, han⟩ := j.typed
  unfold apF at h
  cases hs0 : namedS ss nm with
  | none => rw [hs0] at h; cases h
  | some s =>
    rw [hs0] at h
    dsimp only at h
    obtain ⟨hs, hnm⟩ := find_named hs0
    obtain ⟨a, b, kp, cs, A⟩ := at_of hr hs
    have hl := j.len
    split at h
    · refine ⟨⟨kn, same_typed A h, han⟩, ?_, ?_, j.sa⟩
      · unfold sameF at h
        split at h
        · cases h
        · cases h
          intro t ht
          obtain ⟨u, hu, rfl⟩ := List.mem_map.mp ht
          have ju := (j.steps u hu).big
          refine ⟨ju.det, ju.nm, by show (u.ins.map _).length = _; rw [List.length_map]; exact ju.ar, ju.sn, fun x hx => ?_⟩
          obtain ⟨y, hy, rfl⟩ := List.mem_map.mp hx
          split
          · unfold firstS
            cases e : ss.find? (fun o => alikeS o s) with
            | none => exact (j.steps s hs).sn
            | some o => exact (j.steps o (List.mem_of_find?_eq_some e)).sn
          · exact ju.si y hy
      · unfold sameF at h
        split at h
        · cases h
        · cases h
          rw [List.length_map]
          omega
    · split at h
      · rw [← hnm] at h
        obtain ⟨kn2, q1, q2⟩ := drop_typed A han h
        unfold dropF at h
        split at h
        · cases h
        · cases h
          refine ⟨⟨kn2, q1, q2⟩, fun t ht => ?_, ?_, j.sa⟩
          · obtain ⟨u, hu, hx⟩ := List.mem_flatMap.mp ht
            split at hx
            · cases hx
            · rw [List.mem_singleton.mp hx]
              exact (j.steps u hu).big
          · have nd := A.nd
            rw [A.eq] at nd hl ⊢
            rw [place_split nd]
            rw [List.length_append, List.length_append, List.length_nil]
            rw [List.length_append, List.length_cons] at hl
            omega
      · rw [kn_of hr] at h
        cases hm : madeF kn ss rule s with
        | none => rw [hm] at h; cases h
        | some made =>
          rw [hm] at h
          have h : some (inPlace ss nm made) = some ss' := h
          cases h
          obtain ⟨m1, m2⟩ := made_J hr j.steps hs (by omega) hm
          have M : Made ss s kp cs made := by
            have har : ∀ t ∈ ss, t.ins.length = t.det.arity := fun t ht => (j.steps t ht).ar
            cases hd : s.det with
            | filter e => exact made_filter A hd har (by omega) hm
            | map ms => exact made_map A hd har hm
            | fold ks fs => exact (made_fold A hd (fun t ht => ⟨(j.steps t ht).nm, (j.steps t ht).ar⟩) (by omega) hm).1
            | _ => unfold madeF at hm; rw [hd] at hm; cases hm
          obtain ⟨kq, r1, r2, r3⟩ := M
          have nd := A.nd
          have hrun := A.run
          rw [A.eq] at nd hrun hl r3
          obtain ⟨kn2, q1, q2⟩ := replaced hrun A.ra A.st r1 r2 r3
          rw [← hnm]
          refine ⟨⟨kn2, by rw [A.eq, place_split nd]; exact q1, (q2 an trivial han).1⟩, fun t ht => ?_, ?_, j.sa⟩
          · obtain ⟨u, hu, hx⟩ := List.mem_flatMap.mp ht
            split at hx
            · exact m1 t hx
            · rw [List.mem_singleton.mp hx]
              exact (j.steps u hu).big
          · rw [A.eq, place_split nd, List.length_append, List.length_append]
            rw [List.length_append, List.length_cons] at hl
            omega
end
end Kx

namespace Kx
open PySem PySem.Spec PyProof.Rows L2
abbrev s_columns_used : Stmt := topS 12
abbrev s_with_columns : Stmt := topS 13
abbrev s_step_named : Stmt := topS 34
abbrev s_is_used : Stmt := topS 35
theorem used_parts : ∀ e : Ex, (∀ x, e ≠ .col x) → usedC e = e.parts.flatMap usedC
  | .num _, _ => rfl
  | .quo _, _ => rfl
  | .col x, h => absurd rfl (h x)
  | .two op a b, _ => by show usedC a ++ usedC b = usedC a ++ (usedC b ++ []); rw [List.append_nil]
  | .nt a, _ => by show usedC a = usedC a ++ []; rw [List.append_nil]
  | .mn a, _ => by show usedC a = usedC a ++ []; rw [List.append_nil]
  | .ln a, _ => by show usedC a = usedC a ++ []; rw [List.append_nil]
theorem used_len : ∀ e : Ex, (usedC e).length ≤ e.size
  | .num _ => Nat.zero_le _
  | .quo _ => Nat.zero_le _
  | .col x => Nat.le_refl _
  | .two op a b => by
    have h1 := used_len a
    have h2 := used_len b
    show (usedC a ++ usedC b).length ≤ a.size + b.size + 1
    rw [List.length_append]
    omega
  | .nt a => Nat.le_succ_of_le (used_len a)
  | .mn a => Nat.le_succ_of_le (used_len a)
  | .ln a => Nat.le_succ_of_le (used_len a)
theorem parts_in {e x : Ex} (h : x ∈ e.parts) : x.dep + 1 ≤ e.dep ∧ x.size + 1 ≤ e.size := by
  cases e with
  | two op a b =>
    rcases List.mem_cons.mp h with rfl | h
    · exact ⟨by show x.dep + 1 ≤ max x.dep b.dep + 1; omega, by show x.size + 1 ≤ x.size + b.size + 1; omega⟩
    · rw [List.mem_singleton.mp h]
      exact ⟨by show b.dep + 1 ≤ max a.dep b.dep + 1; omega, by show b.size + 1 ≤ a.size + b.size + 1; omega⟩
  | nt a => rw [List.mem_singleton.mp h]; exact ⟨Nat.le_refl _, Nat.le_refl _⟩
  | mn a => rw [List.mem_singleton.mp h]; exact ⟨Nat.le_refl _, Nat.le_refl _⟩
  | ln a => rw [List.mem_singleton.mp h]; exact ⟨Nat.le_refl _, Nat.le_refl _⟩
  | _ => cases h
/-! ### a job as it stands -/
def JobAt (H : Hp) (job : Addr) (as : List (Addr × Stp)) (an : Str) : Prop := ∃ st : Addr, H job = some (.tup [.ref st, .str an]) ∧ H st = some (.tup (as.map fun p => .ref p.1)) ∧ ∀ p ∈ as, StpAt H p.1 p.2
theorem StpAt.same {H H' : Hp} {a : Addr} {s : Stp} (h : StpAt H a s) (sm : Same H H') : StpAt H' a s := h.keep (same_t sm) (same_f sm)
theorem JobAt.same {H H' : Hp} {job : Addr} {as : List (Addr × Stp)} {an : Str} (h : JobAt H job as an) (sm : Same H H') : JobAt H' job as an := by
  obtain ⟨st, h1, h2, h3⟩ := h
  exact ⟨st, sm _ _ h1, sm _ _ h2, fun p hp => (h3 p hp).same sm⟩
theorem ExAt.same {H H' : Hp} {v : V} {e : Ex} (h : ExAt H v e) (sm : Same H H') : ExAt H' v e := h.keep fun a xs q => sm a _ q
section
variable {P : Program} {w : World} {K : PySem.W.Frag} {mg : Str → Option Value} {base : Heap}
def spUsed (m : Nat) : Sp := fun vs H Q _ => ∃ (v : V) (e : Ex), vs = [v] ∧ ExAt H v e ∧ e.dep ≤ m ∧ e.size ≤ 9000 ∧ ∀ (L : Addr) (H' : Hp), Same H H' → H L = none → H' L = some (.lst ((usedC e).map V.str)) → Q (.ref L) H'
abbrev N_columns_used : List Str := ["told", "names", "part"]
theorem sc_used : FnScope N_columns_used ["told"] (defScope s_columns_used) := ⟨rfl, rfl, rfl, by decide +kernel, rfl, by decide +kernel, by decide +kernel⟩
theorem ex_head {H : Hp} {v : V} : ∀ {e : Ex}, ExAt H v e → ∃ a wd rest, v = .ref a ∧ H a = some (.tup (.str wd :: rest)) ∧ ((∃ x, e = .col x ∧ wd = "column" ∧ rest = [.str x]) ∨ ((∀ x, e ≠ .col x) ∧ wd ≠ "column"))
  | .num i, ⟨a, h1, h2⟩ => ⟨a, _, _, h1, h2, .inr ⟨(fun x z => by cases z), by decide +kernel⟩⟩
  | .quo i, ⟨a, h1, h2⟩ => ⟨a, _, _, h1, h2, .inr ⟨(fun x z => by cases z), by decide +kernel⟩⟩
  | .col i, ⟨a, h1, h2⟩ => ⟨a, _, _, h1, h2, .inl ⟨i, rfl, rfl, rfl⟩⟩
  | .two _ _ _, ⟨a, _, _, h1, h2, _⟩ => ⟨a, _, _, h1, h2, .inr ⟨(fun x z => by cases z), by decide +kernel⟩⟩
  | .nt _, ⟨a, _, h1, h2, _⟩ => ⟨a, _, _, h1, h2, .inr ⟨(fun x z => by cases z), by decide +kernel⟩⟩
  | .mn _, ⟨a, _, h1, h2, _⟩ => ⟨a, _, _, h1, h2, .inr ⟨(fun x z => by cases z), by decide +kernel⟩⟩
  | .ln _, ⟨a, _, h1, h2, _⟩ => ⟨a, _, _, h1, h2, .inr ⟨(fun x z => by cases z), by decide +kernel⟩⟩
theorem ifT' {c : Bool} {A B : Prop} (h : c = true) (q : A) : if c = true then A else B := by
  rw [h]
  exact q
theorem ifF' {c : Bool} {A B : Prop} (h : c = false) (q : B) : if c = true then A else B := by
  rw [h]
  exact q
theorem str_ne {x y : Str} (h : x ≠ y) : ¬ V.str x = V.str y := fun e => h (by injection e)
theorem ok_used {f : Addr} {fd : FuncData} {m k : Nat} (F : Fun K "columns_used" "columns_used" s_columns_used f fd) (hk : 1 ≤ k) (G_parts_of : Ready P w K mg base 1 "parts_of" ["told"] spParts) (G_used : Ready P w K mg base k "columns_used" ["told"] (spUsed m)) : FnOk P w K mg base CX0 (k + 1) f fd ["told"] (spUsed (m + 1)) := by
  refine F.ok sc_used (fun vs H Q E h => ?_) (fun cdv A outer s H vs Q E hr h => ?_)
  · obtain ⟨v, e, rfl, _⟩ := h
    rfl
  obtain ⟨v, e, rfl, hx, hd, hsz, q⟩ := h
  have nd := sc_used.nd
  have hrk : Room k _ := hr
  have hr1 : Room 1 _ := hrk.mono hk
  refine ⟨_, pss_cons (ps_if (pt_cmpR op_eq (pe_ix ix_tup (pv 0) pe_int (fun _ _ => rfl)) pe_str (nomark _)) (pss_one (ps_ret (pe_lst (pa_cons (pe_ix ix_tup (pv 0) pe_int (fun _ _ => rfl)) pa_nil)))) (pss_nil))
      (pss_cons (ps_set (i := 1) nd rfl (.inl rfl) (pe_lst pa_nil))
      (pss_cons (ps_for PassesOwn.never rfl (pi_list (pe_fn G_parts_of hr1 (pa_cons (pv 0) pa_nil))) (pg_name (i := 2) nd rfl (.inl rfl)) (pss_one (ps_expr (pe_bm PySem.F.plainAttrs_list PySem.F.slot_list_extend PySem.F.type_list_extend mt_extend (pv 1) (pa_cons (pe_fn G_used hrk (pa_cons (pv 2) pa_nil)) pa_nil)))))
      (pss_one (ps_ret (pv 1))))), ?_⟩
  have z0 : 0 ≤ sizeLine := by decide
  have z1 : 1 ≤ sizeLine := by decide
  obtain ⟨a, wd, rest, rfl, ha, hw⟩ := ex_head hx
  refine ⟨_, rfl, a, _, 0, .str wd, rfl, rfl, SqT.of ha, atI_nat (j := 0) rfl, rfl, _, rfl, ?_⟩
  rcases hw with ⟨x, rfl, rfl, rfl⟩ | ⟨hc, hw⟩
  · refine ifT' (decide_eq_true rfl) ⟨_, rfl, a, _, 1, _, rfl, rfl, SqT.of ha, rfl, z1, fun L hL => q L _ (same_upd hL) hL upd_same⟩
  refine ifF' (decide_eq_false (str_ne hw)) ⟨z0, fun N hN => ?_⟩
  have s1 := same_upd (o := .lst []) hN
  have eN : upd H N (.lst []) N = some (.lst []) := upd_same
  generalize upd H N (.lst []) = H1 at s1 eN ⊢
  refine ⟨_, rfl, .ref a, e, rfl, hx.same s1, fun l xs H2 s2 hl1 hl2 hp => ⟨l, rfl, ⟨_, SqL.of hl2⟩, ?_⟩⟩
  have nlN : l ≠ N := fun z => by rw [z, eN] at hl1; cases hl1
  have eN2 := s2 _ _ eN
  have lx : xs.length = e.parts.length := Paired.length hp
  refine for_it (walk_list (xs := xs)) (fun i σ G => ∃ y2, σ = [some (.ref a), some (.ref N), y2] ∧ But N H2 G ∧ G N = some (.lst (((e.parts.take i).flatMap usedC).map V.str))) ⟨_, rfl, But.refl _ _, eN2⟩ (fun i σ G _ ⟨_, _, b, _⟩ => SqL.of (b _ _ nlN hl2)) ?_ ?_
  · rintro i v' σ G G' hi ⟨y2, rfl, b, eG⟩ ⟨rfl, hv⟩
    obtain ⟨x, hxp, hxe⟩ := paired_at hp hv
    have hm := List.mem_of_getElem? hxp
    obtain ⟨d1, d2⟩ := parts_in hm
    have kt : ∀ (a : Addr) (ys : List V), H2 a = some (.tup ys) → G' a = some (.tup ys) := fun a ys e => b a _ (fun z => by rw [z, eN2] at e; cases e) e
    refine ⟨_, rfl, .inl ⟨rfl, _, SqL.of eG⟩, _, rfl, v', x, rfl, hxe.keep kt, by omega, by omega, fun L G3 s3 hL eL => ?_⟩
    have eG3 := s3 _ _ eG
    have u1 := used_len e
    have u2 := used_len x
    have tk : e.parts.take (i + 1) = e.parts.take i ++ [x] := by
      rw [List.take_add_one, hxp]
      rfl
    have lenI : ((e.parts.take i).flatMap usedC).length ≤ e.size := by
      have : ((e.parts.take i).flatMap usedC).length ≤ (e.parts.flatMap usedC).length := by
        conv => rhs; rw [← List.take_append_drop i e.parts, List.flatMap_append, List.length_append]
        exact Nat.le_add_right _ _
      rw [← used_parts e hc] at this
      omega
    refine ⟨N, L, _, _, rfl, rfl, eG3, eL, Nat.le_trans (show _ ≤ 18000 by rw [List.length_map, List.length_map]; omega) (by decide), ?_⟩
    refine ⟨_, rfl, fun c o hc e => ?_, ?_⟩
    · rw [upd_ne hc]
      exact s3 _ _ (b c o hc e)
    · rw [upd_same, tk, List.flatMap_append, List.map_append]
      show _ = some (HO.lst (_ ++ ((usedC x ++ []).map V.str)))
      rw [List.append_nil]
  · rintro σ G ⟨y2, rfl, b, eG⟩
    rw [lx, List.take_length, ← used_parts e hc] at eG
    exact ⟨_, rfl, q N G (fun c o e => b c o (ne_of_none e hN) (s2 _ _ (s1 _ _ e))) hN eG⟩
/-! ### with_columns -/
def spWith (m : Nat) : Sp := fun vs H Q _ => ∃ (v : V) (e : Ex) (md : Addr) (kvs : List (L2.Key × V)) (mm : Str → Ex), vs = [v, .ref md] ∧ ExAt H v e ∧ e.dep ≤ m ∧ H md = some (.dK kvs) ∧ (∀ x ∈ usedC e, ∃ u, valV kvs (.inr x) = some u ∧ ExAt H u (mm x)) ∧ ∀ u H', Same H H' → ExAt H' u (subE mm e) → Q u H'
abbrev N_with_columns : List Str := ["told", "meanings"]
theorem sc_with : FnScope N_with_columns ["told", "meanings"] (defScope s_with_columns) := ⟨rfl, rfl, rfl, by decide +kernel, rfl, by decide +kernel, by decide +kernel⟩
theorem ok_with {f : Addr} {fd : FuncData} {m k : Nat} (F : Fun K "with_columns" "with_columns" s_with_columns f fd) (G_with : Ready P w K mg base k "with_columns" ["told", "meanings"] (spWith m)) : FnOk P w K mg base CX0 (k + 1) f fd ["told", "meanings"] (spWith (m + 1)) := by
  refine F.ok sc_with (fun vs H Q E h => ?_) (fun cdv A outer s H vs Q E hr h => ?_)
  · obtain ⟨v, e, md, kvs, mm, rfl, _⟩ := h
    rfl
  obtain ⟨v, e, md, kvs, mm, rfl, hx, hd, hmd, hm, q⟩ := h
  have nd := sc_with.nd
  have hrk : Room k _ := hr
  have hu64 : _ + 64 < cLine := hr.units
  have hu1 : _ + 1 < cLine := Nat.lt_of_le_of_lt (Nat.add_le_add_left (by decide : 1 ≤ 64) _) hu64
  refine ⟨_, pss_cons (ps_if (pt_cmpR op_eq (pe_ix ix_tup (pv 0) pe_int (fun _ _ => rfl)) pe_str (nomark _)) (pss_one (ps_ret (pe_dget hu1 (pv 1) (pe_ix ix_tup (pv 0) pe_int (fun _ _ => rfl)) (fun _ _ => rfl)))) (pss_nil))
      (pss_cons (ps_if (pt_cmpR op_eq (pe_ix ix_tup (pv 0) pe_int (fun _ _ => rfl)) pe_str (nomark _)) (pss_one (ps_ret (pe_tup (pa_cons pe_str (pa_cons (pe_ix ix_tup (pv 0) pe_int (fun _ _ => rfl)) (pa_cons (pe_fn G_with hrk (pa_cons (pe_ix ix_tup (pv 0) pe_int (fun _ _ => rfl)) (pa_cons (pv 1) pa_nil))) (pa_cons (pe_fn G_with hrk (pa_cons (pe_ix ix_tup (pv 0) pe_int (fun _ _ => rfl)) (pa_cons (pv 1) pa_nil))) pa_nil))))))) (pss_nil))
      (pss_cons (ps_if (pt_cmpR op_in_seq (pe_ix ix_tup (pv 0) pe_int (fun _ _ => rfl)) (pe_tup (pa_cons pe_str (pa_cons pe_str (pa_cons pe_str pa_nil)))) (by with_unfolding_all rfl)) (pss_one (ps_ret (pe_tup (pa_cons (pe_ix ix_tup (pv 0) pe_int (fun _ _ => rfl)) (pa_cons (pe_fn G_with hrk (pa_cons (pe_ix ix_tup (pv 0) pe_int (fun _ _ => rfl)) (pa_cons (pv 1) pa_nil))) pa_nil))))) (pss_nil))
      (pss_one (ps_ret (pv 0))))), ?_⟩
  have z2 : 2 ≤ sizeLine := by decide
  have z3 : 3 ≤ sizeLine := by decide
  have z4 : 4 ≤ sizeLine := by decide
  have no : ∀ {x y : Str}, x ≠ y → decide (V.str x = V.str y) = false := fun h => decide_eq_false (str_ne h)
  rcases Classical.em (∃ x, e = .nt x ∨ e = .mn x ∨ e = .ln x) with h3 | h3
  · obtain ⟨a, vx, x, wd, rfl, ha, hx, w1, w2, w3, hd, hu, back⟩ : ∃ a vx x wd, v = .ref a ∧ H a = some (.tup [.str wd, vx]) ∧ ExAt H vx x ∧ wd ∈ (["not", "minus", "length"] : List Str) ∧ wd ≠ "column" ∧ wd ≠ "two" ∧ x.dep ≤ m ∧ (∀ y ∈ usedC x, y ∈ usedC e) ∧ ∀ (t : Addr) (vx' : V) (H' : Hp), H' t = some (.tup [.str wd, vx']) → ExAt H' vx' (subE mm x) → ExAt H' (.ref t) (subE mm e) := by
      obtain ⟨x, rfl | rfl | rfl⟩ := h3
      · obtain ⟨a, vx, rfl, ha, hx⟩ := hx
        exact ⟨a, vx, x, _, rfl, ha, hx, by decide +kernel, by decide +kernel, by decide +kernel, Nat.le_of_succ_le_succ hd, fun y hy => hy, fun t vx' H' h1 h2 => ⟨t, vx', rfl, h1, h2⟩⟩
      · obtain ⟨a, vx, rfl, ha, hx⟩ := hx
        exact ⟨a, vx, x, _, rfl, ha, hx, by decide +kernel, by decide +kernel, by decide +kernel, Nat.le_of_succ_le_succ hd, fun y hy => hy, fun t vx' H' h1 h2 => ⟨t, vx', rfl, h1, h2⟩⟩
      · obtain ⟨a, vx, rfl, ha, hx⟩ := hx
        exact ⟨a, vx, x, _, rfl, ha, hx, by decide +kernel, by decide +kernel, by decide +kernel, Nat.le_of_succ_le_succ hd, fun y hy => hy, fun t vx' H' h1 h2 => ⟨t, vx', rfl, h1, h2⟩⟩
    refine ⟨_, rfl, a, _, 0, .str wd, rfl, rfl, SqT.of ha, rfl, rfl, _, rfl, ifF' (no w2) ⟨_, rfl, a, _, 0, .str wd, rfl, rfl, SqT.of ha, rfl, rfl, _, rfl, ifF' (no w3) ⟨_, rfl, a, _, 0, .str wd, rfl, rfl, SqT.of ha, rfl, z3, fun t ht => ⟨t, _, rfl, .inr (SqT.of upd_same), rfl, flat_strs ["not", "minus", "length"], _, rfl, in_strs (l := ["not", "minus", "length"]) (fun _ => ?_) (fun h => absurd w1 h)⟩⟩⟩⟩
    have u1 := same_upd (o := .tup ((["not", "minus", "length"] : List Str).map V.str)) ht
    refine ⟨_, rfl, a, _, 0, .str wd, rfl, rfl, SqT.of (u1 _ _ ha), rfl, _, rfl, a, _, 1, vx, rfl, rfl, SqT.of (u1 _ _ ha), rfl, _, rfl, vx, x, md, kvs, mm, rfl, hx.same u1, hd, u1 _ _ hmd, fun y hy => (hm y (hu y hy)).imp fun u h => ⟨h.1, h.2.same u1⟩, fun u H2 s2 hu2 => ⟨z2, fun t2 ht2 => ?_⟩⟩
    have s3 := same_upd (o := .tup [.str wd, u]) ht2
    exact q (.ref t2) _ ((u1.trans s2).trans s3) (back t2 u _ upd_same (hu2.same s3))
  cases e with
  | col x =>
    obtain ⟨a, rfl, ha⟩ := hx
    obtain ⟨u, hv, hue⟩ := hm x List.mem_cons_self
    exact ⟨_, rfl, a, _, 0, _, rfl, rfl, SqT.of ha, rfl, rfl, _, rfl, ifT' (decide_eq_true rfl) ⟨_, rfl, _, rfl, a, _, 1, _, rfl, rfl, SqT.of ha, rfl, md, u, rfl, by rw [← hv]; exact DGet.k (k := .inr x) hmd, q u H (Same.refl _) hue⟩⟩
  | two op x y =>
    obtain ⟨a, vx, vy, rfl, ha, hx, hy⟩ := hx
    have hd' : x.dep ≤ m ∧ y.dep ≤ m := by
      have : max x.dep y.dep + 1 ≤ m + 1 := hd
      omega
    refine ⟨_, rfl, a, _, 0, _, rfl, rfl, SqT.of ha, rfl, rfl, _, rfl, ifF' (no (by decide +kernel)) ⟨_, rfl, a, _, 0, _, rfl, rfl, SqT.of ha, rfl, rfl, _, rfl, ifT' (decide_eq_true rfl) ?_⟩⟩
    refine ⟨_, rfl, a, _, 1, _, rfl, rfl, SqT.of ha, rfl, _, rfl, a, _, 2, _, rfl, rfl, SqT.of ha, rfl, _, rfl, vx, x, md, kvs, mm, rfl, hx, hd'.1, hmd, fun z hz => hm z (List.mem_append_left _ hz), fun u H2 s2 hu2 => ?_⟩
    refine ⟨_, rfl, a, _, 3, _, rfl, rfl, SqT.of (s2 _ _ ha), rfl, _, rfl, vy, y, md, kvs, mm, rfl, hy.same s2, hd'.2, s2 _ _ hmd, fun z hz => (hm z (List.mem_append_right _ hz)).imp fun u h => ⟨h.1, h.2.same s2⟩, fun u3 H3 s3 hu3 => ⟨z4, fun t ht => ?_⟩⟩
    have s4 := same_upd (o := .tup [.str "two", .str op, u, u3]) ht
    exact q (.ref t) _ ((s2.trans s3).trans s4) ⟨t, u, u3, rfl, upd_same, (hu2.same s3).same s4, hu3.same s4⟩
  | num i =>
    obtain ⟨a, rfl, ha⟩ := hx
    refine ⟨_, rfl, a, _, 0, _, rfl, rfl, SqT.of ha, rfl, rfl, _, rfl, ifF' (no (by decide +kernel)) ⟨_, rfl, a, _, 0, _, rfl, rfl, SqT.of ha, rfl, rfl, _, rfl, ifF' (no (by decide +kernel)) ⟨_, rfl, a, _, 0, _, rfl, rfl, SqT.of ha, rfl, z3, fun t ht => ⟨t, _, rfl, .inr (SqT.of upd_same), rfl, flat_strs ["not", "minus", "length"], _, rfl, in_strs (l := ["not", "minus", "length"]) (fun h => absurd h (by decide +kernel)) (fun _ => ?_)⟩⟩⟩⟩
    exact ⟨_, rfl, q _ _ (same_upd ht) ⟨a, rfl, same_upd ht _ _ ha⟩⟩
  | quo z =>
    obtain ⟨a, rfl, ha⟩ := hx
    refine ⟨_, rfl, a, _, 0, _, rfl, rfl, SqT.of ha, rfl, rfl, _, rfl, ifF' (no (by decide +kernel)) ⟨_, rfl, a, _, 0, _, rfl, rfl, SqT.of ha, rfl, rfl, _, rfl, ifF' (no (by decide +kernel)) ⟨_, rfl, a, _, 0, _, rfl, rfl, SqT.of ha, rfl, z3, fun t ht => ⟨t, _, rfl, .inr (SqT.of upd_same), rfl, flat_strs ["not", "minus", "length"], _, rfl, in_strs (l := ["not", "minus", "length"]) (fun h => absurd h (by decide +kernel)) (fun _ => ?_)⟩⟩⟩⟩
    exact ⟨_, rfl, q _ _ (same_upd ht) ⟨a, rfl, same_upd ht _ _ ha⟩⟩
  | nt x => exact absurd ⟨x, .inl rfl⟩ h3
  | mn x => exact absurd ⟨x, .inr (.inl rfl)⟩ h3
  | ln x => exact absurd ⟨x, .inr (.inr rfl)⟩ h3
end
end Kx

namespace Kx
open PySem PySem.Spec PyProof.Rows L2
abbrev s_map_meanings : Stmt := topS 37
abbrev s_has_all : Stmt := topS 40
abbrev s_one_filter : Stmt := topS 38
theorem Same.sqT {K : PySem.W.Frag} {H H' : Hp} (h : Same H H') {a : Addr} {xs : List V} (q : SqT K H a xs) : SqT K H' a xs := by
  rcases q with (q | ⟨o, q⟩) | q
  · exact .inl (.inl (h _ _ q))
  · exact .inl (.inr ⟨o, h _ _ q⟩)
  · exact .inr q
theorem Same.sqL {K : PySem.W.Frag} {H H' : Hp} (h : Same H H') {a : Addr} {xs : List V} (q : SqL K H a xs) : SqL K H' a xs := by
  rcases q with (q | ⟨o, q⟩) | q
  · exact .inl (.inl (h _ _ q))
  · exact .inl (.inr ⟨o, h _ _ q⟩)
  · exact .inr q
theorem putK_len {kvs : List (L2.Key × V)} {k : L2.Key} {v : V} : (putK kvs k v).length ≤ kvs.length + 1 := by
  unfold putK
  split
  · rw [List.length_map]
    exact Nat.le_succ _
  · rw [List.length_append]
    exact Nat.le_refl _
/-- x in a list, a tuple or a dict -/
def rInAny (K : PySem.W.Frag) : R2 := fun x y H Q => rIn K false x y H Q ∨ ∃ a o, y = .ref a ∧ DGet H a x o ∧ Q (.bl o.isSome) H
theorem op_in_any {X : Cx} (hu : X.A.units + 1 < cLine) : OpR X (compareOp .In) (rInAny X.K) := by
  intro pins s σ H x y v u Q I rx ry h
  rcases h with h | ⟨a, o, rfl, g, q⟩
  · exact op_in_seq pins s σ H x y v u Q I rx ry h
  · obtain rfl : u = Value.ref a := ry
    exact d_in hu I g rx fun s3 I3 => ⟨.bl o.isSome, H, I3, rfl, q⟩
section
variable {P : Program} {w : World} {K : PySem.W.Frag} {mg : Str → Option Value} {base : Heap}
abbrev namedA (as : List (Addr × Stp)) (nm : Str) : Option (Addr × Stp) := as.find? fun p => decide (p.2.name = nm)
def spNamed : Sp := fun vs H Q _ => ∃ (job : Addr) (as : List (Addr × Stp)) (an nm : Str), vs = [.ref job, .str nm] ∧ JobAt H job as an ∧ (∀ p, namedA as nm = some p → Q (.ref p.1) H) ∧ (namedA as nm = none → Q .non H)
abbrev N_step_named : List Str := ["job", "name", "step"]
theorem sc_named : FnScope N_step_named ["job", "name"] (defScope s_step_named) := ⟨rfl, rfl, rfl, by decide +kernel, rfl, by decide +kernel, by decide +kernel⟩
theorem find_take {α : Type} {p : α → Bool} {l : List α} {i : Nat} {x : α} (h : l[i]? = some x) (hp : p x = true) (hn : (l.take i).find? p = none) : l.find? p = some x := by
  obtain ⟨hi, e⟩ := List.getElem?_eq_some_iff.mp h
  have e2 : l = l.take i ++ x :: l.drop (i + 1) := by
    rw [← e, ← List.drop_eq_getElem_cons hi, List.take_append_drop]
  rw [e2, List.find?_append, hn, List.find?_cons, hp]
  rfl
theorem find_step {α : Type} {p : α → Bool} {l : List α} {i : Nat} {x : α} (h : l[i]? = some x) (hp : p x = false) (hn : (l.take i).find? p = none) : (l.take (i + 1)).find? p = none := by
  rw [List.take_add_one, h, List.find?_append, hn]
  show ([x]).find? p = none
  rw [List.find?_cons, hp]
  rfl
theorem ok_named {f : Addr} {fd : FuncData} (F : Fun K "step_named" "step_named" s_step_named f fd) : FnOk P w K mg base CX0 1 f fd ["job", "name"] spNamed := by
  refine F.ok sc_named (fun vs H Q E h => ?_) (fun cdv A outer s H vs Q E hr h => ?_)
  · obtain ⟨job, as, an, nm, rfl, _⟩ := h
    rfl
  obtain ⟨job, as, an, nm, rfl, ⟨st, h1, h2, h3⟩, q1, q2⟩ := h
  have nd := sc_named.nd
  refine ⟨_, pss_cons (ps_for PassesOwn.never rfl (pi_tup (pe_ix ix_tup (pv 0) pe_int (fun _ _ => rfl))) (pg_name (i := 2) nd rfl (.inl rfl)) (pss_one (ps_if (pt_cmpR op_eq (pe_ix ix_tup (pv 2) pe_int (fun _ _ => rfl)) (pv 1) (nomark _)) (pss_one (ps_ret (pv 2))) (pss_nil))))
      (pss_one (ps_ret pe_non)), ?_⟩
  refine ⟨_, rfl, job, _, 0, _, rfl, rfl, SqT.of h1, rfl, st, rfl, ⟨_, SqT.of h2⟩, ?_⟩
  refine for_tup (K := K) (a := st) (xs := as.map fun p => .ref p.1) (fun i σ G => ∃ y, σ = [some (.ref job), some (.str nm), y] ∧ G = H ∧ namedA (as.take i) nm = none) ⟨_, rfl, rfl, rfl⟩ (fun i σ G _ ⟨_, _, e, _⟩ => by rw [e]; exact SqT.of h2) ?_ ?_
  · rintro i x σ G hx ⟨y, rfl, rfl, hn⟩
    rw [List.getElem?_map] at hx
    obtain ⟨p, hp, rfl⟩ := Option.map_eq_some_iff.mp hx
    obtain ⟨inp, dv, x1, x2, x3⟩ := h3 p (List.mem_of_getElem? hp)
    refine ⟨_, rfl, p.1, _, 0, .str p.2.name, rfl, rfl, SqT.of x1, rfl, _, rfl, rfl, _, rfl, ?_⟩
    by_cases c : p.2.name = nm
    · exact ifT' (decide_eq_true (by rw [c])) ⟨_, rfl, q1 p (find_take hp (decide_eq_true c) hn)⟩
    · exact ifF' (decide_eq_false (str_ne c)) ⟨_, rfl, rfl, find_step hp (decide_eq_false c) hn⟩
  · rintro σ G ⟨y, rfl, rfl, hn⟩
    rw [List.length_map, List.take_length] at hn
    exact q2 hn
/-! ### is_used -/
def spIsUsed : Sp := fun vs H Q _ => ∃ (job : Addr) (as : List (Addr × Stp)) (an nm : Str), vs = [.ref job, .str nm] ∧ JobAt H job as an ∧ as.length ≤ 100 ∧ ∀ H', Same H H' → Q (.bl (usedS (as.map (·.2)) nm)) H'
abbrev N_is_used : List Str := ["job", "name", "step"]
theorem sc_isused : FnScope N_is_used ["job", "name"] (defScope s_is_used) := ⟨rfl, rfl, rfl, by decide +kernel, rfl, by decide +kernel, by decide +kernel⟩
theorem ok_isused {f : Addr} {fd : FuncData} (F : Fun K "is_used" "is_used" s_is_used f fd) (m_any : mg "any" = none) : FnOk P w K mg base CX0 1 f fd ["job", "name"] spIsUsed := by
  refine F.ok sc_isused (fun vs H Q E h => ?_) (fun cdv A outer s H vs Q E hr h => ?_)
  · obtain ⟨job, as, an, nm, rfl, _⟩ := h
    rfl
  obtain ⟨job, as, an, nm, rfl, ⟨st, h1, h2, h3⟩, hl, q⟩ := h
  have nd := sc_isused.nd
  refine ⟨_, pss_one (ps_ret (pe_callB (cr_any rfl) (by rfl) m_any PyProof.Rows.boot_any (pa_cons (pe_lc (own := [("step", 2)]) (g := gName 2) (tt := tYes) (te := tOp (rIn K false) (tVar 1) (tOp (rIxT K) (tVar 2) (tC (.int 2)))) rfl nd (pi_tup (pe_ix ix_tup (pv 0) pe_int (fun _ _ => rfl))) (blkOk_by (N := N_is_used) (sc := defScope s_is_used) (by decide +kernel)) (fun _ _ _ _ _ => pg_name (i := 2) nd rfl (Or.inl rfl)) (fun _ _ _ _ _ => pts_nil) (fun _ _ _ _ _ => (pe_cmpR op_in_seq (pv 1) (pe_ix ix_tup (pv 2) pe_int (fun _ _ => rfl)) rfl))) pa_nil))), ?_⟩
  refine ⟨_, rfl, job, _, 0, _, rfl, rfl, SqT.of h1, rfl, st, rfl, ⟨_, SqT.of h2⟩, fun D hD => ?_⟩
  refine lc_tup (K := K) (a := st) (xs := as.map fun p => .ref p.1) (fun i G => Same H G ∧ G D = some (.lst ((((as.map (·.2)).map fun s => decide (nm ∈ s.ins)).take i).map V.bl))) ⟨same_upd hD, upd_same⟩ (fun i G _ h => SqT.of (h.1 _ _ h2)) ?_ ?_
  · rintro i x G hx ⟨sm, eD⟩
    rw [List.getElem?_map] at hx
    obtain ⟨p, hp, rfl⟩ := Option.map_eq_some_iff.mp hx
    obtain ⟨inp, dv, x1, x2, x3⟩ := (h3 p (List.mem_of_getElem? hp)).same sm
    have tk : ((as.map (·.2)).map fun s => decide (nm ∈ s.ins)).take (i + 1) = ((as.map (·.2)).map fun s => decide (nm ∈ s.ins)).take i ++ [decide (nm ∈ p.2.ins)] := by
      rw [List.take_add_one, List.getElem?_map, List.getElem?_map, hp]
      rfl
    refine ⟨rfl, _, rfl, _, rfl, p.1, _, 2, .ref inp, rfl, rfl, SqT.of x1, rfl, inp, _, rfl, .inr (SqT.of x2), rfl, flat_strs p.2.ins, ?_⟩
    rw [if_neg Bool.false_ne_true, inV_str]
    refine ⟨_, eD, Nat.lt_of_le_of_lt (show _ ≤ 100 by rw [List.length_map, List.length_take, List.length_map, List.length_map]; omega) (by decide), fun b o ex => ?_, ?_⟩
    · rw [upd_ne (ne_of_none ex hD)]
      exact sm _ _ ex
    · rw [tk, List.map_append]
      exact upd_same
  · rintro G ⟨sm, eD⟩
    rw [List.length_map, List.take_of_length_le (by rw [List.length_map, List.length_map]; exact Nat.le_refl _)] at eD
    refine ⟨D, _, rfl, SqL.of eD, ?_⟩
    have := q G sm
    unfold usedS at this
    rw [List.any_map]
    exact this
/-! ### has_all -/
/-- the words that stand in a tuple or a dict -/
def WordsAt (K : PySem.W.Frag) (H : Hp) (a : Addr) (ws : List Str) : Prop := SqT K H a (ws.map V.str) ∨ ∃ kvs : List (L2.Key × V), H a = some (.dK kvs) ∧ ∀ x, (valV kvs (.inr x)).isSome = decide (x ∈ ws)
theorem WordsAt.same {H H' : Hp} {a : Addr} {ws : List Str} (h : WordsAt K H a ws) (s : Same H H') : WordsAt K H' a ws := h.imp (Same.sqT s) fun ⟨kvs, h1, h2⟩ => ⟨kvs, s _ _ h1, h2⟩
def spHasAll (K : PySem.W.Frag) : Sp := fun vs H Q _ => ∃ (l a : Addr) (xs ws : List Str), vs = [.ref l, .ref a] ∧ SqL K H l (xs.map V.str) ∧ xs.length ≤ 10000 ∧ WordsAt K H a ws ∧ ∀ H', Same H H' → Q (.bl (xs.all fun x => decide (x ∈ ws))) H'
abbrev N_has_all : List Str := ["names", "places", "name"]
theorem sc_hasall : FnScope N_has_all ["names", "places"] (defScope s_has_all) := ⟨rfl, rfl, rfl, by decide +kernel, rfl, by decide +kernel, by decide +kernel⟩
theorem ok_hasall {f : Addr} {fd : FuncData} (F : Fun K "has_all" "has_all" s_has_all f fd) (m_all : mg "all" = none) : FnOk P w K mg base CX0 1 f fd ["names", "places"] (spHasAll K) := by
  refine F.ok sc_hasall (fun vs H Q E h => ?_) (fun cdv A outer s H vs Q E hr h => ?_)
  · obtain ⟨l, a, xs, ws, rfl, _⟩ := h
    rfl
  obtain ⟨l, a, xs, ws, rfl, h1, hl, h2, q⟩ := h
  have nd := sc_hasall.nd
  have hu64 : _ + 64 < cLine := hr.units
  have hu1 : _ + 1 < cLine := Nat.lt_of_le_of_lt (Nat.add_le_add_left (by decide : 1 ≤ 64) _) hu64
  refine ⟨_, pss_one (ps_ret (pe_callB (cr_all rfl) (by rfl) m_all PyProof.Rows.boot_all (pa_cons (pe_lc (own := [("name", 2)]) (g := gName 2) (tt := tYes) (te := tOp (rInAny K) (tVar 2) (tVar 1)) rfl nd (pi_list (pv 0)) (blkOk_by (N := N_has_all) (sc := defScope s_has_all) (by decide +kernel)) (fun _ _ _ _ _ => pg_name (i := 2) nd rfl (Or.inl rfl)) (fun _ _ _ _ _ => pts_nil) (fun _ _ _ _ _ => (pe_cmpR (op_in_any hu1) (pv 2) (pv 1) rfl))) pa_nil))), ?_⟩
  refine ⟨_, rfl, l, rfl, ⟨_, h1⟩, fun D hD => ?_⟩
  refine lc_list (K := K) (a := l) (xs := xs.map V.str) (fun i G => Same H G ∧ G D = some (.lst (((xs.map fun x => decide (x ∈ ws)).take i).map V.bl))) ⟨same_upd hD, upd_same⟩ (fun i G _ h => Same.sqL h.1 h1) ?_ ?_
  · rintro i x G hx ⟨sm, eD⟩
    rw [List.getElem?_map] at hx
    obtain ⟨z, hz, rfl⟩ := Option.map_eq_some_iff.mp hx
    have tk : (xs.map fun x => decide (x ∈ ws)).take (i + 1) = (xs.map fun x => decide (x ∈ ws)).take i ++ [decide (z ∈ ws)] := by
      rw [List.take_add_one, List.getElem?_map, hz]
      rfl
    have fin : ∃ acc, G D = some (.lst acc) ∧ acc.length < sizeLine ∧ Same H (upd G D (.lst (acc ++ [V.bl (decide (z ∈ ws))]))) ∧ upd G D (.lst (acc ++ [V.bl (decide (z ∈ ws))])) D = some (.lst (((xs.map fun x => decide (x ∈ ws)).take (i + 1)).map V.bl)) := by
      refine ⟨_, eD, Nat.lt_of_le_of_lt (show _ ≤ 10000 by rw [List.length_map, List.length_take, List.length_map]; omega) (by decide), fun b o ex => ?_, ?_⟩
      · rw [upd_ne (ne_of_none ex hD)]
        exact sm _ _ ex
      · rw [tk, List.map_append]
        exact upd_same
    refine ⟨rfl, _, rfl, _, rfl, ?_⟩
    rcases h2.same sm with h | ⟨kvs, e1, e2⟩
    · refine .inl ⟨a, _, rfl, .inr h, rfl, flat_strs ws, ?_⟩
      rw [if_neg Bool.false_ne_true, inV_str]
      exact fin
    · refine .inr ⟨a, _, rfl, DGet.k (k := .inr z) e1, ?_⟩
      rw [e2]
      exact fin
  · rintro G ⟨sm, eD⟩
    rw [List.length_map, List.take_of_length_le (by rw [List.length_map]; exact Nat.le_refl _)] at eD
    refine ⟨D, _, rfl, SqL.of eD, ?_⟩
    have := q G sm
    rw [List.all_map]
    exact this
/-! ### map_meanings -/
/-- what a dict of meanings tells -/
def MeansAt (H : Hp) (D : Addr) (ms : List MC) : Prop := ∃ kvs : List (L2.Key × V), H D = some (.dK kvs) ∧ ∀ x, (∃ m ∈ ms, m.2.2 = x) → ∃ u, valV kvs (.inr x) = some u ∧ ExAt H u (meanM ms x)
def spMeans (K : PySem.W.Frag) : Sp := fun vs H Q _ => ∃ (t : Addr) (ms : List MC), vs = [.ref t] ∧ DetAt H (.ref t) (.map ms) ∧ (ms.map (·.2.2)).Nodup ∧ ms.length ≤ 100 ∧ ∀ D H', Same H H' → H D = none → MeansAt H' D ms → Q (.ref D) H'
abbrev N_map_meanings : List Str := ["details", "told", "name"]
theorem sc_means : FnScope N_map_meanings ["details"] (defScope s_map_meanings) := ⟨rfl, rfl, rfl, by decide +kernel, rfl, by decide +kernel, by decide +kernel⟩
theorem mean_at {ms : List MC} (nd : (ms.map (·.2.2)).Nodup) {m : MC} (h : m ∈ ms) : meanM ms m.2.2 = m.1 := by
  unfold meanM
  cases e : ms.find? (fun x => decide (x.2.2 = m.2.2)) with
  | none => exact absurd (decide_eq_true rfl) (List.find?_eq_none.mp e m h)
  | some y =>
    have h1 := List.mem_of_find?_eq_some e
    have h2 : y.2.2 = m.2.2 := of_decide_eq_true (List.find?_some (p := fun x : MC => decide (x.2.2 = m.2.2)) e)
    have : y = m := by
      clear e
      induction ms with
      | nil => cases h
      | cons c r ih =>
        obtain ⟨n1, n2⟩ := List.nodup_cons.mp nd
        rcases List.mem_cons.mp h with h | h
        · rcases List.mem_cons.mp h1 with h1 | h1
          · rw [h, h1]
          · exact absurd (List.mem_map.mpr ⟨y, h1, by rw [h2, h]⟩) n1
        · rcases List.mem_cons.mp h1 with h1 | h1
          · exact absurd (List.mem_map.mpr ⟨m, h, by rw [← h2, h1]⟩) n1
          · exact ih n2 h h1
    rw [this]
    rfl
theorem ok_means {f : Addr} {fd : FuncData} (F : Fun K "map_meanings" "map_meanings" s_map_meanings f fd) : FnOk P w K mg base CX0 1 f fd ["details"] (spMeans K) := by
  refine F.ok sc_means (fun vs H Q E h => ?_) (fun cdv A outer s H vs Q E hr h => ?_)
  · obtain ⟨t, ms, rfl, _⟩ := h
    rfl
  obtain ⟨t, ms, rfl, ⟨t', as, ev, h1, h2, h3⟩, hnd, hl, q⟩ := h
  cases ev
  have nd := sc_means.nd
  refine ⟨_, pss_one (ps_ret (pe_dc (own := [("told", 1), ("name", 2)]) (g := (gTup K 2 (gCons (gName 1) (gCons (gName 2) gNil)))) (tt := tYes) (tk := tVar 2) (tv := tVar 1) rfl nd (pi_tup (pv 0)) (blkOk_by (N := N_map_meanings) (sc := defScope s_map_meanings) (by decide +kernel)) (fun _ _ _ _ _ => pg_tup rfl (pgs_cons (pg_name (i := 1) nd rfl (.inl rfl)) (pgs_cons (pg_name (i := 2) nd rfl (.inl rfl)) pgs_nil))) (fun _ _ _ _ _ => pts_nil) (fun _ _ _ _ _ => (pv 2)) (fun _ _ _ _ _ => (pv 1)))), ?_⟩
  refine ⟨_, rfl, t, rfl, ⟨_, SqT.of h1⟩, fun D hD => ?_⟩
  refine dc_tup (K := K) (a := t) (xs := as.map fun p => .ref p.1) (fun i G => Same H G ∧ ∃ kvs : List (L2.Key × V), G D = some (.dK kvs) ∧ kvs.length ≤ i ∧ ∀ p ∈ as.take i, ∃ told, valV kvs (.inr p.2.2.2) = some told ∧ ExAt H told p.2.1) ⟨same_upd hD, [], upd_same, Nat.le_refl _, fun p hp => by cases hp⟩ (fun i G _ h => SqT.of (h.1 _ _ h1)) ?_ ?_
  · rintro i x G hx ⟨sm, kvs, eD, hk, hall⟩
    rw [List.getElem?_map] at hx
    obtain ⟨p, hp, rfl⟩ := Option.map_eq_some_iff.mp hx
    obtain ⟨told, x1, x2⟩ := h2 p (List.mem_of_getElem? hp)
    have hi : i < as.length := (List.getElem?_eq_some_iff.mp hp).1
    have la : as.length ≤ 100 := by
      rw [← h3, List.length_map] at hl
      exact hl
    refine ⟨p.1, _, rfl, SqT.of (sm _ _ x1), rfl, _, _, rfl, _, _, rfl, rfl, rfl, _, rfl, _, rfl, kvs, .inr p.2.2.2, rfl, eD, Nat.lt_of_le_of_lt (show _ ≤ 100 by omega) (by decide), fun b o ex => ?_, putK kvs (.inr p.2.2.2) told, upd_same, ?_, fun r hr => ?_⟩
    · rw [upd_ne (ne_of_none ex hD)]
      exact sm _ _ ex
    · exact Nat.le_trans putK_len (Nat.succ_le_succ hk)
    · rw [List.take_add_one, hp] at hr
      rw [valV_put]
      by_cases c : r.2.2.2 = p.2.2.2
      · have er : r.2 = p.2 := by
          have hr2 : r ∈ as := by
            rcases List.mem_append.mp hr with hr | hr
            · exact List.mem_of_mem_take hr
            · rw [List.mem_singleton.mp hr]; exact List.mem_of_getElem? hp
          have e1 := mean_at hnd (m := r.2) (by rw [← h3]; exact List.mem_map.mpr ⟨r, hr2, rfl⟩)
          have e2 := mean_at hnd (m := p.2) (by rw [← h3]; exact List.mem_map.mpr ⟨p, List.mem_of_getElem? hp, rfl⟩)
          rw [← h3] at hnd
          have : ∀ {l : List (Addr × MC)}, ((l.map (·.2)).map (·.2.2)).Nodup → r ∈ l → p ∈ l → r.2 = p.2 := by
            intro l
            induction l with
            | nil => intro _ h; cases h
            | cons y l ih =>
              intro nd h4 h5
              obtain ⟨n1, n2⟩ := List.nodup_cons.mp nd
              rcases List.mem_cons.mp h4 with h4 | h4
              · rcases List.mem_cons.mp h5 with h5 | h5
                · rw [h4, h5]
                · exact absurd (List.mem_map.mpr ⟨p.2, List.mem_map.mpr ⟨p, h5, rfl⟩, by rw [← c, h4]⟩) n1
              · rcases List.mem_cons.mp h5 with h5 | h5
                · exact absurd (List.mem_map.mpr ⟨r.2, List.mem_map.mpr ⟨r, h4, rfl⟩, by rw [c, h5]⟩) n1
                · exact ih n2 h4 h5
          exact this hnd hr2 (List.mem_of_getElem? hp)
        rw [if_pos (by rw [c]), er]
        exact ⟨told, rfl, x2⟩
      · rw [if_neg (fun z => c (Sum.inr.inj z))]
        rcases List.mem_append.mp hr with hr | hr
        · exact hall r hr
        · have e : r = p := List.mem_singleton.mp hr
          rw [e] at c
          exact absurd rfl c
  · rintro G ⟨sm, kvs, eD, hk, hall⟩
    rw [List.length_map, List.take_length] at hall
    refine q D G sm hD ⟨kvs, eD, fun x ⟨m, hm, ex⟩ => ?_⟩
    rw [← h3] at hm
    obtain ⟨p, hp, rfl⟩ := List.mem_map.mp hm
    obtain ⟨told, a1, a2⟩ := hall p hp
    rw [← ex, mean_at hnd (by rw [← h3]; exact List.mem_map.mpr ⟨p, hp, rfl⟩)]
    exact ⟨told, a1, a2.same sm⟩
end
end Kx

namespace Dk
open PySem PySem.Spec PyProof.Rows L2
/-! ### a dict comprehension that is named -/
section
variable {X : Cx}
theorem swd_true {kx vx : Expr} {gs : List Comprehension} {scope : Scope} {pos py : Pos} {y : Str} {l : Nat} {env : Env} (hk : env.scope.kind = .function) (hy : env.scope.names.lookup y = some .local) (hl : (py.line == pos.line) = true)
    (ha : (scope.names.any fun (n, k) => n == y && (k == .local || k == .cell)) = false) : swapsWith (.DictComp kx vx gs scope pos) (some (.Name y py)) l env = pure true := by
  have ky : env.kindOf y = some .local := hy
  have hb : env.blockKind = .function := by unfold Env.blockKind; rw [hk]; rfl
  unfold swapsWith
  simp only [hb, ky, ha, Expr.pos, hl]
  rfl
theorem ps_setDc {i : Nat} {y : Str} {py : Pos} {kx vx tg iter : Expr} {ifs : List Expr} {scope : Scope} {own : List (Str × Nat)} {pos spos : Pos} {wi : TI} {g : TG} {tt : TT} {tk tv : TE} (hc : X.calm = true) (hN : X.N.Nodup) (hy : X.N[i]? = some y) (hyl : X.env.scope.names.lookup y = some .local)
    (hsw : swapsWith (.DictComp kx vx [⟨tg, iter, ifs, 0⟩] scope pos) (some (.Name y py)) spos.line X.env = pure true) (hi : PI X tg iter wi) (ok : BlkOk X.N X.env.scope scope own)
    (hg : ∀ (s : Shared) (H : Hp) (C : Addr) (cl : List (Str × Addr)) (fp : List Addr), PG (X.blk s H scope (compEnvC scope cl C X.env) fp) tg g) (ht : ∀ (s : Shared) (H : Hp) (C : Addr) (cl : List (Str × Addr)) (fp : List Addr), PTs (X.blk s H scope (compEnvC scope cl C X.env) fp) ifs tt)
    (hk : ∀ (s : Shared) (H : Hp) (C : Addr) (cl : List (Str × Addr)) (fp : List Addr), PE (X.blk s H scope (compEnvC scope cl C X.env) fp) kx tk)
    (he : ∀ (s : Shared) (H : Hp) (C : Addr) (cl : List (Str × Addr)) (fp : List Addr), PE (X.blk s H scope (compEnvC scope cl C X.env) fp) vx tv) (hs : ∀ x, foldedSetIterable iter X.env x = pure x := by intro _; rfl) :
    PS X (.Assign [.Name y py] (.DictComp kx vx [⟨tg, iter, ifs, 0⟩] scope pos) spos) (tAsg (tDc wi g tt tk tv (own.map (·.2))) (gName i)) := by
  refine ⟨fun pins s σ H D I h => ?_⟩
  rw [exec_Assign_Name_used _ _ _ _ hsw]
  refine wpAny_bind (wpAny_standAt (wpAny_bind ?_))
  show wpAny _ X.A (do let _ ← comprehension (.DictComp kx vx [⟨tg, iter, ifs, 0⟩] scope pos) scope X.env (firstIterPos [⟨tg, iter, ifs, 0⟩] pos) newDict false (eval iter X.env) (some (assign (.Name y py) X.env))) _ _ s
  have h : tDc wi g tt tk tv (own.map (·.2)) σ H (fun x H1 => gName i x σ H1 D.nx) := h
  refine wpAny_bind (thn (dc_core (Qf := fun _ s' => SP X pins D .next s') hc hN I hi ok hg ht hk he hs h fun L C s' m H' I' q hn f => ?_) fun _ s' hq => wpAny_pure (wpAny_pure hq))
  show wpAny _ _ (assign (.Name y py) X.env (.ref L)) _ _ _
  refine wpAny_assign_Name (store_ok2 (v := V.ref L) I' hN hy (.inl hyl) rfl (fun s2 I2 ⟨a, sb, ha⟩ => ?_) (.inr hyl))
  obtain ⟨f0, f1, f2, f3, f4, f5⟩ := f
  have haC : C ≠ a := by
    rcases ha with z | z
    · rw [z]; exact f1
    · exact fun e => f4 y a z e.symm
  refine ⟨m, hn.sameBut sb haC, fun h3 sb3 => ?_⟩
  exact ⟨_, H', I2.turned (t' := s2.toks) (fun b o hb e => (sb3.2 b hb).trans e) f0 f1 f3 f4 f5, q⟩
end
end Dk

namespace Kx
open PySem PySem.Spec PyProof.Rows L2
abbrev s_free_names : Stmt := topS 36
abbrev s_one_map : Stmt := topS 39
theorem freeA_succ (taken : List Str) (i : Nat) : freeA taken (i + 1) = freeA taken i ++ if nmOf i ∈ taken then [] else [nmOf i] := by
  unfold freeA
  rw [List.range_succ, List.map_append, List.filter_append]
  congr 1
  show [nmOf i].filter _ = _
  by_cases c : nmOf i ∈ taken
  · rw [if_pos c, List.filter_cons_of_neg (by simpa using c)]
    rfl
  · rw [if_neg c, List.filter_cons_of_pos (by simpa using c)]
    rfl
theorem freeA_pre (taken : List Str) {i : Nat} (h : i ≤ 60) : freeA taken i = (freeA taken 60).take (freeA taken i).length := by
  have : ∀ k, ∃ r, freeA taken (i + k) = freeA taken i ++ r := by
    intro k
    induction k with
    | zero => exact ⟨[], (List.append_nil _).symm⟩
    | succ k ih =>
      obtain ⟨r, e⟩ := ih
      exact ⟨_, by rw [← Nat.add_assoc, freeA_succ, e, List.append_assoc]⟩
  obtain ⟨r, e⟩ := this (60 - i)
  rw [show i + (60 - i) = 60 by omega] at e
  rw [e, List.take_left]
section
variable {P : Program} {w : World} {K : PySem.W.Frag} {mg : Str → Option Value} {base : Heap}
def spFree : Sp := fun vs H Q _ => ∃ (job : Addr) (as : List (Addr × Stp)) (an : Str) (many : Nat), vs = [.ref job, .int (many : Nat)] ∧ JobAt H job as an ∧ as.length + many ≤ 58 ∧ ∀ L H', Same H H' → H L = none → H' L = some (.lst ((freeF (namesS (as.map (·.2))) many).map V.str)) → Q (.ref L) H'
abbrev N_free_names : List Str := ["job", "many", "taken", "step", "names", "number", "name"]
theorem sc_free : FnScope N_free_names ["job", "many"] (defScope s_free_names) := ⟨rfl, rfl, rfl, by decide +kernel, rfl, by decide +kernel, by decide +kernel⟩
theorem ok_free {f : Addr} {fd : FuncData} (F : Fun K "free_names" "free_names" s_free_names f fd) (m_len : mg "len" = none) (m_str : mg "str" = none) : FnOk P w K mg base CX0 1 f fd ["job", "many"] spFree := by
  refine F.ok sc_free (fun vs H Q E h => ?_) (fun cdv A outer s H vs Q E hr h => ?_)
  · obtain ⟨job, as, an, many, rfl, _⟩ := h
    rfl
  obtain ⟨job, as, an, many, rfl, ⟨st, h1, h2, h3⟩, hl, q⟩ := h
  have nd := sc_free.nd
  have hu64 : _ + 64 < cLine := hr.units
  have hu1 : _ + 1 < cLine := Nat.lt_of_le_of_lt (Nat.add_le_add_left (by decide : 1 ≤ 64) _) hu64
  refine ⟨_, pss_cons (Dk.ps_setDc (i := 2) (own := [("step", 3)]) (g := gName 3) (tt := tYes) (tk := tOp (rIxT K) (tVar 3) (tC (.int 0))) (tv := tC (.bl true)) rfl nd rfl rfl (Dk.swd_true rfl rfl rfl (by decide +kernel)) (pi_tup (pe_ix ix_tup (pv 0) pe_int (fun _ _ => rfl))) (blkOk_by (N := N_free_names) (sc := defScope s_free_names) (by decide +kernel)) (fun _ _ _ _ _ => pg_name (i := 3) nd rfl (Or.inl rfl)) (fun _ _ _ _ _ => pts_nil) (fun _ _ _ _ _ => (pe_ix ix_tup (pv 3) pe_int (fun _ _ => rfl))) (fun _ _ _ _ _ => pe_bl))
      (pss_cons (ps_set (i := 4) nd rfl (.inl rfl) (pe_lst pa_nil))
      (pss_cons (ps_set (i := 5) nd rfl (.inl rfl) pe_int)
      (pss_cons (ps_while PassesOwn.never (pt_cmpR op_lt (pe_callB call_len_seq (by rfl) m_len PySem.boot_len (pa_cons (pv 4) pa_nil)) (pv 1) (nomark _)) (pss_cons (ps_set (i := 6) nd rfl (.inl rfl) (pe_op op_add_str pe_str (pe_callTy call_str_int (by rfl) m_str PyProof.Rows.boot_str (pa_cons (pv 5) pa_nil))))
      (pss_cons (ps_if (pt_cmp (pc_dnotin hu1 (pv 6) (pv 2)) rfl) (pss_one (ps_expr (pe_bm PySem.F.plainAttrs_list PySem.F.slot_list_append PySem.F.type_list_append mt_append (pv 4) (pa_cons (pv 6) pa_nil)))) (pss_nil))
      (pss_one (ps_aug (i := 5) nd rfl (.inl rfl) pe_int ip_add)))))
      (pss_one (ps_ret (pv 4)))))), ?_⟩
  refine ⟨_, rfl, job, _, 0, _, rfl, rfl, SqT.of h1, rfl, st, rfl, ⟨_, SqT.of h2⟩, fun D hD => ?_⟩
  refine dc_tup (K := K) (a := st) (xs := as.map fun p => .ref p.1) (fun i G => Same H G ∧ ∃ kvs : List (L2.Key × V), G D = some (.dK kvs) ∧ kvs.length ≤ i ∧ ∀ x, (valV kvs (.inr x)).isSome = decide (x ∈ (namesS (as.map (·.2))).take i)) ⟨same_upd hD, [], upd_same, Nat.le_refl _, fun x => rfl⟩ (fun i G _ h => SqT.of (h.1 _ _ h2)) ?_ ?_
  · rintro i x G hx ⟨sm, kvs, eD, hk, hall⟩
    rw [List.getElem?_map] at hx
    obtain ⟨p, hp, rfl⟩ := Option.map_eq_some_iff.mp hx
    obtain ⟨inp, dv, x1, x2, x3⟩ := (h3 p (List.mem_of_getElem? hp)).same sm
    have hi : i < as.length := (List.getElem?_eq_some_iff.mp hp).1
    refine ⟨rfl, _, rfl, p.1, _, 0, .str p.2.name, rfl, rfl, SqT.of x1, rfl, kvs, .inr p.2.name, rfl, eD, Nat.lt_of_le_of_lt (show _ ≤ 100 by omega) (by decide), fun b o ex => ?_, putK kvs (.inr p.2.name) (.bl true), upd_same, Nat.le_trans putK_len (Nat.succ_le_succ hk), fun y => ?_⟩
    · rw [upd_ne (ne_of_none ex hD)]
      exact sm _ _ ex
    · rw [valV_put, List.take_add_one, List.getElem?_map, List.getElem?_map, hp]
      by_cases c : y = p.2.name
      · rw [if_pos (by rw [c]), decide_eq_true (List.mem_append_right _ (by rw [c]; exact List.mem_cons_self))]
        rfl
      · rw [if_neg (fun z => c (Sum.inr.inj z)), hall]
        refine decide_eq_decide.mpr ⟨fun h => List.mem_append_left _ h, fun h => ?_⟩
        rcases List.mem_append.mp h with h | h
        · exact h
        · exact absurd (List.mem_singleton.mp h) c
  rintro H1 ⟨s1, kvs, eD, _, hall⟩
  rw [List.length_map, List.take_of_length_le (by rw [List.length_map, List.length_map]; exact Nat.le_refl _)] at hall
  refine ⟨by show 0 ≤ sizeLine; decide, fun N hN => ?_⟩
  have s2 := same_upd (o := .lst []) hN
  have eN : upd H1 N (.lst []) N = some (.lst []) := upd_same
  have eD2 := s2 _ _ eD
  have nDN : D ≠ N := fun z => by rw [z, hN] at eD; cases eD
  have hHN : H N = none := by
    cases e : H N with
    | none => rfl
    | some o => rw [s1 _ _ e] at hN; cases hN
  have s12 := s1.trans s2
  generalize upd H1 N (.lst []) = H2 at eN eD2 s12 ⊢
  have hc : (namesS (as.map (·.2))).length = as.length := by rw [List.length_map, List.length_map]
  generalize namesS (as.map (·.2)) = taken at hall q hc
  refine ⟨fun m σ G => ∃ (i : Nat) (y3 y6 : Option V), m = 60 - i ∧ σ = [some (.ref job), some (.int (many : Nat)), some (.ref D), y3, some (.ref N), some (.int (i : Nat)), y6] ∧ i ≤ 60 ∧ But N H2 G ∧ G N = some (.lst ((freeA taken i).map V.str)) ∧ (freeA taken i).length ≤ many, ⟨_, 0, _, _, rfl, rfl, Nat.zero_le _, But.refl _ _, eN, Nat.zero_le _⟩, ?_⟩
  rintro m σ G ⟨i, y3, y6, rfl, rfl, hi, b, eG, hm⟩
  refine ⟨_, rfl, N, _, rfl, .inl (SqL.of eG), _, rfl, _, _, rfl, rfl, _, rfl, ite2 (fun c => ?_) (fun c => ?_)⟩
  · have hlt : (freeA taken i).length < many := by
      have := of_decide_eq_true c
      rw [List.length_map] at this
      omega
    have hfl := freeA_len taken hi
    have hi60 : i < 60 := by omega
    have bump : ∀ {G' : Hp} {ys : List Str} {y6 : Option V}, But N H2 G' → G' N = some (.lst (ys.map V.str)) → ys = freeA taken (i + 1) → ys.length ≤ many → ∃ m', m' < 60 - i ∧ ∃ (j : Nat) (z3 z6 : Option V), m' = 60 - j ∧ [some (V.ref job), some (.int (many : Nat)), some (.ref D), y3, some (.ref N), some (.int ((i : Int) + 1)), y6] = [some (.ref job), some (.int (many : Nat)), some (.ref D), z3, some (.ref N), some (.int (j : Nat)), z6] ∧ j ≤ 60 ∧ But N H2 G' ∧ G' N = some (.lst ((freeA taken j).map V.str)) ∧ (freeA taken j).length ≤ many := fun {G' ys y6} b e ey hl => ⟨60 - (i + 1), by omega, i + 1, y3, y6, rfl, rfl, hi60, b, by rw [← ey]; exact e, by rw [← ey]; exact hl⟩
    refine ⟨fun σ G => ∃ m', m' < 60 - i ∧ ∃ (j : Nat) (z3 z6 : Option V), m' = 60 - j ∧ σ = [some (.ref job), some (.int (many : Nat)), some (.ref D), z3, some (.ref N), some (.int (j : Nat)), z6] ∧ j ≤ 60 ∧ But N H2 G ∧ G N = some (.lst ((freeA taken j).map V.str)) ∧ (freeA taken j).length ≤ many, fun σ' G' h => h, ?_⟩
    refine ⟨_, rfl, (i : Nat), rfl, ?_, _, _, rfl, rfl, ?_, ?_⟩
    · exact Nat.lt_of_le_of_lt (show _ ≤ 60 by
        have : ((i : Nat) : Int).natAbs = i := rfl
        rw [this]
        exact Nat.le_trans (Nat.log2_le_self i) hi) (by decide)
    · exact Nat.le_trans (show _ ≤ 100 by
        have := (show ∀ j : Nat, j < 60 → ("s" : Str).length + (Str.ofString (toString ((j : Nat) : Int))).length ≤ 100 by decide +kernel) i hi60
        exact this) (by decide)
    refine ⟨_, rfl, _, rfl, D, _, rfl, DGet.k (k := .inr (nmOf i)) (b _ _ nDN eD2), _, rfl, ?_⟩
    rw [hall]
    by_cases c2 : nmOf i ∈ taken
    · refine ifF' (by rw [decide_eq_true c2]; rfl) ⟨_, rfl, _, _, rfl, rfl, ?_⟩
      exact bump b eG (by rw [freeA_succ, if_pos c2, List.append_nil]) hm
    · refine ifT' (by rw [decide_eq_false c2]; rfl) ⟨_, rfl, .inl ⟨rfl, _, SqL.of eG⟩, _, rfl, N, _, _, rfl, rfl, eG, Nat.lt_of_le_of_lt (show _ ≤ 60 by rw [List.length_map]; omega) (by decide), ⟨_, rfl, _, _, rfl, rfl, ?_⟩⟩
      refine bump (ys := freeA taken i ++ [nmOf i]) (fun a o hc e => ?_) ?_ (by rw [freeA_succ, if_neg c2]) (by rw [List.length_append, List.length_singleton]; omega)
      · rw [upd_ne hc]
        exact b a o hc e
      · rw [upd_same, List.map_append]
        rfl
  · have hge : (freeA taken i).length = many := by
      have : ¬ ((((freeA taken i).map V.str).length : Nat) : Int) < (many : Nat) := fun h => c (decide_eq_true h)
      rw [List.length_map] at this
      omega
    refine ⟨_, rfl, q N G (fun a o e => b a o (ne_of_none e hHN) (s12 _ _ e)) hHN ?_⟩
    rw [eG, freeA_pre taken hi, hge]
    rfl
end
end Kx

namespace Kx
open PySem PySem.Spec PyProof.Rows L2
/-- a list of steps that has been made -/
def MadeAt (H : Hp) (L : Addr) (mk : List (Addr × Stp)) : Prop := H L = some (.lst (mk.map fun p => .ref p.1)) ∧ ∀ p ∈ mk, StpAt H p.1 p.2
theorem MadeAt.same {H H' : Hp} {L : Addr} {mk : List (Addr × Stp)} (h : MadeAt H L mk) (s : Same H H') : MadeAt H' L mk := ⟨s _ _ h.1, fun p hp => (h.2 p hp).same s⟩
section
variable {P : Program} {w : World} {K : PySem.W.Frag} {mg : Str → Option Value} {base : Heap}
def spOneFilter : Sp := fun vs H Q _ => ∃ (st bl : Addr) (s b : Stp) (e f : Ex), vs = [.ref st, .ref bl] ∧ StpAt H st s ∧ StpAt H bl b ∧ s.det = .filter e ∧ b.det = .filter f ∧ ∀ L mk H', Same H H' → MadeAt H' L mk → mk.map (·.2) = [⟨s.name, b.ins, .filter (.two "and" f e)⟩] → Q (.ref L) H'
theorem sc_onefilter : FnScope ["step", "below"] ["step", "below"] (defScope s_one_filter) := ⟨rfl, rfl, rfl, by decide +kernel, rfl, by decide +kernel, by decide +kernel⟩
theorem ok_onefilter {f : Addr} {fd : FuncData} (F : Fun K "one_filter" "one_filter" s_one_filter f fd) : FnOk P w K mg base CX0 1 f fd ["step", "below"] spOneFilter := by
  refine F.ok sc_onefilter (fun vs H Q E h => ?_) (fun cdv A outer s H vs Q E hr h => ?_)
  · obtain ⟨st, bl, s, b, e, f, rfl, _⟩ := h
    rfl
  obtain ⟨st, bl, s, b, e, f, rfl, ⟨i1, d1, a1, a2, a3⟩, ⟨i2, d2, b1, b2, b3⟩, he, hf, q⟩ := h
  rw [he] at a3
  rw [hf] at b3
  refine ⟨_, pss_one (ps_ret (pe_lst (pa_cons (pe_tup (pa_cons (pe_ix ix_tup (pv 0) pe_int (fun _ _ => rfl)) (pa_cons pe_str (pa_cons (pe_ix ix_tup (pv 1) pe_int (fun _ _ => rfl)) (pa_cons (pe_tup (pa_cons pe_str (pa_cons pe_str (pa_cons (pe_ix ix_tup (pv 1) pe_int (fun _ _ => rfl)) (pa_cons (pe_ix ix_tup (pv 0) pe_int (fun _ _ => rfl)) pa_nil))))) pa_nil))))) pa_nil))), ?_⟩
  have z1 : 1 ≤ sizeLine := by decide
  have z4 : 4 ≤ sizeLine := by decide
  refine ⟨_, rfl, st, _, 0, _, rfl, rfl, SqT.of a1, rfl, _, rfl, bl, _, 2, _, rfl, rfl, SqT.of b1, rfl, _, rfl, bl, _, 3, _, rfl, rfl, SqT.of b1, rfl, _, rfl, st, _, 3, _, rfl, rfl, SqT.of a1, rfl, z4, fun t ht => ⟨z4, fun u hu => ⟨z1, fun L hL => ?_⟩⟩⟩
  have s1 := same_upd (o := .tup [.str "two", .str "and", d2, d1]) ht
  have s2 := same_upd (o := .tup [.str s.name, .str "filter", .ref i2, .ref t]) hu
  have s3 := same_upd (o := .lst [.ref u]) hL
  refine q L [(u, ⟨s.name, b.ins, .filter (.two "and" f e)⟩)] _ ((s1.trans s2).trans s3) ⟨upd_same, fun p hp => ?_⟩ rfl
  rw [List.mem_singleton.mp hp]
  exact ⟨i2, .ref t, s3 _ _ upd_same, s3 _ _ (s2 _ _ (s1 _ _ b2)), t, d2, d1, rfl, s3 _ _ (s2 _ _ upd_same), ExAt.same b3 ((s1.trans s2).trans s3), ExAt.same a3 ((s1.trans s2).trans s3)⟩
/-! ### one_map -/
def spOneMap : Sp := fun vs H Q _ => ∃ (st bl : Addr) (s b : Stp) (ms mb : List MC), vs = [.ref st, .ref bl] ∧ StpAt H st s ∧ StpAt H bl b ∧ s.det = .map ms ∧ b.det = .map mb ∧ (mb.map (·.2.2)).Nodup ∧ mb.length ≤ 100 ∧ ms.length ≤ 100 ∧ (∀ m ∈ ms, m.1.dep ≤ 40 ∧ ∀ x ∈ usedC m.1, ∃ c ∈ mb, c.2.2 = x) ∧
  ∀ L mk H', Same H H' → MadeAt H' L mk → mk.map (·.2) = [⟨s.name, b.ins, .map (ms.map fun m => (subE (meanM mb) m.1, m.2.1, m.2.2))⟩] → Q (.ref L) H'
abbrev N_one_map : List Str := ["step", "below", "meanings", "told", "name"]
theorem sc_onemap : FnScope N_one_map ["step", "below"] (defScope s_one_map) := ⟨rfl, rfl, rfl, by decide +kernel, rfl, by decide +kernel, by decide +kernel⟩
theorem ok_onemap {f : Addr} {fd : FuncData} {k : Nat} (F : Fun K "one_map" "one_map" s_one_map f fd) (hk : 1 ≤ k) (m_tuple : mg "tuple" = none) (G_means : Ready P w K mg base 1 "map_meanings" ["details"] (spMeans K)) (G_with : Ready P w K mg base k "with_columns" ["told", "meanings"] (spWith 40)) : FnOk P w K mg base CX0 (k + 1) f fd ["step", "below"] spOneMap := by
  refine F.ok sc_onemap (fun vs H Q E h => ?_) (fun cdv A outer s0 H vs Q E hr h => ?_)
  · obtain ⟨st, bl, s, b, ms, mb, rfl, _⟩ := h
    rfl
  obtain ⟨st, bl, s, b, ms, mb, rfl, ⟨i1, d1, a1, a2, a3⟩, ⟨i2, d2, b1, b2, b3⟩, he, hf, hnd, hlb, hlm, hall, q⟩ := h
  rw [he] at a3
  rw [hf] at b3
  have nd := sc_onemap.nd
  have hrk : Room k _ := hr
  have hr1 : Room 1 _ := hrk.mono hk
  refine ⟨_, pss_cons (ps_set (i := 2) nd rfl (.inr rfl) (pe_fn G_means hr1 (pa_cons (pe_ix ix_tup (pv 1) pe_int (fun _ _ => rfl)) pa_nil)))
      (pss_one (ps_ret (pe_lst (pa_cons (pe_tup (pa_cons (pe_ix ix_tup (pv 0) pe_int (fun _ _ => rfl)) (pa_cons pe_str (pa_cons (pe_ix ix_tup (pv 1) pe_int (fun _ _ => rfl)) (pa_cons (pe_callTy call_tuple_of (by rfl) m_tuple PyProof.Rows.boot_tuple (pa_cons (pe_lc (own := [("told", 3), ("name", 4)]) (g := (gTup K 2 (gCons (gName 3) (gCons (gName 4) gNil)))) (tt := tYes) (te := tTup (tCons (tCall (spWith 40) [] E0 (tCons (tVar 3) (tCons (tVar 2) tNil))) (tCons (tVar 4) tNil))) rfl nd (pi_tup (pe_ix ix_tup (pv 0) pe_int (fun _ _ => rfl))) (blkOk_by (N := N_one_map) (sc := defScope s_one_map) (by decide +kernel)) (fun _ _ _ _ _ => pg_tup rfl (pgs_cons (pg_name (i := 3) nd rfl (.inl rfl)) (pgs_cons (pg_name (i := 4) nd rfl (.inl rfl)) pgs_nil))) (fun _ _ _ _ _ => pts_nil) (fun _ _ _ _ _ => (pe_tup (pa_cons (pe_fn G_with hrk (pa_cons (pv 3) (pa_cons (pv 2) pa_nil))) (pa_cons (pv 4) pa_nil))))) pa_nil)) pa_nil))))) pa_nil)))), ?_⟩
  have z1 : 1 ≤ sizeLine := by decide
  have z2 : 2 ≤ sizeLine := by decide
  have z4 : 4 ≤ sizeLine := by decide
  obtain ⟨tb, asb, eb, c1, c2, c3⟩ := b3
  obtain ⟨tm, asm, em, g1, g2, g3⟩ := a3
  subst eb
  subst em
  refine ⟨_, rfl, bl, _, 3, _, rfl, rfl, SqT.of b1, rfl, tb, mb, rfl, ⟨tb, asb, rfl, c1, c2, c3⟩, hnd, hlb, fun MD H1 s1 _ hM => ?_⟩
  refine ⟨_, rfl, st, _, 0, _, rfl, rfl, SqT.of (s1 _ _ a1), rfl, _, rfl, bl, _, 2, _, rfl, rfl, SqT.of (s1 _ _ b1), rfl, ?_⟩
  refine ⟨_, rfl, st, _, 3, _, rfl, rfl, SqT.of (s1 _ _ a1), rfl, tm, rfl, ⟨_, SqT.of (s1 _ _ g1)⟩, fun D hD => ?_⟩
  obtain ⟨kvs, k1, k2⟩ := hM
  have hms : asm.map (·.2) = ms := g3
  refine lc_tup (K := K) (a := tm) (xs := asm.map fun p => .ref p.1) (fun i G => Same H1 G ∧ ∃ as' : List (Addr × MC), G D = some (.lst (as'.map fun p => .ref p.1)) ∧ as'.map (·.2) = (ms.take i).map (fun m => ((subE (meanM mb) m.1, m.2.1, m.2.2) : MC)) ∧ ∀ p ∈ as', ∃ told, G p.1 = some (.tup [told, .str p.2.2.2]) ∧ ExAt G told p.2.1) ⟨same_upd hD, [], upd_same, rfl, fun p hp => by cases hp⟩ (fun i G _ h => SqT.of (h.1 _ _ (s1 _ _ g1))) ?_ ?_
  · rintro i x G hx ⟨sm, as', eD, e2, hst⟩
    rw [List.getElem?_map] at hx
    obtain ⟨p, hp, rfl⟩ := Option.map_eq_some_iff.mp hx
    obtain ⟨told, x1, x2⟩ := g2 p (List.mem_of_getElem? hp)
    have hpm : ms[i]? = some p.2 := by rw [← hms, List.getElem?_map, hp]; rfl
    obtain ⟨dp, us⟩ := hall p.2 (List.mem_of_getElem? hpm)
    have sG := s1.trans sm
    have lenA : as'.length ≤ 100 := by
      have h := congrArg List.length e2
      rw [List.length_map, List.length_map, List.length_take] at h
      omega
    refine ⟨p.1, _, rfl, SqT.of (sG _ _ x1), rfl, _, _, rfl, _, _, rfl, rfl, rfl, _, rfl, _, rfl, told, p.2.1, MD, kvs, meanM mb, rfl, ExAt.same x2 sG, dp, sm _ _ k1, fun x hx => (k2 x (us x hx)).imp fun u h => ⟨h.1, ExAt.same h.2 sm⟩, fun u G2 s2 hu => ⟨_, rfl, z2, fun t ht => ?_⟩⟩
    have s3 := same_upd (o := .tup [u, .str p.2.2.2]) ht
    have eD2 := s3 _ _ (s2 _ _ eD)
    have back : ∀ {a : Addr} {xs : List V}, (upd G2 t (.tup [u, .str p.2.2.2])) a = some (.tup xs) → (upd (upd G2 t (.tup [u, .str p.2.2.2])) D (.lst (as'.map (fun p => V.ref p.1) ++ [.ref t]))) a = some (.tup xs) := fun {a xs} e => by
      rw [upd_ne (fun z => by rw [z, eD2] at e; cases e)]
      exact e
    refine ⟨_, eD2, Nat.lt_of_le_of_lt (show _ ≤ 100 by rw [List.length_map]; exact lenA) (by decide), fun b o ex => ?_, as' ++ [(t, (subE (meanM mb) p.2.1, p.2.2.1, p.2.2.2))], ?_, ?_, fun r hr => ?_⟩
    · rw [upd_ne (ne_of_none ex hD)]
      exact s3 _ _ (s2 _ _ (sm _ _ ex))
    · rw [upd_same, List.map_append]
      rfl
    · rw [List.map_append, e2, List.take_add_one, hpm, List.map_append]
      rfl
    · rcases List.mem_append.mp hr with hr | hr
      · obtain ⟨told', y1, y2⟩ := hst r hr
        exact ⟨told', back (s3 _ _ (s2 _ _ y1)), ExAt.keep (fun a xs e => back (s3 _ _ (s2 _ _ e))) y2⟩
      · rw [List.mem_singleton.mp hr]
        exact ⟨u, back upd_same, ExAt.keep (fun a xs e => back (s3 _ _ e)) hu⟩
  · rintro G ⟨sm, as', eD, e2, hst⟩
    rw [List.length_map, show asm.length = ms.length by rw [← hms, List.length_map], List.take_length] at e2
    refine ⟨D, _, rfl, .inl ⟨SqL.of eD, fun t ht => ⟨z4, fun u hu => ⟨z1, fun L hL => ?_⟩⟩⟩⟩
    have v1 := same_upd (o := .tup (as'.map fun p => .ref p.1)) ht
    have v2 := same_upd (o := .tup [.str s.name, .str "map", .ref i2, .ref t]) hu
    have v3 := same_upd (o := .lst [.ref u]) hL
    have sv := (v1.trans v2).trans v3
    refine q L [(u, ⟨s.name, b.ins, .map (ms.map fun m => (subE (meanM mb) m.1, m.2.1, m.2.2))⟩)] _ ((s1.trans sm).trans sv) ⟨upd_same, fun p hp => ?_⟩ rfl
    rw [List.mem_singleton.mp hp]
    exact ⟨i2, .ref t, v3 _ _ upd_same, sv _ _ (sm _ _ (s1 _ _ b2)), t, as', rfl, v3 _ _ (v2 _ _ upd_same), fun p hp => (hst p hp).imp fun told h => ⟨sv _ _ h.1, ExAt.same h.2 sv⟩, e2⟩
end
end Kx

namespace Kx
open PySem PySem.Spec PyProof.Rows L2
abbrev s_first_alike : Stmt := topS 44
abbrev s_with_input : Stmt := topS 45
abbrev s_without_use : Stmt := topS 46
abbrev s_in_place : Stmt := topS 47
abbrev s_without_step : Stmt := topS 48
/-! ### steps in the heap as data -/
section
variable {K : PySem.W.Frag} {H : Hp}
theorem ex_dp : ∀ {e : Ex} {v : V}, ExAt H v e → Dp K H v (exD e)
  | .num _, _, ⟨_, rfl, h⟩ => .tup (SqT.of h) (.cons (.str _) (.cons (.int _) .nil))
  | .quo _, _, ⟨_, rfl, h⟩ => .tup (SqT.of h) (.cons (.str _) (.cons (.str _) .nil))
  | .col _, _, ⟨_, rfl, h⟩ => .tup (SqT.of h) (.cons (.str _) (.cons (.str _) .nil))
  | .two _ _ _, _, ⟨_, _, _, rfl, h, x, y⟩ => .tup (SqT.of h) (.cons (.str _) (.cons (.str _) (.cons (ex_dp x) (.cons (ex_dp y) .nil))))
  | .nt _, _, ⟨_, _, rfl, h, x⟩ => .tup (SqT.of h) (.cons (.str _) (.cons (ex_dp x) .nil))
  | .mn _, _, ⟨_, _, rfl, h, x⟩ => .tup (SqT.of h) (.cons (.str _) (.cons (ex_dp x) .nil))
  | .ln _, _, ⟨_, _, rfl, h, x⟩ => .tup (SqT.of h) (.cons (.str _) (.cons (ex_dp x) .nil))
theorem dp_map {A : Type} {g : A → PyData} : ∀ {as : List (Addr × A)}, (∀ p ∈ as, Dp K H (.ref p.1) (g p.2)) → DpAll K H (as.map fun p => .ref p.1) ((as.map (·.2)).map g)
  | [], _ => .nil
  | p :: r, h => .cons (h p List.mem_cons_self) (dp_map fun x hx => h x (List.mem_cons_of_mem _ hx))
theorem dp_strs : ∀ ks : List Str, DpAll K H (ks.map V.str) (ks.map PyData.str)
  | [] => .nil
  | k :: r => .cons (.str _) (dp_strs r)
theorem fto_dp {v : V} : ∀ {o : Option Ex}, FTo H v o → Dp K H v (optD o)
  | none, h => by
    rw [show v = .non from h]
    exact .non
  | some _, h => ex_dp h
theorem det_dp {v : V} : ∀ {d : Det}, DetAt H v d → Dp K H v (detD d)
  | .read cs, ⟨t, as, e, h1, h2, h3⟩ => by
    rw [e, ← h3]
    refine .tup (TupF.sq h1) ?_
    have := dp_map (K := K) (H := H) (g := fun c : NC => twoD (c.1, kW c.2)) (as := as) fun p hp => .tup (SqT.of (h2 p hp)) (.cons (.str _) (.cons (.str _) .nil))
    exact this
  | .filter e, h => ex_dp (show ExAt H v e from h)
  | .map ms, ⟨t, as, e, h1, h2, h3⟩ => by
    rw [e, ← h3]
    exact .tup (SqT.of h1) (dp_map fun p hp => let ⟨told, a, b⟩ := h2 p hp; .tup (SqT.of a) (.cons (ex_dp b) (.cons (.str _) .nil)))
  | .fold ks fs, ⟨t, kt, ft, as, e, h1, h2, h3, h4, h5⟩ => by
    rw [e, ← h5]
    have hk : H kt = some (.tup ((ks.map (·.1)).map V.str)) := by rw [h2, List.map_map]; rfl
    refine .tup (SqT.of h1) (.cons (.tup (SqT.of hk) (dp_strs _)) (.cons (.tup (SqT.of h3) ?_) .nil))
    exact dp_map fun p hp => let ⟨told, a, b⟩ := h4 p hp; .tup (SqT.of a) (.cons (.str _) (.cons (fto_dp b) (.cons (.str _) .nil)))
  | .join ks, ⟨t, e, h1⟩ => by
    rw [e]
    have hk : H t = some (.tup ((ks.map (·.1)).map V.str)) := by rw [h1, List.map_map]; rfl
    exact .tup (SqT.of hk) (dp_strs _)
  | .union, ⟨t, e, h⟩ => by rw [e]; exact .tup (SqT.of h) .nil
  | .unlike, ⟨t, e, h⟩ => by rw [e]; exact .tup (SqT.of h) .nil
  | .sort ws m, ⟨t, wt, as, e, h1, h2, h3, h4⟩ => by
    rw [e, ← h4]
    exact .tup (SqT.of h1) (.cons (.tup (SqT.of h2) (dp_map fun p hp => .tup (SqT.of (h3 p hp)) (.cons (.str _) (.cons (.str _) .nil)))) (.cons (.int _) .nil))
end
/-! ### they may be compared -/
theorem sg_of {B : Ex → Prop} {n : Nat} {e : Ex} (h : G B e) (hd : e.dep ≤ n) : Ok n (exD e) := ⟨h.lay, Nat.le_trans (ex_depth e) hd⟩
theorem det_okD {d : Det} (h : DetJ Bs d) : Ok 43 (detD d) := by
  have two : ∀ {n : Nat} {x : Str × Str}, Sg x.1 → Sg x.2 → Ok (n + 1) (twoD x) := fun a b => dk_two (dk_str a) (dk_str b)
  have kw : ∀ b : Bool, PyData.strOk (kW b) = true := by decide +kernel
  have strsO : ∀ {l : List Str}, (∀ x ∈ l, Sg x) → Ok 42 (strsD l) := fun h => dk_map (n := 41) fun x hx => dk_str (h x hx)
  cases d with
  | read cs => exact dk_map (n := 42) (g := fun c : NC => twoD (c.1, kW c.2)) fun c hc => two (h.2 c hc) (kw _)
  | filter e => exact sg_of h (by have := h.b.2; omega)
  | map ms => exact dk_map (n := 42) (g := fun m : MC => .tuple [exD m.1, .str m.2.2]) fun m hm => dk_two (n := 41) (sg_of (h.2 m hm).1 (by have := (h.2 m hm).1.b.2; omega)) (dk_str (h.2 m hm).2)
  | fold ks fs =>
    refine dk_two (n := 42) (strsO fun x hx => by
      obtain ⟨k, hk, rfl⟩ := List.mem_map.mp hx
      exact h.2.2.1 k hk) (dk_map (n := 41) (g := fun f : FC => .tuple [.str f.1, optD f.2.1, .str f.2.2.2]) fun f hf => dk_three (n := 40) (dk_str (h.2.2.2 f hf).1) ?_ (dk_str (h.2.2.2 f hf).2.1))
    cases e : f.2.1 with
    | none => exact ⟨rfl, Nat.zero_le _⟩
    | some x =>
      have := (h.2.2.2 f hf).2.2.2 x e
      exact sg_of this this.b.2
  | join ks => exact (strsO fun x hx => by
      obtain ⟨k, hk, rfl⟩ := List.mem_map.mp hx
      exact h.2 k hk).mono (by decide)
  | union => exact dk_nil
  | unlike => exact dk_nil
  | sort ws m => exact dk_two (n := 42) (dk_map (n := 41) (g := twoD) fun x hx => two (h.2 x hx).1 (h.2 x hx).2) dk_int
theorem what_sg (d : Det) : PyData.strOk d.what = true := by
  cases d <;> (dsimp only [Det.what]; decide +kernel)
theorem tail_sh {s : Stp} (h : StpJ Bs s) : SeqAt.shaped (tailD s) = true := by
  have : Ok 44 (tailD s) := dk_three (n := 43) (dk_str (what_sg _)) ((dk_map (n := 42) (g := PyData.str) fun x hx => dk_str (h.si x hx))) (det_okD h.det)
  exact this.shaped (by decide)
section
variable {P : Program} {w : World} {K : PySem.W.Frag} {mg : Str → Option Value} {base : Heap}
def spFirst : Sp := fun vs H Q _ => ∃ (job st : Addr) (as : List (Addr × Stp)) (an : Str) (s : Stp), vs = [.ref job, .ref st] ∧ JobAt H job as an ∧ StpAt H st s ∧ StpJ Bs s ∧ (∀ p ∈ as, StpJ Bs p.2) ∧ ∀ H', Same H H' → Q (.str (firstS (as.map (·.2)) s)) H'
abbrev N_first_alike : List Str := ["job", "step", "other"]
theorem sc_first : FnScope N_first_alike ["job", "step"] (defScope s_first_alike) := ⟨rfl, rfl, rfl, by decide +kernel, rfl, by decide +kernel, by decide +kernel⟩
theorem ok_first {f : Addr} {fd : FuncData} (F : Fun K "first_alike" "first_alike" s_first_alike f fd) : FnOk P w K mg base CX0 1 f fd ["job", "step"] spFirst := by
  refine F.ok sc_first (fun vs H Q E h => ?_) (fun cdv A outer s0 H vs Q E hr h => ?_)
  · obtain ⟨job, st, as, an, s, rfl, _⟩ := h
    rfl
  obtain ⟨job, st, as, an, s, rfl, ⟨sl, h1, h2, h3⟩, hst, hJ, hJs, q⟩ := h
  have nd := sc_first.nd
  have hu64 : _ + 64 < cLine := hr.units
  refine ⟨_, pss_cons (ps_for PassesOwn.never rfl (pi_tup (pe_ix ix_tup (pv 0) pe_int (fun _ _ => rfl))) (pg_name (i := 2) nd rfl (.inl rfl)) (pss_one (ps_if (pt_cmpR (op_eqD hu64) (pe_slice sl_tup (pv 2) (po_some pe_int) po_none) (pe_slice sl_tup (pv 1) (po_some pe_int) po_none) (nomark _)) (pss_one (ps_ret (pe_ix ix_tup (pv 2) pe_int (fun _ _ => rfl)))) (pss_nil))))
      (pss_one (ps_ret (pe_ix ix_tup (pv 1) pe_int (fun _ _ => rfl)))), ?_⟩
  obtain ⟨inp, dv, x1, x2, x3⟩ := id hst
  refine ⟨_, rfl, job, _, 0, _, rfl, rfl, SqT.of h1, rfl, sl, rfl, ⟨_, SqT.of h2⟩, ?_⟩
  refine for_tup (K := K) (a := sl) (xs := as.map fun p => .ref p.1) (fun i σ G => ∃ y, σ = [some (.ref job), some (.ref st), y] ∧ Same H G ∧ ((as.map (·.2)).take i).find? (fun o => alikeS o s) = none) ⟨_, rfl, Same.refl _, rfl⟩ (fun i σ G _ ⟨_, _, sm, _⟩ => SqT.of (sm _ _ h2)) ?_ ?_
  · rintro i x σ G hx ⟨y, rfl, sm, hn⟩
    rw [List.getElem?_map] at hx
    obtain ⟨p, hp, rfl⟩ := Option.map_eq_some_iff.mp hx
    have pm := List.mem_of_getElem? hp
    have hps : (as.map (·.2))[i]? = some p.2 := by rw [List.getElem?_map, hp]; rfl
    obtain ⟨i1, d1, y1, y2, y3⟩ := (h3 p pm).same sm
    refine ⟨_, rfl, _, rfl, p.1, _, rfl, SqT.of y1, (fun h => absurd h.1 (by show ¬ (1 : Nat) = 0; decide)), fun t ht => ?_⟩
    have s1 := same_upd (o := .tup [.str p.2.det.what, .ref i1, d1]) ht
    refine ⟨_, rfl, _, rfl, st, _, rfl, SqT.of (s1 _ _ (sm _ _ x1)), (fun h => absurd h.1 (by show ¬ (1 : Nat) = 0; decide)), fun u hu => ?_⟩
    have s2 := same_upd (o := .tup [.str s.det.what, .ref inp, dv]) hu
    have s3 := sm.trans (s1.trans s2)
    have kT : ∀ {G' : Hp}, Same H G' → DetAt G' dv s.det := fun z => x3.keep (same_t z) (same_f z)
    refine ⟨tailD p.2, tailD s, ?_, ?_, tail_sh (hJs p pm), tail_sh hJ, _, rfl, ?_⟩
    · exact .tup (SqT.of (s2 _ _ upd_same)) (.cons (.str _) (.cons (.tup (SqT.of ((s1.trans s2) _ _ y2)) (dp_strs _)) (.cons (det_dp (y3.keep (same_t (s1.trans s2)) (same_f (s1.trans s2)))) .nil)))
    · exact .tup (SqT.of upd_same) (.cons (.str _) (.cons (.tup (SqT.of (s3 _ _ x2)) (dp_strs _)) (.cons (det_dp (kT s3)) .nil)))
    · by_cases c : alikeS p.2 s = true
      · refine ifT' c ⟨_, rfl, p.1, _, 0, .str p.2.name, rfl, rfl, SqT.of ((s1.trans s2) _ _ y1), rfl, ?_⟩
        have := q _ s3
        unfold firstS at this
        rw [find_take hps c hn] at this
        exact this
      · exact ifF' (Bool.eq_false_iff.mpr c) ⟨_, rfl, s3, find_step hps (Bool.eq_false_iff.mpr c) hn⟩
  · rintro σ G ⟨y, rfl, sm, hn⟩
    rw [List.length_map, List.take_of_length_le (by rw [List.length_map]; exact Nat.le_refl _)] at hn
    refine ⟨_, rfl, st, _, 0, .str s.name, rfl, rfl, SqT.of (sm _ _ x1), rfl, ?_⟩
    have := q _ sm
    unfold firstS at this
    rw [hn] at this
    exact this
/-! ### with_input -/
def spInput : Sp := fun vs H Q _ => ∃ (st : Addr) (s : Stp) (nm new : Str), vs = [.ref st, .str nm, .str new] ∧ StpAt H st s ∧ s.ins.length ≤ 100 ∧ ∀ t H', Same H H' → StpAt H' t (substS nm new s) → Q (.ref t) H'
abbrev N_with_input : List Str := ["step", "old", "new", "name", "what", "inputs", "details", "source"]
theorem sc_input : FnScope N_with_input ["step", "old", "new"] (defScope s_with_input) := ⟨rfl, rfl, rfl, by decide +kernel, rfl, by decide +kernel, by decide +kernel⟩
theorem ok_input {f : Addr} {fd : FuncData} (F : Fun K "with_input" "with_input" s_with_input f fd) (m_tuple : mg "tuple" = none) : FnOk P w K mg base CX0 1 f fd ["step", "old", "new"] spInput := by
  refine F.ok sc_input (fun vs H Q E h => ?_) (fun cdv A outer s0 H vs Q E hr h => ?_)
  · obtain ⟨st, s, nm, new, rfl, _⟩ := h
    rfl
  obtain ⟨st, s, nm, new, rfl, ⟨inp, dv, x1, x2, x3⟩, hl, q⟩ := h
  have nd := sc_input.nd
  refine ⟨_, pss_cons (ps_asg (pv 0) (pg_tup rfl (pgs_cons (pg_name (i := 3) nd rfl (.inl rfl)) (pgs_cons (pg_name (i := 4) nd rfl (.inl rfl)) (pgs_cons (pg_name (i := 5) nd rfl (.inl rfl)) (pgs_cons (pg_name (i := 6) nd rfl (.inl rfl)) pgs_nil))))))
      (pss_one (ps_ret (pe_tup (pa_cons (pv 3) (pa_cons (pv 4) (pa_cons (pe_callTy call_tuple_of (by rfl) m_tuple PyProof.Rows.boot_tuple (pa_cons (pe_lc (own := [("source", 7)]) (g := gName 7) (tt := tYes) rfl nd (pi_tup (pv 5)) (blkOk_by (N := N_with_input) (sc := defScope s_with_input) (by decide +kernel)) (fun _ _ _ _ _ => pg_name (i := 7) nd rfl (Or.inl rfl)) (fun _ _ _ _ _ => pts_nil) (fun _ _ _ _ _ => (pe_ifExp (pt_cmpR op_eq (pv 7) (pv 1) (nomark _)) (pv 2) (pv 7)))) pa_nil)) (pa_cons (pv 6) pa_nil))))))), ?_⟩
  have z4 : 4 ≤ sizeLine := by decide
  refine ⟨_, rfl, st, _, rfl, SqT.of x1, rfl, _, _, rfl, _, _, rfl, _, _, rfl, _, _, rfl, rfl, ?_⟩
  refine ⟨_, rfl, _, rfl, _, rfl, inp, rfl, ⟨_, SqT.of x2⟩, fun D hD => ?_⟩
  refine lc_tup (K := K) (a := inp) (xs := s.ins.map V.str) (fun i G => Same H G ∧ G D = some (.lst (((s.ins.map fun x => if x = nm then new else x).take i).map V.str))) ⟨same_upd hD, upd_same⟩ (fun i G _ h => SqT.of (h.1 _ _ x2)) ?_ ?_
  · rintro i x G hx ⟨sm, eD⟩
    rw [List.getElem?_map] at hx
    obtain ⟨z, hz, rfl⟩ := Option.map_eq_some_iff.mp hx
    have tk : (s.ins.map fun x => if x = nm then new else x).take (i + 1) = (s.ins.map fun x => if x = nm then new else x).take i ++ [if z = nm then new else z] := by
      rw [List.take_add_one, List.getElem?_map, hz]
      rfl
    have fin : ∀ y : Str, y = (if z = nm then new else z) → ∃ acc, G D = some (.lst acc) ∧ acc.length < sizeLine ∧ Same H (upd G D (.lst (acc ++ [V.str y]))) ∧ upd G D (.lst (acc ++ [V.str y])) D = some (.lst (((s.ins.map fun x => if x = nm then new else x).take (i + 1)).map V.str)) := fun y ey => by
      subst ey
      refine ⟨_, eD, Nat.lt_of_le_of_lt (show _ ≤ 100 by rw [List.length_map, List.length_take, List.length_map]; omega) (by decide), fun b o ex => ?_, ?_⟩
      · rw [upd_ne (ne_of_none ex hD)]
        exact sm _ _ ex
      · rw [tk, List.map_append]
        exact upd_same
    refine ⟨rfl, _, rfl, _, rfl, rfl, _, rfl, ?_⟩
    by_cases c : z = nm
    · exact ifT' (decide_eq_true (by rw [c])) ⟨_, rfl, fin new (by rw [if_pos c])⟩
    · exact ifF' (decide_eq_false (str_ne c)) ⟨_, rfl, fin z (by rw [if_neg c])⟩
  · rintro G ⟨sm, eD⟩
    rw [List.length_map, List.take_of_length_le (by rw [List.length_map]; exact Nat.le_refl _)] at eD
    refine ⟨D, _, rfl, .inl ⟨SqL.of eD, fun t ht => ⟨_, rfl, z4, fun u hu => ?_⟩⟩⟩
    have s1 := same_upd (o := .tup ((s.ins.map fun x => if x = nm then new else x).map V.str)) ht
    have s2 := same_upd (o := .tup [.str s.name, .str s.det.what, .ref t, dv]) hu
    have sm3 := sm.trans (s1.trans s2)
    exact q u _ sm3 ⟨t, dv, upd_same, s2 _ _ upd_same, x3.keep (same_t sm3) (same_f sm3)⟩
end
end Kx

namespace Kx
open PySem PySem.Spec PyProof.Rows L2
/-- how one goes on with a job that a rule makes, or with none -/
def Res (H : Hp) (an : Str) (Q : VK) (o : Option (List Stp)) : Prop := (o = none → ∀ H', Same H H' → Q .non H') ∧ ∀ ss', o = some ss' → ∀ (r : Addr) (as' : List (Addr × Stp)) (H' : Hp), Same H H' → JobAt H' r as' an → as'.map (·.2) = ss' → Q (.ref r) H'
theorem Res.same {H H1 : Hp} {an : Str} {Q : VK} {o : Option (List Stp)} (h : Res H an Q o) (s : Same H H1) : Res H1 an Q o := ⟨fun e H' s' => h.1 e H' (s.trans s'), fun ss' e r as' H' s' => h.2 ss' e r as' H' (s.trans s')⟩
section
variable {P : Program} {w : World} {K : PySem.W.Frag} {mg : Str → Option Value} {base : Heap}
def spPlace : Sp := fun vs H Q _ => ∃ (job L : Addr) (as mk : List (Addr × Stp)) (an nm : Str), vs = [.ref job, .str nm, .ref L] ∧ JobAt H job as an ∧ MadeAt H L mk ∧ as.length ≤ 100 ∧ mk.length ≤ 10 ∧ ∀ (r : Addr) (as' : List (Addr × Stp)) (H' : Hp), Same H H' → JobAt H' r as' an → as'.map (·.2) = inPlace (as.map (·.2)) nm (mk.map (·.2)) → Q (.ref r) H'
abbrev N_in_place : List Str := ["job", "name", "made", "steps", "step"]
theorem sc_place : FnScope N_in_place ["job", "name", "made"] (defScope s_in_place) := ⟨rfl, rfl, rfl, by decide +kernel, rfl, by decide +kernel, by decide +kernel⟩
def plA (mk : List (Addr × Stp)) (nm : Str) (as : List (Addr × Stp)) : List (Addr × Stp) := as.flatMap fun p => if p.2.name = nm then mk else [p]
theorem plA_snd (mk : List (Addr × Stp)) (nm : Str) : ∀ as : List (Addr × Stp), (plA mk nm as).map (·.2) = inPlace (as.map (·.2)) nm (mk.map (·.2))
  | [] => rfl
  | p :: r => by
    unfold plA inPlace
    rw [List.flatMap_cons, List.map_cons, List.flatMap_cons, List.map_append]
    have ih := plA_snd mk nm r
    unfold plA inPlace at ih
    rw [ih]
    congr 1
    by_cases c : p.2.name = nm
    · rw [if_pos c, if_pos c]
    · rw [if_neg c, if_neg c]
      rfl
theorem plA_len (mk : List (Addr × Stp)) (nm : Str) (hm : mk.length ≤ 10) : ∀ as : List (Addr × Stp), (plA mk nm as).length ≤ 10 * as.length
  | [] => Nat.zero_le _
  | p :: r => by
    have ih := plA_len mk nm hm r
    unfold plA at ih ⊢
    rw [List.flatMap_cons, List.length_append, List.length_cons]
    have : (if p.2.name = nm then mk else [p]).length ≤ 10 := by
      split
      · exact hm
      · exact (by decide : 1 ≤ 10)
    omega
theorem ok_place {f : Addr} {fd : FuncData} (F : Fun K "in_place" "in_place" s_in_place f fd) (m_tuple : mg "tuple" = none) : FnOk P w K mg base CX0 1 f fd ["job", "name", "made"] spPlace := by
  refine F.ok sc_place (fun vs H Q E h => ?_) (fun cdv A outer s0 H vs Q E hr h => ?_)
  · obtain ⟨job, L, as, mk, an, nm, rfl, _⟩ := h
    rfl
  obtain ⟨job, L, as, mk, an, nm, rfl, ⟨sl, h1, h2, h3⟩, ⟨m1, m2⟩, hl, hml, q⟩ := h
  have nd := sc_place.nd
  refine ⟨_, pss_cons (ps_set (i := 3) nd rfl (.inl rfl) (pe_lst pa_nil))
      (pss_cons (ps_for PassesOwn.never rfl (pi_tup (pe_ix ix_tup (pv 0) pe_int (fun _ _ => rfl))) (pg_name (i := 4) nd rfl (.inl rfl)) (pss_one (ps_if (pt_cmpR op_eq (pe_ix ix_tup (pv 4) pe_int (fun _ _ => rfl)) (pv 1) (nomark _)) (pss_one (ps_expr (pe_bm PySem.F.plainAttrs_list PySem.F.slot_list_extend PySem.F.type_list_extend mt_extend (pv 3) (pa_cons (pv 2) pa_nil)))) (pss_one (ps_expr (pe_bm PySem.F.plainAttrs_list PySem.F.slot_list_append PySem.F.type_list_append mt_append (pv 3) (pa_cons (pv 4) pa_nil)))))))
      (pss_one (ps_ret (pe_tup (pa_cons (pe_callTy call_tuple_of (by rfl) m_tuple PyProof.Rows.boot_tuple (pa_cons (pv 3) pa_nil)) (pa_cons (pe_ix ix_tup (pv 0) pe_int (fun _ _ => rfl)) pa_nil)))))), ?_⟩
  have z2 : 2 ≤ sizeLine := by decide
  refine ⟨by show 0 ≤ sizeLine; decide, fun S hS => ?_⟩
  have s1 := same_upd (o := .lst []) hS
  have eS : upd H S (.lst []) S = some (.lst []) := upd_same
  generalize upd H S (.lst []) = H1 at s1 eS ⊢
  have nLS : L ≠ S := fun z => by rw [z, hS] at m1; cases m1
  have keep : ∀ {G : Hp}, But S H1 G → Same H G := fun b a o e => b a o (ne_of_none e hS) (s1 _ _ e)
  refine ⟨_, rfl, job, _, 0, _, rfl, rfl, SqT.of (s1 _ _ h1), rfl, sl, rfl, ⟨_, SqT.of (s1 _ _ h2)⟩, ?_⟩
  refine for_tup (K := K) (a := sl) (xs := as.map fun p => .ref p.1) (fun i σ G => ∃ y, σ = [some (.ref job), some (.str nm), some (.ref L), some (.ref S), y] ∧ But S H1 G ∧ G S = some (.lst ((plA mk nm (as.take i)).map fun p => .ref p.1))) ⟨_, rfl, But.refl _ _, eS⟩ (fun i σ G _ ⟨_, _, b, _⟩ => SqT.of (keep b _ _ h2)) ?_ ?_
  · rintro i x σ G hx ⟨y, rfl, b, eG⟩
    rw [List.getElem?_map] at hx
    obtain ⟨p, hp, rfl⟩ := Option.map_eq_some_iff.mp hx
    have hi : i < as.length := (List.getElem?_eq_some_iff.mp hp).1
    obtain ⟨i1, d1, y1, y2, y3⟩ := (h3 p (List.mem_of_getElem? hp)).same (keep b)
    have tk : plA mk nm (as.take (i + 1)) = plA mk nm (as.take i) ++ if p.2.name = nm then mk else [p] := by
      unfold plA
      rw [List.take_add_one, hp, List.flatMap_append]
      congr 1
      show (if p.2.name = nm then mk else [p]) ++ [] = _
      rw [List.append_nil]
    have ln := plA_len mk nm hml (as.take i)
    rw [List.length_take] at ln
    refine ⟨_, rfl, p.1, _, 0, .str p.2.name, rfl, rfl, SqT.of y1, rfl, _, rfl, rfl, _, rfl, ?_⟩
    by_cases c : p.2.name = nm
    · refine ifT' (decide_eq_true (by rw [c])) ⟨_, rfl, .inl ⟨rfl, _, SqL.of eG⟩, _, rfl, S, L, _, _, rfl, rfl, eG, keep b _ _ m1, Nat.le_trans (show _ ≤ 1010 by rw [List.length_map, List.length_map]; omega) (by decide), ?_⟩
      refine ⟨_, rfl, fun a o hc e => by rw [upd_ne hc]; exact b a o hc e, ?_⟩
      rw [upd_same, tk, if_pos c, List.map_append]
    · refine ifF' (decide_eq_false (str_ne c)) ⟨_, rfl, .inl ⟨rfl, _, SqL.of eG⟩, _, rfl, S, _, _, rfl, rfl, eG, Nat.lt_of_le_of_lt (show _ ≤ 1000 by rw [List.length_map]; omega) (by decide), ?_⟩
      refine ⟨_, rfl, fun a o hc e => by rw [upd_ne hc]; exact b a o hc e, ?_⟩
      rw [upd_same, tk, if_neg c, List.map_append]
      rfl
  · rintro σ G ⟨y, rfl, b, eG⟩
    rw [List.length_map, List.take_length] at eG
    have sm := keep b
    refine ⟨_, rfl, S, _, rfl, .inl ⟨SqL.of eG, fun t ht => ?_⟩⟩
    have s2 := same_upd (o := .tup ((plA mk nm as).map fun p => .ref p.1)) ht
    refine ⟨_, rfl, job, _, 1, _, rfl, rfl, SqT.of ((sm.trans s2) _ _ h1), rfl, z2, fun u hu => ?_⟩
    have s3 := same_upd (o := .tup [.ref t, .str an]) hu
    have sA := (sm.trans s2).trans s3
    refine q u (plA mk nm as) _ sA ⟨t, upd_same, s3 _ _ upd_same, fun p hp => ?_⟩ (plA_snd mk nm as)
    obtain ⟨r, hr, hpr⟩ := List.mem_flatMap.mp hp
    split at hpr
    · exact (m2 p hpr).same sA
    · rw [List.mem_singleton.mp hpr]
      exact (h3 r hr).same sA
/-! ### without_step -/
def spDrop : Sp := fun vs H Q _ => ∃ (job : Addr) (as : List (Addr × Stp)) (an nm : Str), vs = [.ref job, .str nm] ∧ JobAt H job as an ∧ as.length ≤ 100 ∧ Res H an Q (dropF (as.map (·.2)) an nm)
theorem sc_drop : FnScope ["job", "name"] ["job", "name"] (defScope s_without_step) := ⟨rfl, rfl, rfl, by decide +kernel, rfl, by decide +kernel, by decide +kernel⟩
theorem ok_drop {f : Addr} {fd : FuncData} (F : Fun K "without_step" "without_step" s_without_step f fd) (G_isused : Ready P w K mg base 1 "is_used" ["job", "name"] spIsUsed) (G_place : Ready P w K mg base 1 "in_place" ["job", "name", "made"] spPlace) : FnOk P w K mg base CX0 2 f fd ["job", "name"] spDrop := by
  refine F.ok sc_drop (fun vs H Q E h => ?_) (fun cdv A outer s0 H vs Q E hr h => ?_)
  · obtain ⟨job, as, an, nm, rfl, _⟩ := h
    rfl
  obtain ⟨job, as, an, nm, rfl, hJ, hl, q⟩ := h
  have hr1 : Room 1 _ := hr
  refine ⟨_, pss_cons (ps_if (PW.pt (pw_or (pt_cmpR op_eq (pv 1) (pe_ix ix_tup (pv 0) pe_int (fun _ _ => rfl)) (nomark _)) (pw_or1 (pt_val (pe_fn G_isused hr1 (pa_cons (pv 0) (pa_cons (pv 1) pa_nil))))))) (pss_one (ps_ret pe_non)) (pss_nil))
      (pss_one (ps_ret (pe_fn G_place hr1 (pa_cons (pv 0) (pa_cons (pv 1) (pa_cons (pe_lst pa_nil) pa_nil)))))), ?_⟩
  obtain ⟨sl, h1, h2, h3⟩ := id hJ
  unfold dropF at q
  refine ⟨_, rfl, _, rfl, job, _, 1, .str an, rfl, rfl, SqT.of h1, rfl, rfl, _, rfl, ?_⟩
  by_cases c : nm = an
  · rw [if_pos (.inl c)] at q
    exact ifT' (decide_eq_true (by rw [c])) (q.1 rfl H (Same.refl _))
  · refine ifF' (decide_eq_false (str_ne c)) ⟨_, rfl, _, rfl, job, as, an, nm, rfl, hJ, hl, fun H1 s1 => ⟨_, rfl, ?_⟩⟩
    by_cases c2 : usedS (as.map (·.2)) nm = true
    · rw [if_pos (.inr c2)] at q
      exact ifT' c2 (q.1 rfl H1 s1)
    · rw [if_neg (fun z => z.elim c c2)] at q
      refine ifF' (Bool.eq_false_iff.mpr c2) ⟨_, rfl, _, rfl, by show 0 ≤ sizeLine; decide, fun L hL => ?_⟩
      have s2 := s1.trans (same_upd (o := .lst []) hL)
      exact ⟨job, L, as, [], an, nm, rfl, hJ.same s2, ⟨upd_same, fun p hp => by cases hp⟩, hl, Nat.zero_le _, fun r as' H' s3 hj e => q.2 _ rfl r as' H' (s2.trans s3) hj e⟩
/-! ### without_use -/
def spSame : Sp := fun vs H Q _ => ∃ (job st : Addr) (as : List (Addr × Stp)) (an : Str) (s : Stp), vs = [.ref job, .ref st] ∧ JobAt H job as an ∧ StpAt H st s ∧ StpJ Bs s ∧ (∀ p ∈ as, StpJ Bs p.2) ∧ as.length ≤ 100 ∧ Res H an Q (sameF (as.map (·.2)) s)
abbrev N_without_use : List Str := ["job", "step", "name", "first", "other"]
theorem sc_same : FnScope N_without_use ["job", "step"] (defScope s_without_use) := ⟨rfl, rfl, rfl, by decide +kernel, rfl, by decide +kernel, by decide +kernel⟩
theorem arity2 (d : Det) : d.arity ≤ 2 := by cases d <;> first | exact Nat.le_refl 2 | exact Nat.le_succ 1 | exact Nat.zero_le 2
theorem ok_same {f : Addr} {fd : FuncData} (F : Fun K "without_use" "without_use" s_without_use f fd) (m_tuple : mg "tuple" = none) (G_isused : Ready P w K mg base 1 "is_used" ["job", "name"] spIsUsed) (G_first : Ready P w K mg base 1 "first_alike" ["job", "step"] spFirst) (G_input : Ready P w K mg base 1 "with_input" ["step", "old", "new"] spInput) : FnOk P w K mg base CX0 2 f fd ["job", "step"] spSame := by
  refine F.ok sc_same (fun vs H Q E h => ?_) (fun cdv A outer s0 H vs Q E hr h => ?_)
  · obtain ⟨job, st, as, an, s, rfl, _⟩ := h
    rfl
  obtain ⟨job, st, as, an, s, rfl, hJ, hst, hS, hall, hl, q⟩ := h
  have nd := sc_same.nd
  have hr1 : Room 1 _ := hr
  refine ⟨_, pss_cons (ps_set (i := 2) nd rfl (.inr rfl) (pe_ix ix_tup (pv 1) pe_int (fun _ _ => rfl)))
      (pss_cons (ps_set (i := 3) nd rfl (.inr rfl) (pe_fn G_first hr1 (pa_cons (pv 0) (pa_cons (pv 1) pa_nil))))
      (pss_cons (ps_if (PW.pt (pw_or (pt_cmpR op_eq (pe_ix ix_tup (pv 1) pe_int (fun _ _ => rfl)) pe_str (nomark _)) (pw_or (pt_cmpR op_eq (pv 3) (pv 2) (nomark _)) (pw_or1 (pt_not (pt_val (pe_fn G_isused hr1 (pa_cons (pv 0) (pa_cons (pv 2) pa_nil))))))))) (pss_one (ps_ret pe_non)) (pss_nil))
      (pss_one (ps_ret (pe_tup (pa_cons (pe_callTy call_tuple_of (by rfl) m_tuple PyProof.Rows.boot_tuple (pa_cons (pe_lc (own := [("other", 4)]) (g := gName 4) (tt := tYes) (te := tCall spInput [] E0 (tCons (tVar 4) (tCons (tVar 2) (tCons (tVar 3) tNil)))) rfl nd (pi_tup (pe_ix ix_tup (pv 0) pe_int (fun _ _ => rfl))) (blkOk_by (N := N_without_use) (sc := defScope s_without_use) (by decide +kernel)) (fun _ _ _ _ _ => pg_name (i := 4) nd rfl (Or.inl rfl)) (fun _ _ _ _ _ => pts_nil) (fun _ _ _ _ _ => (pe_fn G_input hr1 (pa_cons (pv 4) (pa_cons (pv 2) (pa_cons (pv 3) pa_nil)))))) pa_nil)) (pa_cons (pe_ix ix_tup (pv 0) pe_int (fun _ _ => rfl)) pa_nil))))))), ?_⟩
  have z2 : 2 ≤ sizeLine := by decide
  obtain ⟨inp, dv, x1, x2, x3⟩ := id hst
  unfold sameF at q
  refine ⟨_, rfl, st, _, 0, .str s.name, rfl, rfl, SqT.of x1, rfl, _, rfl, _, rfl, job, st, as, an, s, rfl, hJ, hst, hS, hall, fun H1 s1 => ?_⟩
  obtain ⟨sl, h1, h2, h3⟩ := hJ.same s1
  refine ⟨_, rfl, st, _, 1, .str s.det.what, rfl, rfl, SqT.of (s1 _ _ x1), rfl, rfl, _, rfl, ?_⟩
  by_cases c1 : s.det.what = "read"
  · rw [if_pos (.inl c1)] at q
    exact ifT' (decide_eq_true (by rw [c1])) (q.1 rfl H1 s1)
  refine ifF' (decide_eq_false (str_ne c1)) ⟨_, rfl, _, rfl, rfl, _, rfl, ?_⟩
  by_cases c2 : firstS (as.map (·.2)) s = s.name
  · rw [if_pos (.inr (.inl c2))] at q
    exact ifT' (decide_eq_true (by rw [c2])) (q.1 rfl H1 s1)
  refine ifF' (decide_eq_false (str_ne c2)) ⟨_, rfl, _, rfl, job, as, an, s.name, rfl, ⟨sl, h1, h2, h3⟩, hl, fun H2 s2 => ⟨_, rfl, ?_⟩⟩
  by_cases c3 : usedS (as.map (·.2)) s.name = true
  · rw [if_neg (fun z => z.elim c1 fun z => z.elim c2 fun z => by rw [c3] at z; cases z)] at q
    rw [c3]
    refine ifF' rfl ?_
    have s12 := s1.trans s2
    refine ⟨_, rfl, job, _, 0, _, rfl, rfl, SqT.of (s2 _ _ h1), rfl, sl, rfl, ⟨_, SqT.of (s2 _ _ h2)⟩, fun D hD => ?_⟩
    generalize firstS (as.map (·.2)) s = new at q c2 ⊢
    refine lc_tup (K := K) (a := sl) (xs := as.map fun p => .ref p.1) (fun i G => Same H2 G ∧ ∃ as' : List (Addr × Stp), G D = some (.lst (as'.map fun p => .ref p.1)) ∧ as'.map (·.2) = ((as.take i).map (·.2)).map (substS s.name new) ∧ ∀ p ∈ as', StpAt G p.1 p.2) ⟨same_upd hD, [], upd_same, rfl, fun p hp => by cases hp⟩ (fun i G _ h => SqT.of (h.1 _ _ (s2 _ _ h2))) ?_ ?_
    · rintro i x G hx ⟨sm, as', eD, e2, hA⟩
      rw [List.getElem?_map] at hx
      obtain ⟨p, hp, rfl⟩ := Option.map_eq_some_iff.mp hx
      have pm := List.mem_of_getElem? hp
      have lenA : as'.length ≤ 100 := by
        have h := congrArg List.length e2
        rw [List.length_map, List.length_map, List.length_map, List.length_take] at h
        omega
      refine ⟨rfl, _, rfl, _, rfl, _, rfl, p.1, p.2, s.name, new, rfl, (h3 p pm).same (s2.trans sm), by have := (hall p pm).ar; have := arity2 p.2.det; omega, fun t G2 s3 ht => ?_⟩
      have eD2 := s3 _ _ eD
      have back : ∀ {a : Addr} {q : Stp}, StpAt G2 a q → StpAt (upd G2 D (.lst (as'.map (fun p => V.ref p.1) ++ [.ref t]))) a q := fun h => h.keep (fun a xs e => by
        rw [upd_ne (fun z => by rw [z, eD2] at e; cases e)]
        exact e) fun a xs ⟨o, dn, e⟩ => ⟨o, dn, by
        rw [upd_ne (fun z => by rw [z, eD2] at e; cases e)]
        exact e⟩
      refine ⟨_, eD2, Nat.lt_of_le_of_lt (show _ ≤ 100 by rw [List.length_map]; exact lenA) (by decide), fun b o ex => ?_, as' ++ [(t, substS s.name new p.2)], ?_, ?_, fun r hr => ?_⟩
      · rw [upd_ne (ne_of_none ex hD)]
        exact s3 _ _ (sm _ _ ex)
      · rw [upd_same, List.map_append]
        rfl
      · rw [List.map_append, e2, List.take_add_one, hp, List.map_append, List.map_append]
        rfl
      · rcases List.mem_append.mp hr with hr | hr
        · exact back ((hA r hr).same s3)
        · rw [List.mem_singleton.mp hr]
          exact back ht
    · rintro G ⟨sm, as', eD, e2, hA⟩
      rw [List.length_map, List.take_length] at e2
      refine ⟨D, _, rfl, .inl ⟨SqL.of eD, fun t ht => ?_⟩⟩
      have s3 := same_upd (o := .tup (as'.map fun p => .ref p.1)) ht
      have sB := (s2.trans sm).trans s3
      refine ⟨_, rfl, job, _, 1, .str an, rfl, rfl, SqT.of (sB _ _ h1), rfl, z2, fun u hu => ?_⟩
      have s4 := same_upd (o := .tup [.ref t, .str an]) hu
      exact q.2 _ rfl u as' _ ((s1.trans sB).trans s4) ⟨t, upd_same, s4 _ _ upd_same, fun p hp => (hA p hp).same (s3.trans s4)⟩ e2
  · have c3' := Bool.eq_false_iff.mpr c3
    rw [if_pos (.inr (.inr c3'))] at q
    rw [c3']
    exact ifT' rfl (q.1 rfl H2 (s1.trans s2))
end
end Kx

namespace Kx
open PySem PySem.Spec PyProof.Rows L2
abbrev s_narrowed : Stmt := topS 42
/-- a def that may raise, called where it does not -/
theorem pe_fnN {X : Cx} {k : Nat} {x : Str} {ps : List Str} {sp : Sp} {p pos : Pos} {e : Expr} {es : List Expr} {t : TA} (G : ReadyX X.prog X.w X.K X.mg X.base k x ps sp) (hr : Room k X.A) (ha : PA X (e :: es) t) (hg : Gl X x := by rfl)
    (hdb : (x == ("__debug__" : Str)) = false := by decide) (he : starEach (e :: es) X.env = (false, eval e X.env) :: starEach es X.env := by rfl) (hpl : (backTo pos (starEach es X.env)).any (·.1) = false := by rfl) :
    PE X (.Call (.Name x p) (e :: es) [] pos) (tCall sp [] E0 t) := by
  obtain ⟨f, fd, h, hb, hm, hk⟩ := G.ex
  exact pe_call h hr hg hm hk hb .nil (fun _ _ _ _ _ _ _ ⟨_, _, _, _, _, _, _, _, _, _, _, _, z⟩ => z.elim) ha hdb he hpl
/-- a right job: columns_of tells its environment -/
theorem cols_call {K : PySem.W.Frag} {C : Addr} {H : Hp} {Q : VK} {job : Addr} {as : List (Addr × Stp)} {an : Str} {kn : List (Str × List NC)} (hJ : JobAt H job as an) (ho : ∀ p ∈ as, StpJ Bs p.2) (hl : as.length ≤ 100) (hr : runC [] (as.map (·.2)) = .ok kn) (ha : an ∈ kn.map (·.1))
    (q : ∀ (T : Addr) (tg : Tg) (H' : Hp), Same H H' → H' T = some (.dK (tg.map fun e => (.inr e.1, .ref e.2.1))) → absT tg = kn → (∀ e ∈ tg, CF H' e.2.1 e.2.2) → Q (.ref T) H') : spColsJ K C [.ref job] H Q E0 := by
  obtain ⟨st, h1, h2, h3⟩ := hJ
  refine ⟨job, st, an, as, rfl, h1, h2, fun p hp => ⟨h3 p hp, (ho p hp).big.ok⟩, hl, fun k e1 e2 T tg H' s e3 e4 e5 => ?_, fun k e1 e2 => ?_, fun nm e1 => ?_⟩
  · rw [hr] at e1
    cases e1
    exact q T tg H' s e3 e4 e5
  · rw [hr] at e1
    cases e1
    exact absurd ha e2
  · rw [hr] at e1
    cases e1
theorem tg_val {tg : Tg} {kn : List (Str × List NC)} (h : absT tg = kn) (nd : (kn.map (·.1)).Nodup) {x : Str} (hx : x ∈ kn.map (·.1)) : ∃ e ∈ tg, e.1 = x ∧ e.2.2 = known kn x ∧ valV (tg.map fun e => ((.inr e.1 : L2.Key), V.ref e.2.1)) (.inr x) = some (.ref e.2.1) := by
  subst h
  have names : (absT tg).map (·.1) = tg.map (·.1) := by
    unfold absT
    rw [List.map_map]
    rfl
  rw [names] at hx nd
  obtain ⟨e, he, rfl⟩ := List.mem_map.mp hx
  exact ⟨e, he, rfl, (known_in nd he).symm, val_in nd he⟩
def usedO (f : FC) : List Str := match f.2.1 with
  | none => []
  | some e => usedC e
theorem usedF_eq (ks : List NC) (fs : List FC) : usedF ks fs = ks.map (fun k => k.1) ++ fs.flatMap usedO := rfl
theorem usedF_succ {ks : List NC} {fs : List FC} {i : Nat} {f : FC} (h : fs[i]? = some f) : usedF ks (fs.take (i + 1)) = usedF ks (fs.take i) ++ usedO f := by
  rw [usedF_eq, usedF_eq, List.take_add_one, h, List.flatMap_append, List.append_assoc]
  show _ ++ (_ ++ (usedO f ++ [])) = _
  rw [List.append_nil]
theorem usedF_len {ks : List NC} {fs : List FC} (h1 : ks.length ≤ 100) (h : ∀ f ∈ fs, (usedO f).length ≤ 80) (h2 : fs.length ≤ 100) : (usedF ks fs).length ≤ 9000 := by
  rw [usedF_eq, List.length_append, List.length_map]
  have : ∀ l : List FC, (∀ f ∈ l, (usedO f).length ≤ 80) → (l.flatMap usedO).length ≤ 80 * l.length := by
    intro l
    induction l with
    | nil => intro _; exact Nat.zero_le _
    | cons f r ih =>
      intro hl
      have ih := ih fun g hg => hl g (List.mem_cons_of_mem _ hg)
      have := hl f List.mem_cons_self
      rw [List.flatMap_cons, List.length_append, List.length_cons]
      omega
  have := this fs h
  omega
section
variable {P : Program} {w : World} {K : PySem.W.Frag} {mg : Str → Option Value} {base : Heap}
/-- how one goes on with steps that are made, or with none -/
def ResL (H : Hp) (Q : VK) (o : Option (List Stp)) : Prop := (o = none → ∀ H', Same H H' → Q .non H') ∧ ∀ made, o = some made → ∀ (L : Addr) (mk : List (Addr × Stp)) (H' : Hp), Same H H' → MadeAt H' L mk → mk.map (·.2) = made → Q (.ref L) H'
structure JobOn (H : Hp) (job : Addr) (as : List (Addr × Stp)) (an : Str) (kn : List (Str × List NC)) : Prop where
  at_ : JobAt H job as an
  all : ∀ p ∈ as, StpJ Bs p.2
  len : as.length ≤ 50
  run : runC [] (as.map (·.2)) = .ok kn
  ans : an ∈ kn.map (·.1)
theorem JobOn.same {H H' : Hp} {job : Addr} {as : List (Addr × Stp)} {an : Str} {kn : List (Str × List NC)} (h : JobOn H job as an kn) (s : Same H H') : JobOn H' job as an kn := ⟨h.at_.same s, h.all, h.len, h.run, h.ans⟩
theorem JobOn.nd {H : Hp} {job : Addr} {as : List (Addr × Stp)} {an : Str} {kn : List (Str × List NC)} (h : JobOn H job as an kn) : (kn.map (·.1)).Nodup := by
  have := run_names h.run
  rw [this.1]
  simpa using this.2.1
theorem JobOn.ins {H : Hp} {job : Addr} {as : List (Addr × Stp)} {an : Str} {kn : List (Str × List NC)} (h : JobOn H job as an kn) {s : Stp} (hs : s ∈ as.map (·.2)) {x : Str} (hx : x ∈ s.ins) : x ∈ kn.map (·.1) := (told_behind h.run hs).2.1 x hx
def spNarrow : Sp := fun vs H Q _ => ∃ (job st : Addr) (as : List (Addr × Stp)) (an : Str) (kn : List (Str × List NC)) (s : Stp) (ks : List NC) (fs : List FC), vs = [.ref job, .ref st] ∧ JobOn H job as an kn ∧ StpAt H st s ∧ s ∈ as.map (·.2) ∧ s.det = .fold ks fs ∧ ResL H Q (narrowF kn (as.map (·.2)) s ks fs)
abbrev N_narrowed : List Str := ["job", "step", "source", "keys", "folds", "used", "_", "told", "columns", "kept", "name", "ahead", "details"]
theorem sc_narrow : FnScope N_narrowed ["job", "step"] (defScope s_narrowed) := ⟨rfl, rfl, rfl, by decide +kernel, rfl, by decide +kernel, by decide +kernel⟩
theorem ok_narrow {f C : Addr} {fd : FuncData} {k kc ku : Nat} (F : Fun K "narrowed" "narrowed" s_narrowed f fd) (hk1 : 1 ≤ k) (hkc : kc ≤ k) (hku : ku ≤ k) (m_len : mg "len" = none) (m_tuple : mg "tuple" = none) (m_list : mg "list" = none) (G_cols : ReadyX P w K mg base kc "columns_of" ["job"] (spColsJ K C)) (G_used : Ready P w K mg base ku "columns_used" ["told"] (spUsed 40)) (G_free : Ready P w K mg base 1 "free_names" ["job", "many"] spFree) : FnOk P w K mg base CX0 (k + 1) f fd ["job", "step"] spNarrow := by
  refine F.ok sc_narrow (fun vs H Q E h => ?_) (fun cdv A outer s0 H vs Q E hr h => ?_)
  · obtain ⟨job, st, as, an, kn, s, ks, fs, rfl, _⟩ := h
    rfl
  obtain ⟨job, st, as, an, kn, s, ks, fs, rfl, J, hst, hs, hd, q⟩ := h
  have nd := sc_narrow.nd
  have hrk : Room k _ := hr
  have hrc : Room kc _ := hrk.mono hkc
  have hru : Room ku _ := hrk.mono hku
  have hr1 : Room 1 _ := hrk.mono hk1
  have hu64 : _ + 64 < cLine := hr.units
  have hu1 : _ + 1 < cLine := Nat.lt_of_le_of_lt (Nat.add_le_add_left (by decide : 1 ≤ 64) _) hu64
  refine ⟨_, pss_cons (ps_set (i := 2) nd rfl (.inl rfl) (pe_ix ix_tup (pe_ix ix_tup (pv 1) pe_int (fun _ _ => rfl)) pe_int (fun _ _ => rfl)))
      (pss_cons (ps_asg (pe_ix ix_tup (pv 1) pe_int (fun _ _ => rfl)) (pg_tup rfl (pgs_cons (pg_name (i := 3) nd rfl (.inl rfl)) (pgs_cons (pg_name (i := 4) nd rfl (.inl rfl)) pgs_nil))))
      (pss_cons (ps_set (i := 5) nd rfl (.inr rfl) (pe_callTy call_list_of (by rfl) m_list PyProof.Rows.boot_list (pa_cons (pv 3) pa_nil)))
      (pss_cons (ps_for PassesOwn.never rfl (pi_tup (pv 4)) (pg_tup rfl (pgs_cons (pg_name (i := 6) nd rfl (.inl rfl)) (pgs_cons (pg_name (i := 7) nd rfl (.inl rfl)) (pgs_cons (pg_name (i := 6) nd rfl (.inl rfl)) pgs_nil)))) (pss_one (ps_if (pt_cmpR op_notN (pv 7) pe_non (nomark _)) (pss_one (ps_expr (pe_bm PySem.F.plainAttrs_list PySem.F.slot_list_extend PySem.F.type_list_extend mt_extend (pv 5) (pa_cons (pe_fn G_used hru (pa_cons (pv 7) pa_nil)) pa_nil)))) (pss_nil))))
      (pss_cons (ps_set (i := 8) nd rfl (.inl rfl) (pe_dget hu1 (pe_fnN G_cols hrc (pa_cons (pv 0) pa_nil)) (pv 2) (fun _ _ => rfl)))
      (pss_cons (ps_setLc (i := 9) (own := [("name", 10), ("_", 6)]) (g := (gTup K 2 (gCons (gName 10) (gCons (gName 6) gNil)))) (tt := tTest (tOp (rIn K false) (tVar 10) (tVar 5))) rfl nd rfl rfl (sw_true rfl rfl rfl (by decide +kernel)) (pi_tup (pv 8)) (blkOk_by (N := N_narrowed) (sc := defScope s_narrowed) (by decide +kernel)) (fun _ _ _ _ _ => pg_tup rfl (pgs_cons (pg_name (i := 10) nd rfl (.inl rfl)) (pgs_cons (pg_name (i := 6) nd rfl (.inl rfl)) pgs_nil))) (fun _ _ _ _ _ => pts_one (pt_cmpR op_in_seq (pv 10) (pv 5) rfl)) (fun _ _ _ _ _ => (pv 10)))
      (pss_cons (ps_if (PW.pt (pw_or (pt_cmpR op_eq (pe_callB call_len_seq (by rfl) m_len PySem.boot_len (pa_cons (pv 9) pa_nil)) pe_int (nomark _)) (pw_or1 (pt_cmpR op_eq (pe_callB call_len_seq (by rfl) m_len PySem.boot_len (pa_cons (pv 9) pa_nil)) (pe_callB call_len_seq (by rfl) m_len PySem.boot_len (pa_cons (pv 8) pa_nil)) (nomark _))))) (pss_one (ps_ret pe_non)) (pss_nil))
      (pss_cons (ps_set (i := 11) nd rfl (.inl rfl) (pe_ix ix_list (pe_fn G_free hr1 (pa_cons (pv 0) (pa_cons pe_int pa_nil))) pe_int (fun _ _ => rfl)))
      (pss_cons (ps_set (i := 12) nd rfl (.inl rfl) (pe_callTy call_tuple_of (by rfl) m_tuple PyProof.Rows.boot_tuple (pa_cons (pe_lc (own := [("name", 10)]) (g := gName 10) (tt := tYes) (te := tTup (tCons (tTup (tCons (tC (.str "column")) (tCons (tVar 10) tNil))) (tCons (tVar 10) tNil))) rfl nd (pi_list (pv 9)) (blkOk_by (N := N_narrowed) (sc := defScope s_narrowed) (by decide +kernel)) (fun _ _ _ _ _ => pg_name (i := 10) nd rfl (Or.inl rfl)) (fun _ _ _ _ _ => pts_nil) (fun _ _ _ _ _ => (pe_tup (pa_cons (pe_tup (pa_cons pe_str (pa_cons (pv 10) pa_nil))) (pa_cons (pv 10) pa_nil))))) pa_nil)))
      (pss_one (ps_ret (pe_lst (pa_cons (pe_tup (pa_cons (pv 11) (pa_cons pe_str (pa_cons (pe_tup (pa_cons (pv 2) pa_nil)) (pa_cons (pv 12) pa_nil))))) (pa_cons (pe_tup (pa_cons (pe_ix ix_tup (pv 1) pe_int (fun _ _ => rfl)) (pa_cons pe_str (pa_cons (pe_tup (pa_cons (pv 11) pa_nil)) (pa_cons (pe_ix ix_tup (pv 1) pe_int (fun _ _ => rfl)) pa_nil))))) pa_nil))))))))))))), ?_⟩
  have z1 : 1 ≤ sizeLine := by decide
  have z2 : 2 ≤ sizeLine := by decide
  have z4 : 4 ≤ sizeLine := by decide
  have js : StpJ Bs s := by
    obtain ⟨p, hp, rfl⟩ := List.mem_map.mp hs
    exact J.all p hp
  have hin := ins_one (t := s) (by rw [js.ar, hd]; rfl)
  have jd := js.det
  rw [hd] at jd
  obtain ⟨inp, dv, x1, x2, x3⟩ := id hst
  rw [hd] at x3
  obtain ⟨t', kt, ft, asf, rfl, y1, y2, y3, y4, y5⟩ := id x3
  rw [hin] at x2
  have hsrc : s.ins.getD 0 "" ∈ kn.map (·.1) := J.ins hs (by rw [hin]; exact List.mem_cons_self)
  unfold narrowF keptF at q
  generalize hsr : s.ins.getD 0 "" = src at q x2 hsrc
  refine ⟨_, rfl, st, _, 2, .ref inp, rfl, rfl, SqT.of x1, rfl, inp, _, 0, .str src, rfl, rfl, SqT.of x2, rfl, ?_⟩
  refine ⟨_, rfl, st, _, 3, .ref t', rfl, rfl, SqT.of x1, rfl, t', _, rfl, SqT.of y1, rfl, _, _, rfl, _, _, rfl, rfl, ?_⟩
  refine ⟨_, rfl, kt, _, rfl, .inr (SqT.of y2), fun U hU => ?_⟩
  have s1 := same_upd (o := .lst (ks.map fun k => V.str k.1)) hU
  have eU : upd H U (.lst (ks.map fun k => V.str k.1)) U = some (.lst (ks.map fun k => V.str k.1)) := upd_same
  generalize upd H U (.lst (ks.map fun k => V.str k.1)) = H1 at s1 eU ⊢
  have keepU : ∀ {G : Hp}, But U H1 G → Same H G := fun b a o e => b a o (ne_of_none e hU) (s1 _ _ e)
  have lf : asf.length = fs.length := by rw [← y5, List.length_map]
  have uo : ∀ f ∈ fs, (usedO f).length ≤ 80 := fun f hf => by
    unfold usedO
    cases e : f.2.1 with
    | none => exact Nat.zero_le _
    | some x => exact Nat.le_trans (used_len x) ((jd.2.2.2 f hf).2.2.2 x e).b.1
  have usedLen : ∀ i, (usedF ks (fs.take i)).length ≤ 9000 := fun i => usedF_len jd.1 (fun f hf => uo f (List.mem_of_mem_take hf)) (by rw [List.length_take]; have := jd.2.1; omega)
  refine ⟨_, rfl, ft, rfl, ⟨_, SqT.of (s1 _ _ y3)⟩, ?_⟩
  refine for_tup (K := K) (a := ft) (xs := asf.map fun p => .ref p.1) (fun i σ G => ∃ y6 y7, σ = [some (.ref job), some (.ref st), some (.str src), some (.ref kt), some (.ref ft), some (.ref U), y6, y7, none, none, none, none, none] ∧ But U H1 G ∧ G U = some (.lst ((usedF ks (fs.take i)).map V.str)))
    ⟨none, none, rfl, But.refl _ _, by rw [eU, usedF_eq]; show _ = some (HO.lst ((ks.map (fun k : NC => k.1) ++ []).map V.str)); rw [List.append_nil, List.map_map]; rfl⟩ (fun i σ G _ ⟨_, _, _, b, _⟩ => SqT.of (keepU b _ _ y3)) ?_ ?_
  · rintro i x σ G hx ⟨y6, y7, rfl, b, eG⟩
    rw [List.getElem?_map] at hx
    obtain ⟨p, hp, rfl⟩ := Option.map_eq_some_iff.mp hx
    have pm := List.mem_of_getElem? hp
    have hpf : fs[i]? = some p.2 := by rw [← y5, List.getElem?_map, hp]; rfl
    obtain ⟨told, w1, w2⟩ := y4 p pm
    have sm := keepU b
    have tk := usedF_succ (ks := ks) hpf
    refine ⟨p.1, _, rfl, SqT.of (sm _ _ w1), rfl, _, _, rfl, _, _, rfl, _, _, rfl, rfl, ?_⟩
    refine ⟨_, rfl, rfl, _, rfl, ?_⟩
    cases e : p.2.2.1 with
    | none =>
      rw [e] at w2
      have uz : usedO p.2 = [] := by unfold usedO; rw [e]
      rw [uz, List.append_nil] at tk
      obtain rfl : told = .non := w2
      rw [show decide (V.non = V.non) = true from decide_eq_true rfl]
      refine ifF' rfl ⟨_, _, rfl, b, ?_⟩
      rw [tk]
      exact eG
    | some x =>
      rw [e] at w2
      have uz : usedO p.2 = usedC x := by unfold usedO; rw [e]
      rw [uz] at tk
      have hx : ExAt H told x := w2
      obtain ⟨ta, te⟩ : ∃ a, told = .ref a := by
        obtain ⟨a, _, _, h, _⟩ := ex_head hx
        exact ⟨a, h⟩
      have gx := (jd.2.2.2 p.2 (List.mem_of_getElem? hpf)).2.2.2 x e
      rw [show decide (told = V.non) = false from decide_eq_false (by rw [te]; intro z; cases z)]
      refine ifT' rfl ⟨_, rfl, .inl ⟨rfl, _, SqL.of eG⟩, _, rfl, told, x, rfl, hx.same sm, gx.b.2, Nat.le_trans gx.b.1 (by decide), fun L G2 s2 hL eL => ?_⟩
      have hu := usedLen i
      have h80 : (usedC x).length ≤ 80 := Nat.le_trans (used_len x) gx.b.1
      refine ⟨U, L, _, _, rfl, rfl, s2 _ _ eG, eL, Nat.le_trans (show _ ≤ 10000 by rw [List.length_map, List.length_map]; omega) (by decide), ?_⟩
      refine ⟨_, _, rfl, fun a o hc e' => ?_, ?_⟩
      · rw [upd_ne hc]
        exact s2 _ _ (b a o hc e')
      · rw [upd_same, tk, List.map_append]
  rintro σ G ⟨y6, y7, rfl, b, eG⟩
  rw [List.length_map, lf, List.take_length] at eG
  have ulen : (usedF ks fs).length ≤ 9000 := usedF_len jd.1 uo jd.2.1
  have sm := keepU b
  refine ⟨_, rfl, ?_⟩
  unfold tNil
  dsimp only [List.append_nil]
  apply cols_call (K := K) (C := C) (J.at_.same sm) J.all (by have := J.len; omega) J.run J.ans
  intro T tg G2 s2 eT eab hcf
  obtain ⟨e0, he0, e1, e2, e3⟩ := tg_val eab J.nd hsrc
  have eT' : DGet G2 T (.str src) (some (.ref e0.2.1)) := e3 ▸ DGet.k (k := .inr src) eT
  refine ⟨_, rfl, T, _, rfl, eT', ?_⟩
  have hcC := hcf e0 he0
  rw [e2] at hcC
  obtain ⟨asc, c1, c2, c3⟩ := hcC
  have lc100 : (known kn src).length ≤ 100 := (run_named (k := []) J.run (fun t ht => by
      obtain ⟨p, hp, rfl⟩ := List.mem_map.mp ht
      exact ⟨(J.all p hp).nm, (J.all p hp).ar⟩) (fun x h => by cases h) src hsrc).good.few
  generalize known kn src = C0 at q c3 lc100
  generalize e0.2.1 = ca at c1
  have eU2 := s2 _ _ eG
  have s12 := sm.trans s2
  have lenC : asc.length = C0.length := by rw [← c3, List.length_map]
  refine ⟨_, rfl, ca, rfl, ⟨_, TupF.sq c1⟩, fun D hD => ?_⟩
  refine lc_tup (K := K) (a := ca) (xs := asc.map fun c => .ref c.1) (fun i X => Same G2 X ∧ X D = some (.lst ((((C0.take i).filter fun c => decide (c.1 ∈ usedF ks fs)).map (·.1)).map V.str))) ⟨same_upd hD, upd_same⟩ (fun i X _ h => TupF.sq (same_f h.1 _ _ c1)) ?_ ?_
  · rintro i x X hx ⟨smX, eD⟩
    rw [List.getElem?_map] at hx
    obtain ⟨c, hc, rfl⟩ := Option.map_eq_some_iff.mp hx
    have hcc : C0[i]? = some c.2 := by rw [← c3, List.getElem?_map, hc]; rfl
    have i100 : i < 100 := by
      have := (List.getElem?_eq_some_iff.mp hcc).1
      omega
    have tk : ((C0.take (i + 1)).filter fun c => decide (c.1 ∈ usedF ks fs)) = ((C0.take i).filter fun c => decide (c.1 ∈ usedF ks fs)) ++ if c.2.1 ∈ usedF ks fs then [c.2] else [] := by
      rw [List.take_add_one, hcc, List.filter_append]
      congr 1
      show [c.2].filter _ = _
      by_cases z : c.2.1 ∈ usedF ks fs
      · rw [if_pos z]
        simp [List.filter, z]
      · rw [if_neg z]
        simp [List.filter, z]
    refine ⟨c.1, _, rfl, SqT.of (smX _ _ (c2 c (List.mem_of_getElem? hc))), rfl, _, _, rfl, _, _, rfl, rfl, rfl, ?_⟩
    refine ⟨_, rfl, _, rfl, U, _, rfl, .inl (SqL.of (smX _ _ eU2)), rfl, flat_strs (usedF ks fs), _, rfl, ?_⟩
    rw [if_neg Bool.false_ne_true, inV_str]
    by_cases z : c.2.1 ∈ usedF ks fs
    · rw [if_pos z] at tk
      refine ifT' (decide_eq_true z) ⟨_, rfl, _, eD, ?_, fun b o ex => ?_, ?_⟩
      · refine Nat.lt_of_le_of_lt (show _ ≤ 100 from ?_) (by decide)
        rw [List.length_map, List.length_map]
        refine Nat.le_trans (List.length_filter_le _ _) ?_
        rw [List.length_take]
        omega
      · rw [upd_ne (ne_of_none ex hD)]
        exact smX _ _ ex
      · rw [upd_same, tk, List.map_append, List.map_append]
        rfl
    · rw [if_neg z, List.append_nil] at tk
      exact ifF' (decide_eq_false z) ⟨smX, by rw [tk]; exact eD⟩
  rintro X ⟨smX, eD⟩
  rw [List.length_map, lenC, List.take_length] at eD
  have s13 := s12.trans smX
  generalize hK : C0.filter (fun c => decide (c.1 ∈ usedF ks fs)) = kept at q eD
  have klen : kept.length ≤ 100 := by
    rw [← hK]
    exact Nat.le_trans (List.length_filter_le _ _) lc100
  have e1' : ((((kept.map (·.1)).map V.str).length : Nat) : Int) = (kept.length : Nat) := by rw [List.length_map, List.length_map]
  have e2' : (((asc.map fun c => V.ref c.1).length : Nat) : Int) = (C0.length : Nat) := by rw [List.length_map, lenC]
  refine ⟨_, rfl, D, _, rfl, .inl (SqL.of eD), rfl, _, rfl, ?_⟩
  rw [e1']
  by_cases c1' : kept.length = 0
  · rw [if_pos (.inl c1')] at q
    exact ifT' (decide_eq_true (by rw [c1']; rfl)) (q.1 rfl X s13)
  refine ifF' (decide_eq_false fun z => c1' (by injection z with z; omega)) ⟨_, rfl, D, _, rfl, .inl (SqL.of eD), _, rfl, ca, _, rfl, .inr (TupF.sq (same_f smX _ _ c1)), rfl, _, rfl, ?_⟩
  rw [e1', e2']
  by_cases c2' : kept.length = C0.length
  · rw [if_pos (.inr c2')] at q
    exact ifT' (decide_eq_true (by rw [c2'])) (q.1 rfl X s13)
  rw [if_neg (fun z => z.elim c1' c2')] at q
  refine ifF' (decide_eq_false fun z => c2' (by injection z with z; omega)) ?_
  have J3 := J.same s13
  refine ⟨_, rfl, job, as, an, 1, rfl, J3.at_, by have := J.len; omega, fun N X2 sN hN eN => ?_⟩
  have fl := free_len (taken := namesS (as.map (·.2))) (many := 1) (by rw [List.length_map, List.length_map]; have := J.len; omega)
  obtain ⟨ah, eah⟩ : ∃ ah, freeF (namesS (as.map (·.2))) 1 = [ah] := List.length_eq_one_iff.mp fl
  rw [eah] at eN q
  refine ⟨N, _, _, .str ah, rfl, rfl, SqL.of eN, rfl, ?_⟩
  have eD2 := sN _ _ eD
  refine ⟨_, rfl, D, rfl, ⟨_, SqL.of eD2⟩, fun E2 hE2 => ?_⟩
  refine lc_list (K := K) (a := D) (xs := (kept.map (·.1)).map V.str) (fun i Y => Same X2 Y ∧ ∃ as' : List (Addr × MC), Y E2 = some (.lst (as'.map fun p => .ref p.1)) ∧ as'.map (·.2) = (kept.take i).map (fun c => ((.col c.1, c.2, c.1) : MC)) ∧ ∀ p ∈ as', ∃ told, Y p.1 = some (.tup [told, .str p.2.2.2]) ∧ ExAt Y told p.2.1) ⟨same_upd hE2, [], upd_same, rfl, fun p hp => by cases hp⟩ (fun i Y _ h => SqL.of (h.1 _ _ eD2)) ?_ ?_
  · rintro i x Y hx ⟨smY, as', eE, ek, hst'⟩
    rw [List.getElem?_map, List.getElem?_map] at hx
    obtain ⟨z, hz, rfl⟩ := Option.map_eq_some_iff.mp hx
    obtain ⟨c, hc, rfl⟩ := Option.map_eq_some_iff.mp hz
    have lenA : as'.length ≤ 100 := by
      have h := congrArg List.length ek
      rw [List.length_map, List.length_map, List.length_take] at h
      omega
    refine ⟨rfl, _, rfl, z2, fun t1 ht1 => ?_⟩
    refine ⟨_, rfl, z2, fun t2 ht2 => ?_⟩
    have u1 := same_upd (o := .tup [.str "column", .str c.1]) ht1
    have u2 := same_upd (o := .tup [.ref t1, .str c.1]) ht2
    have eE2 := u2 _ _ (u1 _ _ eE)
    have back : ∀ {a : Addr} {xs : List V}, (upd (upd Y t1 (.tup [.str "column", .str c.1])) t2 (.tup [.ref t1, .str c.1])) a = some (.tup xs) → (upd (upd (upd Y t1 (.tup [.str "column", .str c.1])) t2 (.tup [.ref t1, .str c.1])) E2 (.lst (as'.map (fun p => V.ref p.1) ++ [.ref t2]))) a = some (.tup xs) := fun {a xs} e => by
      rw [upd_ne (fun z => by rw [z, eE2] at e; cases e)]
      exact e
    refine ⟨_, eE2, Nat.lt_of_le_of_lt (show _ ≤ 100 by rw [List.length_map]; exact lenA) (by decide), fun b o ex => ?_, as' ++ [(t2, (.col c.1, c.2, c.1))], ?_, ?_, fun r hr => ?_⟩
    · rw [upd_ne (ne_of_none ex hE2)]
      exact u2 _ _ (u1 _ _ (smY _ _ ex))
    · rw [upd_same, List.map_append]
      rfl
    · rw [List.map_append, ek, List.take_add_one, hc, List.map_append]
      rfl
    · rcases List.mem_append.mp hr with hr | hr
      · obtain ⟨told', w1, w2⟩ := hst' r hr
        exact ⟨told', back (u2 _ _ (u1 _ _ w1)), ExAt.keep (fun a xs e => back (u2 _ _ (u1 _ _ e))) w2⟩
      · rw [List.mem_singleton.mp hr]
        exact ⟨.ref t1, back upd_same, t1, rfl, back (u2 _ _ upd_same)⟩
  rintro Y ⟨smY, as', eE, ek, hst'⟩
  rw [List.length_map, List.length_map, List.take_length] at ek
  have s14 := (s13.trans sN).trans smY
  refine ⟨E2, _, rfl, .inl ⟨SqL.of eE, fun t ht => ?_⟩⟩
  have v1 := same_upd (o := .tup (as'.map fun p => .ref p.1)) ht
  refine ⟨_, rfl, _, rfl, z1, fun i1 hi1 => ?_⟩
  have v2 := same_upd (o := .tup [.str src]) hi1
  refine ⟨_, rfl, z4, fun p1 hp1 => ?_⟩
  have v3 := same_upd (o := .tup [.str ah, .str "map", .ref i1, .ref t]) hp1
  refine ⟨_, rfl, st, _, 0, .str s.name, rfl, rfl, SqT.of ((s14.trans ((v1.trans v2).trans v3)) _ _ x1), rfl, _, rfl, z1, fun i2 hi2 => ?_⟩
  have v4 := same_upd (o := .tup [.str ah]) hi2
  refine ⟨_, rfl, st, _, 3, .ref t', rfl, rfl, SqT.of ((s14.trans (((v1.trans v2).trans v3).trans v4)) _ _ x1), rfl, z4, fun p2 hp2 => ?_⟩
  have v5 := same_upd (o := .tup [.str s.name, .str "fold", .ref i2, .ref t']) hp2
  refine ⟨z2, fun L hL => ?_⟩
  have v6 := same_upd (o := .lst [.ref p1, .ref p2]) hL
  refine q.2 _ rfl L [(p1, ⟨ah, [src], .map (kept.map fun c => (.col c.1, c.2, c.1))⟩), (p2, ⟨s.name, [ah], s.det⟩)] _ (s14.trans (((((v1.trans v2).trans v3).trans v4).trans v5).trans v6)) ⟨upd_same, fun p hp => ?_⟩ rfl
  rcases List.mem_cons.mp hp with rfl | hp
  · refine ⟨i1, .ref t, ((v4.trans v5).trans v6) _ _ upd_same, (((v3.trans v4).trans v5).trans v6) _ _ upd_same, t, as', rfl, ((((v2.trans v3).trans v4).trans v5).trans v6) _ _ upd_same, fun r hr => ?_, ek⟩
    obtain ⟨told, w1, w2⟩ := hst' r hr
    have vv := ((((v1.trans v2).trans v3).trans v4).trans v5).trans v6
    exact ⟨told, vv _ _ w1, ExAt.same w2 vv⟩
  · rw [List.mem_singleton.mp hp]
    have vv := s14.trans (((((v1.trans v2).trans v3).trans v4).trans v5).trans v6)
    have hw : (("fold" : Str)) = s.det.what := by rw [hd]; rfl
    refine ⟨i2, .ref t', ?_, (v5.trans v6) _ _ upd_same, ?_⟩
    · show _ = some (HO.tup [.str s.name, .str s.det.what, .ref i2, .ref t'])
      rw [← hw]
      exact v6 _ _ upd_same
    · show DetAt _ _ s.det
      rw [hd]
      exact x3.keep (same_t vv) (same_f vv)
end
end Kx

set_option maxHeartbeats 2000000
/-! zip of a list and a tuple, told in L2: on KE's zip over iterators of any kind. -/
namespace Zm
open PySem PySem.Spec PyProof.Rows L2
/-- the list at a and the tuple at b, item by item in new pairs -/
def It2 (K : PySem.W.Frag) (a b : Addr) : It :=
  ⟨fun i H => ∃ (xs ys : List V) (x y : V), SqL K H a xs ∧ SqT K H b ys ∧ xs[i]? = some x ∧ ys[i]? = some y,
    fun i H v H' => ∃ T x y, v = .ref T ∧ H T = none ∧ H' = upd H T (.tup [x, y]) ∧ (∀ xs, SqL K H a xs → xs[i]? = some x) ∧ ∀ ys, SqT K H b ys → ys[i]? = some y,
    fun i H => ∃ xs ys : List V, SqL K H a xs ∧ SqT K H b ys ∧ i ≤ xs.length ∧ i ≤ ys.length ∧ (i = xs.length ∨ i = ys.length)⟩
structure Far (n : Addr) (a b : Addr) : Prop where
  a : a < n
  b : b < n
theorem ne_lt {a b : Addr} (h : (a : Nat) < b) : a ≠ b := Nat.ne_of_lt h
theorem ne_gt {a b : Addr} (h : (b : Nat) < a) : a ≠ b := Nat.ne_of_gt h
theorem notin {c a b : Addr} (h1 : c ≠ a) (h2 : c ≠ b) : c ∉ [a, b] := fun h => by
  rcases List.mem_cons.mp h with e | h
  · exact h1 e
  · exact h2 (List.mem_singleton.mp h)
theorem Far.sep {n a b : Addr} (F : Far n a b) : ZipSep2 (n + 4) (n + 2) (n + 3) n (n + 1) [n, a] [n + 1, b] := by
  have h1 : (a : Nat) < n := F.a
  have h2 : (b : Nat) < n := F.b
  have s (k m : Nat) (h : k < m) : ((n + k : Nat) : Nat) < (n + m : Nat) := Nat.add_lt_add_left h n
  have u (k : Nat) (h : 0 < k) : (n : Nat) < (n + k : Nat) := Nat.lt_add_of_pos_right h
  exact { TIz := ne_lt (s 2 4 (by decide)), TOz := ne_lt (s 3 4 (by decide)), TITO := ne_lt (s 2 3 (by decide)), TIi1 := ne_gt (u 2 (by decide)), mem1 := List.mem_cons_self
          zf1 := notin (ne_gt (u 4 (by decide))) (ne_gt (Nat.lt_trans h1 (u 4 (by decide)))), Tf1 := notin (ne_gt (u 3 (by decide))) (ne_gt (Nat.lt_trans h1 (u 3 (by decide))))
          TIi2 := ne_gt (s 1 2 (by decide)), mem2 := List.mem_cons_self, zf2 := notin (ne_gt (s 1 4 (by decide))) (ne_gt (Nat.lt_trans h2 (u 4 (by decide))))
          Tf2 := notin (ne_gt (s 1 3 (by decide))) (ne_gt (Nat.lt_trans h2 (u 3 (by decide)))), sep1_2 := notin (ne_lt (u 1 (by decide))) (ne_gt h2), sep2_1 := notin (ne_gt (u 1 (by decide))) (ne_gt (Nat.lt_trans h1 (u 1 (by decide)))) }
abbrev cells (n : Addr) : List Addr := [n + 4, n + 2, n + 3, n, n + 1]
theorem turn2 {P : Program} {w : World} {K : PySem.W.Frag} {elts : List Expr} {kk : Nat} {tpos : Pos} {a b n : Addr} (F : Far n a b) :
    Turn P w K (.Tuple elts kk tpos) (It2 K a b) (cells n) (n + 4) (fun i h => IsZip h (n + 4) (n + 2) (n + 3) .none ∧ IsTupOf2 h (n + 2) (.ref n) (.ref (n + 1)) ∧ (∃ x y, IsTupOf2 h (n + 3) x y) ∧ h.IsListIter n a i ∧ h.IsTupleIter (n + 1) b i) where
  mem := by simp
  obj := fun i h ⟨hz, hT, ⟨x, y, hO⟩, ⟨o1, e1, _, d1⟩, ⟨o2, e2, _, d2⟩⟩ c hc => by
    have e' : c = n + 4 ∨ c = n + 2 ∨ c = n + 3 ∨ c = n ∨ c = n + 1 := by simpa using hc
    rcases e' with rfl | rfl | rfl | rfl | rfl
    · exact ⟨_, hz, fun v q => nomatch q⟩
    · exact ⟨_, hT, fun v q => nomatch q⟩
    · exact ⟨_, hO, fun v q => nomatch q⟩
    · exact ⟨_, e1, fun v q => by rw [d1] at q; cases q⟩
    · exact ⟨_, e2, fun v q => by rw [d2] at q; cases q⟩
  keep := fun i h h' ⟨hz, hT, ⟨x, y, hO⟩, h1, h2⟩ k => ⟨k _ (by simp) _ hz, k _ (by simp) _ hT, ⟨x, y, k _ (by simp) _ hO⟩, h1.at fun o q => k _ (by simp) o q, h2.at fun o q => k _ (by simp) o q⟩
  item := by
    intro X hP hw hK hc i pins s σ H E I hf ⟨hz, hT, ⟨x0, y0, hO⟩, h1, h2⟩ ⟨xs, ys, x, y, hqx, hqy, hx, hy⟩
    subst hP hw hK
    obtain ⟨its, rv, p, _⟩ := I.list hqx
    obtain ⟨its2, rv2, p2, _⟩ := I.tuple hqy
    obtain ⟨u, hu, ru⟩ := rv.get hx
    obtain ⟨u2, hu2, ru2⟩ := rv2.get hy
    have hh := I.ok.hd hc
    have S := F.sep
    have l1 : i < its.toArray.size := by
      have := (List.getElem?_eq_some_iff.mp hu).1
      simpa using this
    have l2 : i < its2.toArray.size := by
      have := (List.getElem?_eq_some_iff.mp hu2).1
      simpa using this
    refine wpAny_pyNext_zipD2_item S (Draws.list (A := X.A.in1) hh n a (Nat.ne_of_lt F.a) its.toArray) (Draws.tuple (A := X.A.in1) hh (n + 1) b (Nat.ne_of_lt (Nat.lt_succ_of_lt F.b)) its2.toArray) hz hT hO ⟨h1, p.isList⟩ ⟨h2, p2⟩ l1 l2 fun x1 x2 h' tk e1 e2 hz' hO' s1 s2 hN hsz hk => ?_
    obtain rfl : u = x1 := Option.some.inj ((show its.toArray[i]? = some u by simpa using hu).symm.trans e1)
    obtain rfl : u2 = x2 := Option.some.inj ((show its2.toArray[i]? = some u2 by simpa using hu2).symm.trans e2)
    have lt : ∀ {c o}, s.heap.get? c = some o → c < s.heap.objs.size := fun e => Heap.lt_size e
    have hzl := lt hz
    refine ⟨_, rfl, wpAny_letOwnedTupleGo_zip (s := { s with heap := h', toks := tk }) hz' fun h'' z'' sb => ?_⟩
    have hT2 : h''.get? s.heap.objs.size = some { cls := .type "tuple", data := .seq #[u, u2] } := (sb.2 _ (Nat.ne_of_gt hzl)).trans hN
    have new : ObjOk X.prog X.w (upd H s.heap.objs.size (.tup [x, y])) h'' s.heap.objs.size (.tup [x, y]) :=
      ⟨by show 2 ≤ sizeLine; decide, [u, u2], .cons ru (.cons ru2 .nil), ⟨_, hT2, rfl, _, rfl⟩⟩
    have I1 : Inv X pins σ (upd H s.heap.objs.size (.tup [x, y])) { s with heap := h'', toks := tk } :=
      I.turnedNew (t' := tk) (ch := cells n) (fun c o hb q => (sb.2 c (fun q' => hb (by simp [q']))).trans (hk c o (fun q' => hb (by simp [q'])) (fun q' => hb (by simp [q'])) (fun q' => hb (by simp [q'])) (fun q' => hb (by simp [q'])) q)) hf (Nat.le_refl _) new
    refine ⟨.ref s.heap.objs.size, _, I1, rfl, ⟨_, x, y, rfl, I.hok.fresh (Nat.le_refl _), rfl, fun l hl => by rw [I.list_inj hl hqx]; exact hx, fun l hl => by rw [I.tuple_inj hl hqy]; exact hy⟩, ⟨z'', ?_, ⟨u, u2, ?_⟩, ?_, ?_⟩, fun c hcm => ?_⟩
    · exact (sb.2 _ S.TIz).trans (hk _ _ S.TIz S.TITO S.TIi1 S.TIi2 hT)
    · exact (sb.2 _ S.TOz).trans hO'
    · exact s1.1.at fun o q => (sb.2 _ S.zi1.symm).trans q
    · exact s2.1.at fun o q => (sb.2 _ S.zi2.symm).trans q
    · have hlt : c < s.heap.objs.size := by
        have e' : c = n + 4 ∨ c = n + 2 ∨ c = n + 3 ∨ c = n ∨ c = n + 1 := by simpa using hcm
        rcases e' with rfl | rfl | rfl | rfl | rfl
        · exact hzl
        · exact lt hT
        · exact lt hO
        · obtain ⟨_, e1, _⟩ := h1; exact lt e1
        · obtain ⟨_, e2, _⟩ := h2; exact lt e2
      rw [upd_ne (Nat.ne_of_lt hlt)]
      exact (hf c hcm).1
  done := by
    intro X hP hw hK hc i pins s σ H E I hf ⟨hz, hT, ⟨x0, y0, hO⟩, h1, h2⟩ ⟨xs, ys, hqx, hqy, le1, le2, hend⟩
    subst hP hw hK
    obtain ⟨its, rv, p, _⟩ := I.list hqx
    obtain ⟨its2, rv2, p2, _⟩ := I.tuple hqy
    have hh := I.ok.hd hc
    have S := F.sep
    have q1 : its.toArray.size = xs.length := by rw [List.size_toArray, ← rv.length]
    have q2 : its2.toArray.size = ys.length := by rw [List.size_toArray, ← rv2.length]
    refine wpAny_pyNext_zipD2_end S (Draws.list (A := X.A.in1) hh n a (Nat.ne_of_lt F.a) its.toArray) (Draws.tuple (A := X.A.in1) hh (n + 1) b (Nat.ne_of_lt (Nat.lt_succ_of_lt F.b)) its2.toArray) hz hT hO ⟨h1, p.isList⟩ ⟨h2, p2⟩ (by rw [q1]; exact le1) (by rw [q2]; exact le2) (by rw [q1, q2]; exact hend) fun h' tk hk => ⟨rfl, I.turnedL (t' := tk) (ch := cells n) (fun c o hb q =>
      hk c o (fun q' => hb (by simp [q'])) (fun q' => hb (by simp [q'])) (fun q' => hb (by simp [q'])) (fun q' => hb (by simp [q'])) q) hf⟩
  self := fun A i s Q E st h => wpAny_pyIter_zip st.1 h
def iZip2 (K : PySem.W.Frag) (ta : TA) : TI := fun σ H R => ta σ H fun vs H1 => ∃ a b xs ys, vs = [.ref a, .ref b] ∧ SqL K H1 a xs ∧ SqT K H1 b ys ∧ R (It2 K a b) H1
theorem pi_zip2 {X : Cx} {e e2 : Expr} {ta : TA} {p pos tpos : Pos} {elts : List Expr} {kk : Nat} (hg : Gl X "zip") (hm : X.mg "zip" = none) (ha : PA X [e, e2] ta)
    (hs : starEach [e, e2] X.env = (false, eval e X.env) :: starEach [e2] X.env := by rfl) (hpl : (backTo pos (starEach [e2] X.env)).any (·.1) = false := by rfl) :
    PI X (.Tuple elts kk tpos) (.Call (.Name "zip" p) [e, e2] [] pos) (iZip2 X.K ta) := by
  refine ⟨fun pins s σ H R I h => ?_⟩
  refine Call_ (ld_blt I hg hm PyProof.Rows.boot_zip (PyProof.Rows.callWith_type1 (thn (ha.run pos pins s σ H _ I h) fun us s1 ⟨vs, H1, I1, r1, q1⟩ => ?_) hs hpl))
  obtain ⟨a, b, xs, ys, rfl, hqx, hqy, q⟩ := q1
  cases r1 with
  | cons r rr =>
    cases rr with
    | cons r' rr =>
      cases rr
      cases r
      cases r'
      obtain ⟨its, rv, p1, _⟩ := I1.list hqx
      obtain ⟨its2, rv2, p2, _⟩ := I1.tuple hqy
      have F : Far s1.heap.objs.size a b := ⟨p1.lt, by obtain ⟨_, e, _⟩ := id p2; exact Heap.lt_size e⟩
      refine zip_begins2 (begins_list a its.toArray) (begins_tuple b its2.toArray) p1.isList p2 fun h' hz hT hO h1 h2 hsz hk => wpAny_pyIter_zip hz ?_
      have I2 : Inv X pins σ H1 { s1 with heap := h' } := I1.kept (t' := s1.toks) hk
      refine ⟨s1.heap.objs.size + 4, cells s1.heap.objs.size, _, _, H1, rfl, I2, turn2 F, ⟨hz, hT, ⟨_, _, hO⟩, ⟨_, h1, rfl, rfl⟩, ⟨_, h2, rfl, rfl⟩⟩, fun c hcm => ?_, q⟩
      have hle : s1.heap.objs.size ≤ c := by
        have e' : c = s1.heap.objs.size + 4 ∨ c = s1.heap.objs.size + 2 ∨ c = s1.heap.objs.size + 3 ∨ c = s1.heap.objs.size ∨ c = s1.heap.objs.size + 1 := by simpa using hcm
        rcases e' with z | z | z | z | z <;> rw [z]
        · exact Nat.le_add_right _ _
        · exact Nat.le_add_right _ _
        · exact Nat.le_add_right _ _
        · exact Nat.le_refl _
        · exact Nat.le_add_right _ _
      exact I1.fpOk hle (I1.hok.fresh hle)
/-- a loop over zip of a list and a tuple of one length -/
theorem for_zip2 {K : PySem.W.Frag} {a b : Addr} {xs ys : List V} {g : TG} {tb : TS} {D : Ends} {σ : L2.St} {H : Hp} (hl : xs.length = ys.length) (Pv : Nat → L2.St → Hp → Prop) (h0 : Pv 0 σ H) (hq : ∀ i σ H, Pv i σ H → SqL K H a xs ∧ SqT K H b ys)
    (hs : ∀ (i : Nat) (x y : V) (T : Addr) (σ : L2.St) (H : Hp), xs[i]? = some x → ys[i]? = some y → Pv i σ H → H T = none → g (.ref T) σ (upd H T (.tup [x, y])) fun σ2 H2 => tb { D with nx := Pv (i + 1), ct := Pv (i + 1), bk := D.nx } σ2 H2) (hd : ∀ σ H, Pv xs.length σ H → D.nx σ H) :
    ∃ W : Nat → Nat → L2.St → Hp → Prop, (∃ m, W 0 m σ H) ∧ ∀ i m σ H, W i m σ H →
      ((It2 K a b).stop i H ∧ D.nx σ H) ∨ ((It2 K a b).go i H ∧ ∃ N : L2.St → Hp → Prop, (∀ σ' H', N σ' H' → ∃ m', m' < m ∧ W (i + 1) m' σ' H') ∧ ∀ v H', (It2 K a b).yld i H v H' → g v σ H' fun σ2 H2 => tb { D with nx := N, ct := N, bk := D.nx } σ2 H2) := by
  refine ⟨fun i m σ H => m = xs.length - i ∧ i ≤ xs.length ∧ Pv i σ H, ⟨xs.length, rfl, Nat.zero_le _, h0⟩, ?_⟩
  rintro i m σ H ⟨rfl, hi, p⟩
  obtain ⟨qx, qy⟩ := hq i σ H p
  rcases Nat.lt_or_eq_of_le hi with lt | rfl
  · refine .inr ⟨⟨xs, ys, _, _, qx, qy, List.getElem?_eq_getElem lt, List.getElem?_eq_getElem (hl ▸ lt)⟩, Pv (i + 1), fun σ' H' p' => ⟨xs.length - (i + 1), by omega, rfl, lt, p'⟩, fun v H' y => ?_⟩
    obtain ⟨T, x', y', rfl, hT, rfl, f1, f2⟩ := y
    exact hs i x' y' T σ H (f1 xs qx) (f2 ys qy) p hT
  · exact .inl ⟨⟨xs, ys, qx, qy, Nat.le_refl _, Nat.le_of_eq hl, .inl rfl⟩, hd σ H p⟩
end Zm

set_option maxHeartbeats 8000000
namespace Kx
open PySem PySem.Spec PyProof.Rows L2
abbrev s_filter_past : Stmt := topS 41
/-- the steps of a filter put below a step, by what that step is -/
def pastOf (kn : List (Str × List NC)) (ss : List Stp) (s b : Stp) (e : Ex) : Option (List Stp) := match b.det with
  | .fold ks _ => if ((usedC e).all fun y => decide (y ∈ ks.map (·.1))) = true then pastG kn ss s b e else none
  | .map ms => pastG kn ss s b (subE (meanM ms) e)
  | _ => pastG kn ss s b e
theorem pastL_snoc {ok : Str → Bool} {told : Ex} : ∀ (ns xs : List Str) (n x : Str), ns.length = xs.length → pastL ok told (ns ++ [n]) (xs ++ [x]) = if ok x = true then ((pastL ok told ns xs).1 ++ [⟨n, [x], .filter told⟩], (pastL ok told ns xs).2 ++ [n]) else ((pastL ok told ns xs).1, (pastL ok told ns xs).2 ++ [x])
  | [], [], n, x, _ => by
    by_cases c : ok x = true
    · rw [if_pos c]
      show (if ok x = true then _ else _) = _
      rw [if_pos c]
      rfl
    · rw [if_neg c]
      show (if ok x = true then _ else _) = _
      rw [if_neg c]
      rfl
  | [], _ :: _, _, _, h => by cases h
  | _ :: _, [], _, _, h => by cases h
  | m :: ns, y :: xs, n, x, h => by
    have ih := pastL_snoc (ok := ok) (told := told) ns xs n x (Nat.succ.inj h)
    show (if ok y = true then ((⟨m, [y], .filter told⟩ :: (pastL ok told (ns ++ [n]) (xs ++ [x])).1, m :: (pastL ok told (ns ++ [n]) (xs ++ [x])).2) : List Stp × List Str) else ((pastL ok told (ns ++ [n]) (xs ++ [x])).1, y :: (pastL ok told (ns ++ [n]) (xs ++ [x])).2)) = _
    rw [ih]
    by_cases d : ok y = true
    · rw [if_pos d]
      have e : pastL ok told (m :: ns) (y :: xs) = (⟨m, [y], .filter told⟩ :: (pastL ok told ns xs).1, m :: (pastL ok told ns xs).2) := if_pos d
      rw [e]
      by_cases c : ok x = true
      · rw [if_pos c, if_pos c]
        rfl
      · rw [if_neg c, if_neg c]
        rfl
    · rw [if_neg d]
      have e : pastL ok told (m :: ns) (y :: xs) = ((pastL ok told ns xs).1, y :: (pastL ok told ns xs).2) := if_neg d
      rw [e]
      by_cases c : ok x = true
      · rw [if_pos c, if_pos c]
        rfl
      · rw [if_neg c, if_neg c]
        rfl
theorem kfN_is {cs : List NC} {x : Str} : (kfN cs x).isSome = decide (x ∈ cs.map (·.1)) := by
  by_cases h : x ∈ cs.map (·.1)
  · rw [decide_eq_true h]
    unfold kfN
    rw [Option.isSome_map, List.find?_isSome]
    obtain ⟨c, hc, e⟩ := List.mem_map.mp h
    exact ⟨c, hc, decide_eq_true e⟩
  · rw [decide_eq_false h, kfN_none h]
    rfl
/-- all but two new lists is kept -/
def But2 (M I : Addr) (H G : Hp) : Prop := ∀ a o, a ≠ M → a ≠ I → H a = some o → G a = some o
theorem StpAt.lists {H G : Hp} {a : Addr} {s : Stp} (h : StpAt H a s) (k : ∀ (b : Addr) (o : HO), H b = some o → (∀ xs, o ≠ .lst xs) → G b = some o) : StpAt G a s := h.keep (fun b xs e => k b _ e fun ys z => by cases z) fun b xs ⟨o, dn, e⟩ => ⟨o, dn, k b _ e fun ys z => by cases z⟩
section
variable {P : Program} {w : World} {K : PySem.W.Frag} {mg : Str → Option Value} {base : Heap}
def spPast : Sp := fun vs H Q _ => ∃ (job st bl : Addr) (as : List (Addr × Stp)) (an : Str) (kn : List (Str × List NC)) (s b : Stp) (e : Ex), vs = [.ref job, .ref st, .ref bl] ∧ JobOn H job as an kn ∧ StpAt H st s ∧ StpAt H bl b ∧ s ∈ as.map (·.2) ∧ b ∈ as.map (·.2) ∧ s.det = .filter e ∧ (∀ ms, b.det = .map ms → (ms.map (·.2.2)).Nodup ∧ ∀ x ∈ usedC e, ∃ m ∈ ms, m.2.2 = x) ∧ ResL H Q (pastOf kn (as.map (·.2)) s b e)
abbrev N_past : List Str := ["job", "step", "below", "told", "used", "columns", "names", "made", "inputs", "name", "source"]
theorem sc_past : FnScope N_past ["job", "step", "below"] (defScope s_filter_past) := ⟨rfl, rfl, rfl, by decide +kernel, rfl, by decide +kernel, by decide +kernel⟩
theorem ok_past {f C : Addr} {fd : FuncData} {k kc ku kw : Nat} (F : Fun K "filter_past" "filter_past" s_filter_past f fd) (hk1 : 1 ≤ k) (hkc : kc ≤ k) (hku : ku ≤ k) (hkw : kw ≤ k) (m_len : mg "len" = none) (m_tuple : mg "tuple" = none) (m_dict : mg "dict" = none) (m_zip : mg "zip" = none) (G_cols : ReadyX P w K mg base kc "columns_of" ["job"] (spColsJ K C)) (G_used : Ready P w K mg base ku "columns_used" ["told"] (spUsed 90)) (G_free : Ready P w K mg base 1 "free_names" ["job", "many"] spFree) (G_hasall : Ready P w K mg base 1 "has_all" ["names", "places"] (spHasAll K)) (G_means : Ready P w K mg base 1 "map_meanings" ["details"] (spMeans K)) (G_with : Ready P w K mg base kw "with_columns" ["told", "meanings"] (spWith 40)) : FnOk P w K mg base CX0 (k + 1) f fd ["job", "step", "below"] spPast := by
  refine F.ok sc_past (fun vs H Q E h => ?_) (fun cdv A outer s0 H vs Q E hr h => ?_)
  · obtain ⟨job, st, bl, as, an, kn, s, b, e, rfl, _⟩ := h
    rfl
  obtain ⟨job, st, bl, as, an, kn, s, b, e, rfl, J, hst, hbl, hs, hb, hd, hmap, q⟩ := h
  have nd := sc_past.nd
  have hrk : Room k _ := hr
  have hrc : Room kc _ := hrk.mono hkc
  have hru : Room ku _ := hrk.mono hku
  have hrw : Room kw _ := hrk.mono hkw
  have hr1 : Room 1 _ := hrk.mono hk1
  have hu64 : _ + 64 < cLine := hr.units
  have hu1 : _ + 1 < cLine := Nat.lt_of_le_of_lt (Nat.add_le_add_left (by decide : 1 ≤ 64) _) hu64
  refine ⟨_, pss_cons (ps_set (i := 3) nd rfl (.inl rfl) (pe_ix ix_tup (pv 1) pe_int (fun _ _ => rfl)))
      (pss_cons (ps_if (PW.pt (pw_and (pt_cmpR op_eq (pe_ix ix_tup (pv 2) pe_int (fun _ _ => rfl)) pe_str (nomark _)) (pw_and1 (pt_not (pt_val (pe_fn G_hasall hr1 (pa_cons (pe_fn G_used hru (pa_cons (pv 3) pa_nil)) (pa_cons (pe_ix ix_tup (pe_ix ix_tup (pv 2) pe_int (fun _ _ => rfl)) pe_int (fun _ _ => rfl)) pa_nil)))))))) (pss_one (ps_ret pe_non)) (pss_nil))
      (pss_cons (ps_if (pt_cmpR op_eq (pe_ix ix_tup (pv 2) pe_int (fun _ _ => rfl)) pe_str (nomark _)) (pss_one (ps_set (i := 3) nd rfl (.inl rfl) (pe_fn G_with hrw (pa_cons (pv 3) (pa_cons (pe_fn G_means hr1 (pa_cons (pe_ix ix_tup (pv 2) pe_int (fun _ _ => rfl)) pa_nil)) pa_nil))))) (pss_nil))
      (pss_cons (ps_set (i := 4) nd rfl (.inl rfl) (pe_fn G_used hru (pa_cons (pv 3) pa_nil)))
      (pss_cons (ps_set (i := 5) nd rfl (.inl rfl) (pe_fnN G_cols hrc (pa_cons (pv 0) pa_nil)))
      (pss_cons (ps_set (i := 6) nd rfl (.inl rfl) (pe_fn G_free hr1 (pa_cons (pv 0) (pa_cons (pe_callB call_len_seq (by rfl) m_len PySem.boot_len (pa_cons (pe_ix ix_tup (pv 2) pe_int (fun _ _ => rfl)) pa_nil)) pa_nil))))
      (pss_cons (ps_set (i := 7) nd rfl (.inl rfl) (pe_lst pa_nil))
      (pss_cons (ps_set (i := 8) nd rfl (.inl rfl) (pe_lst pa_nil))
      (pss_cons (ps_for PassesOwn.never rfl (Zm.pi_zip2 rfl m_zip (pa_cons (pv 6) (pa_cons (pe_ix ix_tup (pv 2) pe_int (fun _ _ => rfl)) pa_nil))) (pg_tup rfl (pgs_cons (pg_name (i := 9) nd rfl (.inl rfl)) (pgs_cons (pg_name (i := 10) nd rfl (.inl rfl)) pgs_nil))) (pss_one (ps_if (pt_val (pe_fn G_hasall hr1 (pa_cons (pv 4) (pa_cons (pe_callTy (cr_dictT rfl) (by rfl) m_dict PyProof.Rows.boot_dict (pa_cons (pe_dget hu1 (pv 5) (pv 10) (fun _ _ => rfl)) pa_nil)) pa_nil)))) (pss_cons (ps_expr (pe_bm PySem.F.plainAttrs_list PySem.F.slot_list_append PySem.F.type_list_append mt_append (pv 7) (pa_cons (pe_tup (pa_cons (pv 9) (pa_cons pe_str (pa_cons (pe_tup (pa_cons (pv 10) pa_nil)) (pa_cons (pv 3) pa_nil))))) pa_nil)))
      (pss_one (ps_expr (pe_bm PySem.F.plainAttrs_list PySem.F.slot_list_append PySem.F.type_list_append mt_append (pv 8) (pa_cons (pv 9) pa_nil))))) (pss_one (ps_expr (pe_bm PySem.F.plainAttrs_list PySem.F.slot_list_append PySem.F.type_list_append mt_append (pv 8) (pa_cons (pv 10) pa_nil)))))))
      (pss_cons (ps_if (pt_cmpR op_eq (pe_callB call_len_seq (by rfl) m_len PySem.boot_len (pa_cons (pv 7) pa_nil)) pe_int (nomark _)) (pss_one (ps_ret pe_non)) (pss_nil))
      (pss_cons (ps_expr (pe_bm PySem.F.plainAttrs_list PySem.F.slot_list_append PySem.F.type_list_append mt_append (pv 7) (pa_cons (pe_tup (pa_cons (pe_ix ix_tup (pv 1) pe_int (fun _ _ => rfl)) (pa_cons (pe_ix ix_tup (pv 2) pe_int (fun _ _ => rfl)) (pa_cons (pe_callTy call_tuple_of (by rfl) m_tuple PyProof.Rows.boot_tuple (pa_cons (pv 8) pa_nil)) (pa_cons (pe_ix ix_tup (pv 2) pe_int (fun _ _ => rfl)) pa_nil))))) pa_nil)))
      (pss_one (ps_ret (pv 7))))))))))))), ?_⟩
  have z0 : 0 ≤ sizeLine := by decide
  have z1 : 1 ≤ sizeLine := by decide
  have z4 : 4 ≤ sizeLine := by decide
  have js : StpJ Bs s := by
    obtain ⟨p, hp, rfl⟩ := List.mem_map.mp hs
    exact J.all p hp
  have jb : StpJ Bs b := by
    obtain ⟨p, hp, rfl⟩ := List.mem_map.mp hb
    exact J.all p hp
  have ge : G Bs e := by
    have := js.det
    rw [hd] at this
    exact this
  obtain ⟨sinp, sdv, x1, x2, x3⟩ := id hst
  rw [hd] at x3
  obtain ⟨binp, bdv, b1, b2, b3⟩ := id hbl
  have hxe : ExAt H sdv e := x3
  refine ⟨_, rfl, st, _, 3, sdv, rfl, rfl, SqT.of x1, rfl, ?_⟩
  refine ⟨_, rfl, bl, _, 1, .str b.det.what, rfl, rfl, SqT.of b1, rfl, rfl, _, rfl, ?_⟩
  -- the three ways to the rest
  have ways : (∃ ks fs, b.det = .fold ks fs) ∨ (∃ ms, b.det = .map ms) ∨ (b.det.what ≠ "fold" ∧ b.det.what ≠ "map" ∧ pastOf kn (as.map (·.2)) s b e = pastG kn (as.map (·.2)) s b e) := by
    unfold pastOf
    cases hbd : b.det with
    | fold ks fs => exact .inl ⟨ks, fs, rfl⟩
    | map ms => exact .inr (.inl ⟨ms, rfl⟩)
    | _ => exact .inr (.inr ⟨fun z => by dsimp only [Det.what] at z; exact absurd z (by decide +kernel), fun z => by dsimp only [Det.what] at z; exact absurd z (by decide +kernel), rfl⟩)
  rcases ways with ⟨ks, fs, hbd⟩ | ⟨ms, hbd⟩ | ⟨nf, nm, hq⟩
  · have q0 := q
    unfold pastOf at q
    rw [hbd] at q
    dsimp only at q
    rw [hbd] at b3
    obtain ⟨dt, kt, ft, asf, rfl, y1, y2, y3, y4, y5⟩ := b3
    refine ifT' (decide_eq_true (by rw [hbd]; rfl)) ?_
    refine ⟨_, rfl, sdv, e, rfl, hxe, Nat.le_trans ge.b.2 (by decide), Nat.le_trans ge.b.1 (by decide), fun U0 H1 sm hU0 eU0 => ?_⟩
    have lu := used_len e
    refine ⟨_, rfl, bl, _, 3, .ref dt, rfl, rfl, SqT.of (sm _ _ b1), rfl, dt, _, 0, .ref kt, rfl, rfl, SqT.of (sm _ _ y1), rfl, U0, kt, usedC e, ks.map (·.1), rfl, SqL.of eU0, by have := ge.b.1; omega, .inl (by rw [List.map_map]; exact SqT.of (sm _ _ y2)), fun H2 s2 => ⟨_, rfl, ?_⟩⟩
    by_cases ca : ((usedC e).all fun y => decide (y ∈ ks.map (·.1))) = true
    · rw [if_pos ca] at q
      rw [ca]
      refine ifF' rfl ?_
      refine ⟨_, rfl, bl, _, 1, .str b.det.what, rfl, rfl, SqT.of ((sm.trans s2) _ _ b1), rfl, rfl, _, rfl, ?_⟩
      refine ifF' (decide_eq_false (by rw [hbd]; show ¬ V.str "fold" = V.str "map"; exact str_ne (by decide +kernel))) ?_
      have sm := sm.trans s2
      have hx := hxe.same sm
      have g' : G Bb e := ge.mono fun _ => Bs.big
      obtain ⟨tv, etv⟩ : ∃ tv, tv = sdv := ⟨_, rfl⟩
      obtain ⟨e', ee'⟩ : ∃ e', e' = e := ⟨_, rfl⟩
      rw [← etv, ← ee'] at hx
      rw [← ee'] at g' q
      rw [← etv]
      generalize hH1 : H2 = H1 at sm hx ⊢
      clear hH1 ca lu
      refine ⟨_, rfl, tv, e', rfl, hx, g'.b.2, g'.b.1, fun U H2 s2 _ eU => ?_⟩
      have sm2 := sm.trans s2
      have lu := used_len e'
      refine ⟨_, rfl, ?_⟩
      unfold tNil
      dsimp only [List.append_nil]
      apply cols_call (K := K) (C := C) (J.at_.same sm2) J.all (by have := J.len; omega) J.run J.ans
      intro T tg H3 s3 eT eab hcf
      have J3 := J.same (sm2.trans s3)
      have lb : (b.ins.map V.str).length ≤ 2 := by
        rw [List.length_map, jb.ar]
        exact arity2 _
      refine ⟨_, rfl, _, rfl, bl, _, 2, .ref binp, rfl, rfl, SqT.of ((sm2.trans s3) _ _ b1), rfl, binp, _, rfl, .inr (SqT.of ((sm2.trans s3) _ _ b2)), job, as, an, (b.ins.map V.str).length, rfl, J3.at_, by have := J.len; omega, fun N H4 s4 _ eN => ?_⟩
      rw [List.length_map] at eN lb
      have fl := free_len (taken := namesS (as.map (·.2))) (many := b.ins.length) (by rw [List.length_map, List.length_map]; have := J.len; omega)
      have s04 := (sm2.trans s3).trans s4
      have hxR := hx.same (s2.trans (s3.trans s4))
      have eU4 := s4 _ _ (s3 _ _ eU)
      have eT4 := s4 _ _ eT
      have hcf4 : ∀ e ∈ tg, CF H4 e.2.1 e.2.2 := fun e he => (hcf e he).keep (same_t s4) (same_f s4)
      have hx := hxR
      clear hxR eU eT hcf s2 s3 J3 sm sm2
      clear s4
      refine ⟨z0, fun M hM => ?_⟩
      refine ⟨z0, fun I hI => ?_⟩
      have nIM : I ≠ M := fun z => by rw [z, upd_same] at hI; cases hI
      have hI4 : H4 I = none := by rw [upd_ne nIM] at hI; exact hI
      have k46 : ∀ (a : Addr) (o : HO), H4 a = some o → (upd (upd H4 M (.lst [])) I (.lst [])) a = some o := fun a o e => same_upd hI _ _ (same_upd hM _ _ e)
      have e6M : (upd (upd H4 M (.lst [])) I (.lst [])) M = some (.lst []) := by rw [upd_ne nIM.symm]; exact upd_same
      have e6I : (upd (upd H4 M (.lst [])) I (.lst [])) I = some (.lst []) := upd_same
      generalize upd (upd H4 M (.lst [])) I (.lst []) = H6 at k46 e6M e6I ⊢
      have keep : ∀ {G : Hp}, But2 M I H6 G → Same H4 G := fun b2 a o e => b2 a o (ne_of_none e hM) (ne_of_none e hI4) (k46 a o e)
      have keep0 : ∀ {G : Hp}, But2 M I H6 G → Same H G := fun b2 => s04.trans (keep b2)
      generalize hns : freeF (namesS (as.map (·.2))) b.ins.length = ns at eN fl
      refine ⟨_, rfl, _, rfl, bl, _, 2, .ref binp, rfl, rfl, SqT.of (k46 _ _ (s04 _ _ b1)), rfl, N, binp, _, _, rfl, SqL.of (k46 _ _ eN), SqT.of (k46 _ _ (s04 _ _ b2)), ?_⟩
      have nodT := J.nd
      refine Zm.for_zip2 (K := K) (a := N) (b := binp) (xs := ns.map V.str) (ys := b.ins.map V.str) (by rw [List.length_map, List.length_map, fl]) (fun i σ G => ∃ y9 y10, ∃ mk : List (Addr × Stp), σ = [some (.ref job), some (.ref st), some (.ref bl), some tv, some (.ref U), some (.ref T), some (.ref N), some (.ref M), some (.ref I), y9, y10] ∧ But2 M I H6 G ∧ G M = some (.lst (mk.map fun p => .ref p.1)) ∧ mk.map (·.2) = (pastL (hasIn kn e') e' (ns.take i) (b.ins.take i)).1 ∧ (∀ p ∈ mk, StpAt G p.1 p.2) ∧ G I = some (.lst ((pastL (hasIn kn e') e' (ns.take i) (b.ins.take i)).2.map V.str)))
        ⟨_, _, [], rfl, fun a o _ _ e => e, e6M, rfl, (fun p hp => by cases hp), e6I⟩ (fun i σ G ⟨_, _, _, _, b2', _⟩ => ⟨SqL.of (keep b2' _ _ eN), SqT.of (keep0 b2' _ _ b2)⟩) ?_ ?_
      · rintro i x y Z σ G hxi hyi ⟨y9, y10, mk, rfl, bb, eM, emk, hmk, eI⟩ hZ
        rw [List.getElem?_map] at hxi hyi
        obtain ⟨n, hn, rfl⟩ := Option.map_eq_some_iff.mp hxi
        obtain ⟨src, hsrc, rfl⟩ := Option.map_eq_some_iff.mp hyi
        have hi : i < b.ins.length := (List.getElem?_eq_some_iff.mp hsrc).1
        have tkn : ns.take (i + 1) = ns.take i ++ [n] := by rw [List.take_add_one, hn]; rfl
        have tks : b.ins.take (i + 1) = b.ins.take i ++ [src] := by rw [List.take_add_one, hsrc]; rfl
        have lti : (ns.take i).length = (b.ins.take i).length := by rw [List.length_take, List.length_take, fl]
        have snoc := pastL_snoc (ok := hasIn kn e') (told := e') _ _ n src lti
        obtain ⟨f1, f2, _, _⟩ := pastL_facts (ok := hasIn kn e') (told := e') _ _ lti
        rw [← tkn, ← tks] at snoc
        generalize pastL (hasIn kn e') e' (ns.take i) (b.ins.take i) = PL at emk eI snoc f1 f2
        generalize pastL (hasIn kn e') e' (ns.take (i + 1)) (b.ins.take (i + 1)) = PL' at snoc ⊢
        rw [List.length_take] at f1 f2
        have lmk : mk.length ≤ 2 := by
          have := congrArg List.length emk
          rw [List.length_map] at this
          omega
        have u0 := same_upd (o := .tup [.str n, .str src]) hZ
        have sG := (keep bb).trans u0
        have hk := J.ins hb (List.mem_of_getElem? hsrc)
        obtain ⟨e0, he0, t1, t2, t3⟩ := tg_val eab nodT hk
        have eT' : DGet (upd G Z (.tup [.str n, .str src])) T (.str src) (some (.ref e0.2.1)) := t3 ▸ DGet.k (k := .inr src) (sG _ _ eT4)
        have hcC := (hcf4 e0 he0).keep (same_t sG) (same_f sG)
        rw [t2] at hcC
        obtain ⟨asc, c1, c2, c3⟩ := hcC
        refine ⟨Z, _, rfl, SqT.of upd_same, rfl, _, _, rfl, _, _, rfl, rfl, ?_⟩
        refine ⟨_, rfl, _, rfl, _, rfl, T, _, rfl, eT', ?_⟩
        refine ⟨e0.2.1, asc.map (·.1), asc.map fun c => (c.2.1, V.str (kW c.2.2)), rfl, by rw [List.map_map]; exact c1, paired_cols c2, fun kd hkd => ?_⟩
        have nodC : ((known kn src).map (·.1)).Nodup := (run_named (k := []) J.run (fun t ht => by
            obtain ⟨p, hp, rfl⟩ := List.mem_map.mp ht
            exact ⟨(J.all p hp).nm, (J.all p hp).ar⟩) (fun x h => by cases h) src hk).good.nod
        have hK := kd_new (H := upd G Z (.tup [.str n, .str src])) (kd := kd) c3 nodC
        have u1 := same_upd (o := .dK (mergeK [] ((asc.map fun c => (c.2.1, V.str (kW c.2.2))).map fun kv => ((.inr kv.1 : L2.Key), kv.2)))) hkd
        obtain ⟨kvs, d1, d2⟩ := hK
        refine ⟨U, kd, usedC e', (known kn src).map (·.1), rfl, SqL.of ((sG.trans u1) _ _ eU4), by have := g'.b.1; omega, .inr ⟨kvs, d1, fun x => by rw [d2, Option.isSome_map]; exact kfN_is⟩, fun G2 s7 => ⟨_, rfl, ?_⟩⟩
        have sA := (u0.trans u1).trans s7
        generalize (upd (upd G Z (.tup [.str n, .str src])) kd (.dK (mergeK [] ((asc.map fun c => (c.2.1, V.str (kW c.2.2))).map fun kv => ((.inr kv.1 : L2.Key), kv.2))))) = GX at s7 d1 u1
        clear s7 d1 u1 hkd
        have eM2 := sA _ _ eM
        have eI2 := sA _ _ eI
        have sH := (keep bb).trans sA
        show if hasIn kn e' src = true then _ else _
        by_cases ch : hasIn kn e' src = true
        · rw [if_pos ch] at snoc
          refine ifT' ch ?_
          refine ⟨_, rfl, .inl ⟨rfl, _, SqL.of eM2⟩, _, rfl, _, rfl, z1, fun i1 hi1 => ?_⟩
          have v1 := same_upd (o := .tup [.str src]) hi1
          refine ⟨_, rfl, z4, fun t ht => ?_⟩
          have v2 := same_upd (o := .tup [.str n, .str "filter", .ref i1, tv]) ht
          have eM4 := v2 _ _ (v1 _ _ eM2)
          have eI4 := v2 _ _ (v1 _ _ eI2)
          refine ⟨M, _, _, rfl, rfl, eM4, Nat.lt_of_le_of_lt (show _ ≤ 2 by rw [List.length_map]; exact lmk) (by decide), ?_⟩
          have eI5 : (upd (upd (upd G2 i1 (.tup [.str src])) t (.tup [.str n, .str "filter", .ref i1, tv])) M (.lst (mk.map (fun p => V.ref p.1) ++ [.ref t]))) I = some (.lst (PL.2.map V.str)) := by
            rw [upd_ne nIM]
            exact eI4
          refine ⟨_, rfl, .inl ⟨rfl, _, SqL.of eI5⟩, _, rfl, I, _, _, rfl, rfl, eI5, Nat.lt_of_le_of_lt (show _ ≤ 2 by rw [List.length_map]; omega) (by decide), ?_⟩
          have back : ∀ {a : Addr} {q : Stp}, StpAt (upd (upd G2 i1 (.tup [.str src])) t (.tup [.str n, .str "filter", .ref i1, tv])) a q → StpAt (upd (upd (upd (upd G2 i1 (.tup [.str src])) t (.tup [.str n, .str "filter", .ref i1, tv])) M (.lst (mk.map (fun p => V.ref p.1) ++ [.ref t]))) I (.lst (PL.2.map V.str ++ [.str n]))) a q := fun h => h.lists fun c o hc nl => by
            rw [upd_ne (fun z => by rw [z, eI4] at hc; exact nl _ (Option.some.inj hc).symm), upd_ne (fun z => by rw [z, eM4] at hc; exact nl _ (Option.some.inj hc).symm)]
            exact hc
          refine ⟨_, _, mk ++ [(t, ⟨n, [src], .filter e'⟩)], rfl, fun a o h1 h2 ex => ?_, ?_, ?_, fun r hr => ?_, ?_⟩
          · rw [upd_ne h2, upd_ne h1]
            exact v2 _ _ (v1 _ _ (sA _ _ (bb a o h1 h2 ex)))
          · rw [upd_ne nIM.symm, upd_same, List.map_append]
            rfl
          · rw [List.map_append, emk, snoc]
            rfl
          · rcases List.mem_append.mp hr with hr | hr
            · exact back ((hmk r hr).same ((sA.trans v1).trans v2))
            · rw [List.mem_singleton.mp hr]
              exact back ⟨i1, tv, upd_same, v2 _ _ upd_same, hx.same ((sH.trans v1).trans v2)⟩
          · rw [upd_same, snoc, List.map_append]
            rfl
        · rw [if_neg ch] at snoc
          refine ifF' (Bool.eq_false_iff.mpr ch) ?_
          refine ⟨_, rfl, .inl ⟨rfl, _, SqL.of eI2⟩, _, rfl, I, _, _, rfl, rfl, eI2, Nat.lt_of_le_of_lt (show _ ≤ 2 by rw [List.length_map]; omega) (by decide), ?_⟩
          have back : ∀ {a : Addr} {q : Stp}, StpAt G2 a q → StpAt (upd G2 I (.lst (PL.2.map V.str ++ [.str src]))) a q := fun h => h.lists fun c o hc nl => by
            rw [upd_ne (fun z => by rw [z, eI2] at hc; exact nl _ (Option.some.inj hc).symm)]
            exact hc
          refine ⟨_, _, mk, rfl, fun a o h1 h2 ex => ?_, ?_, ?_, fun r hr => back ((hmk r hr).same sA), ?_⟩
          · rw [upd_ne h2]
            exact sA _ _ (bb a o h1 h2 ex)
          · rw [upd_ne nIM.symm]
            exact eM2
          · rw [emk, snoc]
          · rw [upd_same, snoc, List.map_append]
            rfl
      rintro σ G ⟨y9, y10, mk, rfl, bb, eM, emk, hmk, eI⟩
      have sG := keep0 bb
      rw [List.length_map, fl, List.take_length, ← fl, List.take_length, ← hns] at emk eI
      obtain ⟨bi, bd, w1, w2, w3⟩ := hbl.same sG
      obtain ⟨si, sd, w4, _, _⟩ := hst.same sG
      unfold pastG pastP at q
      obtain ⟨f1, f2, _, _⟩ := pastL_facts (ok := hasIn kn e') (told := e') (freeF (namesS (as.map (·.2))) b.ins.length) b.ins (by rw [hns]; exact fl)
      generalize pastL (hasIn kn e') e' (freeF (namesS (as.map (·.2))) b.ins.length) b.ins = PL at q emk eI f1 f2
      have lmk : mk.length = PL.1.length := by rw [← emk, List.length_map]
      refine ⟨_, rfl, M, _, rfl, .inl (SqL.of eM), rfl, _, rfl, ?_⟩
      rw [List.length_map]
      by_cases c0 : PL.1.length = 0
      · rw [if_pos c0] at q
        exact ifT' (decide_eq_true (by rw [lmk, c0]; rfl)) (q.1 rfl G sG)
      rw [if_neg c0] at q
      refine ifF' (decide_eq_false fun z => c0 (by injection z with z; omega)) ?_
      refine ⟨_, rfl, .inl ⟨rfl, _, SqL.of eM⟩, _, rfl, st, _, 0, .str s.name, rfl, rfl, SqT.of w4, rfl, _, rfl, bl, _, 1, .str b.det.what, rfl, rfl, SqT.of w1, rfl, _, rfl, I, _, rfl, .inl ⟨SqL.of eI, fun t ht => ?_⟩⟩
      have v1 := same_upd (o := .tup (PL.2.map V.str)) ht
      refine ⟨_, rfl, bl, _, 3, bd, rfl, rfl, SqT.of (v1 _ _ w1), rfl, z4, fun u hu => ?_⟩
      have v2 := same_upd (o := .tup [.str s.name, .str b.det.what, .ref t, bd]) hu
      have eM2 := v2 _ _ (v1 _ _ eM)
      refine ⟨M, _, _, rfl, rfl, eM2, Nat.lt_of_le_of_lt (show _ ≤ 2 by rw [List.length_map]; omega) (by decide), ?_⟩
      have back : ∀ {a : Addr} {q : Stp}, StpAt (upd (upd G t (.tup (PL.2.map V.str))) u (.tup [.str s.name, .str b.det.what, .ref t, bd])) a q → StpAt (upd (upd (upd G t (.tup (PL.2.map V.str))) u (.tup [.str s.name, .str b.det.what, .ref t, bd])) M (.lst (mk.map (fun p => V.ref p.1) ++ [.ref u]))) a q := fun h => h.lists fun c o hc nl => by
        rw [upd_ne (fun z => by rw [z, eM2] at hc; exact nl _ (Option.some.inj hc).symm)]
        exact hc
      refine ⟨_, rfl, q.2 _ rfl M (mk ++ [(u, ⟨s.name, PL.2, b.det⟩)]) _ (fun a o ex => ?_) ⟨?_, fun r hr => ?_⟩ ?_⟩
      · rw [upd_ne (ne_of_none (s04 _ _ ex) hM)]
        exact v2 _ _ (v1 _ _ (sG _ _ ex))
      · rw [upd_same, List.map_append]
        rfl
      · rcases List.mem_append.mp hr with hr | hr
        · exact back ((hmk r hr).same (v1.trans v2))
        · rw [List.mem_singleton.mp hr]
          exact back ⟨t, bd, upd_same, v2 _ _ upd_same, w3.keep (same_t (v1.trans v2)) (same_f (v1.trans v2))⟩
      · rw [List.map_append, emk]
        rfl

    · have ca' := Bool.eq_false_iff.mpr ca
      rw [if_neg ca] at q
      rw [ca']
      exact ifT' rfl (q.1 rfl H2 (sm.trans s2))
  · obtain ⟨hnd, hall⟩ := hmap ms hbd
    unfold pastOf at q
    rw [hbd] at q
    dsimp only at q
    rw [hbd] at b3
    have jd := jb.det
    rw [hbd] at jd
    obtain ⟨bt, asb, rfl, y1, y2, y3⟩ := id b3
    refine ifF' (decide_eq_false (by rw [hbd]; show ¬ V.str "map" = V.str "fold"; exact str_ne (by decide +kernel))) ?_
    refine ⟨_, rfl, bl, _, 1, .str b.det.what, rfl, rfl, SqT.of b1, rfl, rfl, _, rfl, ?_⟩
    refine ifT' (decide_eq_true (by rw [hbd]; rfl)) ?_
    refine ⟨_, rfl, _, rfl, bl, _, 3, .ref bt, rfl, rfl, SqT.of b1, rfl, bt, ms, rfl, b3, hnd, jd.1, fun MD H1 s1 _ hM => ?_⟩
    obtain ⟨kvs, k1, k2⟩ := hM
    refine ⟨sdv, e, MD, kvs, meanM ms, rfl, hxe.same s1, ge.b.2, k1, fun x hx => k2 x (hall x hx), fun u H2 s2 hu => ?_⟩
    have sm := s1.trans s2
    have g' := g_sub (fun m hm => (jd.2 m hm).1) ge
    have hx := hu
    obtain ⟨tv, etv⟩ : ∃ tv, tv = u := ⟨_, rfl⟩
    rw [← etv] at hx ⊢
    generalize subE (meanM ms) e = e' at g' hx q
    clear k2 k1 hu
    generalize hH1 : H2 = H1 at sm hx ⊢
    clear hH1
    refine ⟨_, rfl, tv, e', rfl, hx, g'.b.2, g'.b.1, fun U H2 s2 _ eU => ?_⟩
    have sm2 := sm.trans s2
    have lu := used_len e'
    refine ⟨_, rfl, ?_⟩
    unfold tNil
    dsimp only [List.append_nil]
    apply cols_call (K := K) (C := C) (J.at_.same sm2) J.all (by have := J.len; omega) J.run J.ans
    intro T tg H3 s3 eT eab hcf
    have J3 := J.same (sm2.trans s3)
    have lb : (b.ins.map V.str).length ≤ 2 := by
      rw [List.length_map, jb.ar]
      exact arity2 _
    refine ⟨_, rfl, _, rfl, bl, _, 2, .ref binp, rfl, rfl, SqT.of ((sm2.trans s3) _ _ b1), rfl, binp, _, rfl, .inr (SqT.of ((sm2.trans s3) _ _ b2)), job, as, an, (b.ins.map V.str).length, rfl, J3.at_, by have := J.len; omega, fun N H4 s4 _ eN => ?_⟩
    rw [List.length_map] at eN lb
    have fl := free_len (taken := namesS (as.map (·.2))) (many := b.ins.length) (by rw [List.length_map, List.length_map]; have := J.len; omega)
    have s04 := (sm2.trans s3).trans s4
    have hxR := hx.same (s2.trans (s3.trans s4))
    have eU4 := s4 _ _ (s3 _ _ eU)
    have eT4 := s4 _ _ eT
    have hcf4 : ∀ e ∈ tg, CF H4 e.2.1 e.2.2 := fun e he => (hcf e he).keep (same_t s4) (same_f s4)
    have hx := hxR
    clear hxR eU eT hcf s2 s3 J3 sm sm2
    clear s4
    refine ⟨z0, fun M hM => ?_⟩
    refine ⟨z0, fun I hI => ?_⟩
    have nIM : I ≠ M := fun z => by rw [z, upd_same] at hI; cases hI
    have hI4 : H4 I = none := by rw [upd_ne nIM] at hI; exact hI
    have k46 : ∀ (a : Addr) (o : HO), H4 a = some o → (upd (upd H4 M (.lst [])) I (.lst [])) a = some o := fun a o e => same_upd hI _ _ (same_upd hM _ _ e)
    have e6M : (upd (upd H4 M (.lst [])) I (.lst [])) M = some (.lst []) := by rw [upd_ne nIM.symm]; exact upd_same
    have e6I : (upd (upd H4 M (.lst [])) I (.lst [])) I = some (.lst []) := upd_same
    generalize upd (upd H4 M (.lst [])) I (.lst []) = H6 at k46 e6M e6I ⊢
    have keep : ∀ {G : Hp}, But2 M I H6 G → Same H4 G := fun b2 a o e => b2 a o (ne_of_none e hM) (ne_of_none e hI4) (k46 a o e)
    have keep0 : ∀ {G : Hp}, But2 M I H6 G → Same H G := fun b2 => s04.trans (keep b2)
    generalize hns : freeF (namesS (as.map (·.2))) b.ins.length = ns at eN fl
    refine ⟨_, rfl, _, rfl, bl, _, 2, .ref binp, rfl, rfl, SqT.of (k46 _ _ (s04 _ _ b1)), rfl, N, binp, _, _, rfl, SqL.of (k46 _ _ eN), SqT.of (k46 _ _ (s04 _ _ b2)), ?_⟩
    have nodT := J.nd
    refine Zm.for_zip2 (K := K) (a := N) (b := binp) (xs := ns.map V.str) (ys := b.ins.map V.str) (by rw [List.length_map, List.length_map, fl]) (fun i σ G => ∃ y9 y10, ∃ mk : List (Addr × Stp), σ = [some (.ref job), some (.ref st), some (.ref bl), some tv, some (.ref U), some (.ref T), some (.ref N), some (.ref M), some (.ref I), y9, y10] ∧ But2 M I H6 G ∧ G M = some (.lst (mk.map fun p => .ref p.1)) ∧ mk.map (·.2) = (pastL (hasIn kn e') e' (ns.take i) (b.ins.take i)).1 ∧ (∀ p ∈ mk, StpAt G p.1 p.2) ∧ G I = some (.lst ((pastL (hasIn kn e') e' (ns.take i) (b.ins.take i)).2.map V.str)))
      ⟨_, _, [], rfl, fun a o _ _ e => e, e6M, rfl, (fun p hp => by cases hp), e6I⟩ (fun i σ G ⟨_, _, _, _, b2', _⟩ => ⟨SqL.of (keep b2' _ _ eN), SqT.of (keep0 b2' _ _ b2)⟩) ?_ ?_
    · rintro i x y Z σ G hxi hyi ⟨y9, y10, mk, rfl, bb, eM, emk, hmk, eI⟩ hZ
      rw [List.getElem?_map] at hxi hyi
      obtain ⟨n, hn, rfl⟩ := Option.map_eq_some_iff.mp hxi
      obtain ⟨src, hsrc, rfl⟩ := Option.map_eq_some_iff.mp hyi
      have hi : i < b.ins.length := (List.getElem?_eq_some_iff.mp hsrc).1
      have tkn : ns.take (i + 1) = ns.take i ++ [n] := by rw [List.take_add_one, hn]; rfl
      have tks : b.ins.take (i + 1) = b.ins.take i ++ [src] := by rw [List.take_add_one, hsrc]; rfl
      have lti : (ns.take i).length = (b.ins.take i).length := by rw [List.length_take, List.length_take, fl]
      have snoc := pastL_snoc (ok := hasIn kn e') (told := e') _ _ n src lti
      obtain ⟨f1, f2, _, _⟩ := pastL_facts (ok := hasIn kn e') (told := e') _ _ lti
      rw [← tkn, ← tks] at snoc
      generalize pastL (hasIn kn e') e' (ns.take i) (b.ins.take i) = PL at emk eI snoc f1 f2
      generalize pastL (hasIn kn e') e' (ns.take (i + 1)) (b.ins.take (i + 1)) = PL' at snoc ⊢
      rw [List.length_take] at f1 f2
      have lmk : mk.length ≤ 2 := by
        have := congrArg List.length emk
        rw [List.length_map] at this
        omega
      have u0 := same_upd (o := .tup [.str n, .str src]) hZ
      have sG := (keep bb).trans u0
      have hk := J.ins hb (List.mem_of_getElem? hsrc)
      obtain ⟨e0, he0, t1, t2, t3⟩ := tg_val eab nodT hk
      have eT' : DGet (upd G Z (.tup [.str n, .str src])) T (.str src) (some (.ref e0.2.1)) := t3 ▸ DGet.k (k := .inr src) (sG _ _ eT4)
      have hcC := (hcf4 e0 he0).keep (same_t sG) (same_f sG)
      rw [t2] at hcC
      obtain ⟨asc, c1, c2, c3⟩ := hcC
      refine ⟨Z, _, rfl, SqT.of upd_same, rfl, _, _, rfl, _, _, rfl, rfl, ?_⟩
      refine ⟨_, rfl, _, rfl, _, rfl, T, _, rfl, eT', ?_⟩
      refine ⟨e0.2.1, asc.map (·.1), asc.map fun c => (c.2.1, V.str (kW c.2.2)), rfl, by rw [List.map_map]; exact c1, paired_cols c2, fun kd hkd => ?_⟩
      have nodC : ((known kn src).map (·.1)).Nodup := (run_named (k := []) J.run (fun t ht => by
          obtain ⟨p, hp, rfl⟩ := List.mem_map.mp ht
          exact ⟨(J.all p hp).nm, (J.all p hp).ar⟩) (fun x h => by cases h) src hk).good.nod
      have hK := kd_new (H := upd G Z (.tup [.str n, .str src])) (kd := kd) c3 nodC
      have u1 := same_upd (o := .dK (mergeK [] ((asc.map fun c => (c.2.1, V.str (kW c.2.2))).map fun kv => ((.inr kv.1 : L2.Key), kv.2)))) hkd
      obtain ⟨kvs, d1, d2⟩ := hK
      refine ⟨U, kd, usedC e', (known kn src).map (·.1), rfl, SqL.of ((sG.trans u1) _ _ eU4), by have := g'.b.1; omega, .inr ⟨kvs, d1, fun x => by rw [d2, Option.isSome_map]; exact kfN_is⟩, fun G2 s7 => ⟨_, rfl, ?_⟩⟩
      have sA := (u0.trans u1).trans s7
      generalize (upd (upd G Z (.tup [.str n, .str src])) kd (.dK (mergeK [] ((asc.map fun c => (c.2.1, V.str (kW c.2.2))).map fun kv => ((.inr kv.1 : L2.Key), kv.2))))) = GX at s7 d1 u1
      clear s7 d1 u1 hkd
      have eM2 := sA _ _ eM
      have eI2 := sA _ _ eI
      have sH := (keep bb).trans sA
      show if hasIn kn e' src = true then _ else _
      by_cases ch : hasIn kn e' src = true
      · rw [if_pos ch] at snoc
        refine ifT' ch ?_
        refine ⟨_, rfl, .inl ⟨rfl, _, SqL.of eM2⟩, _, rfl, _, rfl, z1, fun i1 hi1 => ?_⟩
        have v1 := same_upd (o := .tup [.str src]) hi1
        refine ⟨_, rfl, z4, fun t ht => ?_⟩
        have v2 := same_upd (o := .tup [.str n, .str "filter", .ref i1, tv]) ht
        have eM4 := v2 _ _ (v1 _ _ eM2)
        have eI4 := v2 _ _ (v1 _ _ eI2)
        refine ⟨M, _, _, rfl, rfl, eM4, Nat.lt_of_le_of_lt (show _ ≤ 2 by rw [List.length_map]; exact lmk) (by decide), ?_⟩
        have eI5 : (upd (upd (upd G2 i1 (.tup [.str src])) t (.tup [.str n, .str "filter", .ref i1, tv])) M (.lst (mk.map (fun p => V.ref p.1) ++ [.ref t]))) I = some (.lst (PL.2.map V.str)) := by
          rw [upd_ne nIM]
          exact eI4
        refine ⟨_, rfl, .inl ⟨rfl, _, SqL.of eI5⟩, _, rfl, I, _, _, rfl, rfl, eI5, Nat.lt_of_le_of_lt (show _ ≤ 2 by rw [List.length_map]; omega) (by decide), ?_⟩
        have back : ∀ {a : Addr} {q : Stp}, StpAt (upd (upd G2 i1 (.tup [.str src])) t (.tup [.str n, .str "filter", .ref i1, tv])) a q → StpAt (upd (upd (upd (upd G2 i1 (.tup [.str src])) t (.tup [.str n, .str "filter", .ref i1, tv])) M (.lst (mk.map (fun p => V.ref p.1) ++ [.ref t]))) I (.lst (PL.2.map V.str ++ [.str n]))) a q := fun h => h.lists fun c o hc nl => by
          rw [upd_ne (fun z => by rw [z, eI4] at hc; exact nl _ (Option.some.inj hc).symm), upd_ne (fun z => by rw [z, eM4] at hc; exact nl _ (Option.some.inj hc).symm)]
          exact hc
        refine ⟨_, _, mk ++ [(t, ⟨n, [src], .filter e'⟩)], rfl, fun a o h1 h2 ex => ?_, ?_, ?_, fun r hr => ?_, ?_⟩
        · rw [upd_ne h2, upd_ne h1]
          exact v2 _ _ (v1 _ _ (sA _ _ (bb a o h1 h2 ex)))
        · rw [upd_ne nIM.symm, upd_same, List.map_append]
          rfl
        · rw [List.map_append, emk, snoc]
          rfl
        · rcases List.mem_append.mp hr with hr | hr
          · exact back ((hmk r hr).same ((sA.trans v1).trans v2))
          · rw [List.mem_singleton.mp hr]
            exact back ⟨i1, tv, upd_same, v2 _ _ upd_same, hx.same ((sH.trans v1).trans v2)⟩
        · rw [upd_same, snoc, List.map_append]
          rfl
      · rw [if_neg ch] at snoc
        refine ifF' (Bool.eq_false_iff.mpr ch) ?_
        refine ⟨_, rfl, .inl ⟨rfl, _, SqL.of eI2⟩, _, rfl, I, _, _, rfl, rfl, eI2, Nat.lt_of_le_of_lt (show _ ≤ 2 by rw [List.length_map]; omega) (by decide), ?_⟩
        have back : ∀ {a : Addr} {q : Stp}, StpAt G2 a q → StpAt (upd G2 I (.lst (PL.2.map V.str ++ [.str src]))) a q := fun h => h.lists fun c o hc nl => by
          rw [upd_ne (fun z => by rw [z, eI2] at hc; exact nl _ (Option.some.inj hc).symm)]
          exact hc
        refine ⟨_, _, mk, rfl, fun a o h1 h2 ex => ?_, ?_, ?_, fun r hr => back ((hmk r hr).same sA), ?_⟩
        · rw [upd_ne h2]
          exact sA _ _ (bb a o h1 h2 ex)
        · rw [upd_ne nIM.symm]
          exact eM2
        · rw [emk, snoc]
        · rw [upd_same, snoc, List.map_append]
          rfl
    rintro σ G ⟨y9, y10, mk, rfl, bb, eM, emk, hmk, eI⟩
    have sG := keep0 bb
    rw [List.length_map, fl, List.take_length, ← fl, List.take_length, ← hns] at emk eI
    obtain ⟨bi, bd, w1, w2, w3⟩ := hbl.same sG
    obtain ⟨si, sd, w4, _, _⟩ := hst.same sG
    unfold pastG pastP at q
    obtain ⟨f1, f2, _, _⟩ := pastL_facts (ok := hasIn kn e') (told := e') (freeF (namesS (as.map (·.2))) b.ins.length) b.ins (by rw [hns]; exact fl)
    generalize pastL (hasIn kn e') e' (freeF (namesS (as.map (·.2))) b.ins.length) b.ins = PL at q emk eI f1 f2
    have lmk : mk.length = PL.1.length := by rw [← emk, List.length_map]
    refine ⟨_, rfl, M, _, rfl, .inl (SqL.of eM), rfl, _, rfl, ?_⟩
    rw [List.length_map]
    by_cases c0 : PL.1.length = 0
    · rw [if_pos c0] at q
      exact ifT' (decide_eq_true (by rw [lmk, c0]; rfl)) (q.1 rfl G sG)
    rw [if_neg c0] at q
    refine ifF' (decide_eq_false fun z => c0 (by injection z with z; omega)) ?_
    refine ⟨_, rfl, .inl ⟨rfl, _, SqL.of eM⟩, _, rfl, st, _, 0, .str s.name, rfl, rfl, SqT.of w4, rfl, _, rfl, bl, _, 1, .str b.det.what, rfl, rfl, SqT.of w1, rfl, _, rfl, I, _, rfl, .inl ⟨SqL.of eI, fun t ht => ?_⟩⟩
    have v1 := same_upd (o := .tup (PL.2.map V.str)) ht
    refine ⟨_, rfl, bl, _, 3, bd, rfl, rfl, SqT.of (v1 _ _ w1), rfl, z4, fun u hu => ?_⟩
    have v2 := same_upd (o := .tup [.str s.name, .str b.det.what, .ref t, bd]) hu
    have eM2 := v2 _ _ (v1 _ _ eM)
    refine ⟨M, _, _, rfl, rfl, eM2, Nat.lt_of_le_of_lt (show _ ≤ 2 by rw [List.length_map]; omega) (by decide), ?_⟩
    have back : ∀ {a : Addr} {q : Stp}, StpAt (upd (upd G t (.tup (PL.2.map V.str))) u (.tup [.str s.name, .str b.det.what, .ref t, bd])) a q → StpAt (upd (upd (upd G t (.tup (PL.2.map V.str))) u (.tup [.str s.name, .str b.det.what, .ref t, bd])) M (.lst (mk.map (fun p => V.ref p.1) ++ [.ref u]))) a q := fun h => h.lists fun c o hc nl => by
      rw [upd_ne (fun z => by rw [z, eM2] at hc; exact nl _ (Option.some.inj hc).symm)]
      exact hc
    refine ⟨_, rfl, q.2 _ rfl M (mk ++ [(u, ⟨s.name, PL.2, b.det⟩)]) _ (fun a o ex => ?_) ⟨?_, fun r hr => ?_⟩ ?_⟩
    · rw [upd_ne (ne_of_none (s04 _ _ ex) hM)]
      exact v2 _ _ (v1 _ _ (sG _ _ ex))
    · rw [upd_same, List.map_append]
      rfl
    · rcases List.mem_append.mp hr with hr | hr
      · exact back ((hmk r hr).same (v1.trans v2))
      · rw [List.mem_singleton.mp hr]
        exact back ⟨t, bd, upd_same, v2 _ _ upd_same, w3.keep (same_t (v1.trans v2)) (same_f (v1.trans v2))⟩
    · rw [List.map_append, emk]
      rfl

  · rw [hq] at q
    refine ifF' (decide_eq_false (str_ne nf)) ?_
    refine ⟨_, rfl, bl, _, 1, .str b.det.what, rfl, rfl, SqT.of b1, rfl, rfl, _, rfl, ?_⟩
    refine ifF' (decide_eq_false (str_ne nm)) ?_
    have sm : Same H H := Same.refl H
    have hx := hxe
    have g' : G Bb e := ge.mono fun _ => Bs.big
    obtain ⟨tv, etv⟩ : ∃ tv, tv = sdv := ⟨_, rfl⟩
    obtain ⟨e', ee'⟩ : ∃ e', e' = e := ⟨_, rfl⟩
    obtain ⟨H1, eH1⟩ : ∃ H1, H1 = H := ⟨_, rfl⟩
    rw [← etv, ← ee'] at hx
    rw [← ee'] at g' q
    rw [← etv]
    have sm : Same H H1 := by rw [eH1]; exact sm
    have hx : ExAt H1 tv e' := by rw [eH1]; exact hx
    rw [← eH1]
    refine ⟨_, rfl, tv, e', rfl, hx, g'.b.2, g'.b.1, fun U H2 s2 _ eU => ?_⟩
    have sm2 := sm.trans s2
    have lu := used_len e'
    refine ⟨_, rfl, ?_⟩
    unfold tNil
    dsimp only [List.append_nil]
    apply cols_call (K := K) (C := C) (J.at_.same sm2) J.all (by have := J.len; omega) J.run J.ans
    intro T tg H3 s3 eT eab hcf
    have J3 := J.same (sm2.trans s3)
    have lb : (b.ins.map V.str).length ≤ 2 := by
      rw [List.length_map, jb.ar]
      exact arity2 _
    refine ⟨_, rfl, _, rfl, bl, _, 2, .ref binp, rfl, rfl, SqT.of ((sm2.trans s3) _ _ b1), rfl, binp, _, rfl, .inr (SqT.of ((sm2.trans s3) _ _ b2)), job, as, an, (b.ins.map V.str).length, rfl, J3.at_, by have := J.len; omega, fun N H4 s4 _ eN => ?_⟩
    rw [List.length_map] at eN lb
    have fl := free_len (taken := namesS (as.map (·.2))) (many := b.ins.length) (by rw [List.length_map, List.length_map]; have := J.len; omega)
    have s04 := (sm2.trans s3).trans s4
    have hxR := hx.same (s2.trans (s3.trans s4))
    have eU4 := s4 _ _ (s3 _ _ eU)
    have eT4 := s4 _ _ eT
    have hcf4 : ∀ e ∈ tg, CF H4 e.2.1 e.2.2 := fun e he => (hcf e he).keep (same_t s4) (same_f s4)
    have hx := hxR
    clear hxR eU eT hcf s2 s3 J3 sm sm2
    clear s4
    refine ⟨z0, fun M hM => ?_⟩
    refine ⟨z0, fun I hI => ?_⟩
    have nIM : I ≠ M := fun z => by rw [z, upd_same] at hI; cases hI
    have hI4 : H4 I = none := by rw [upd_ne nIM] at hI; exact hI
    have k46 : ∀ (a : Addr) (o : HO), H4 a = some o → (upd (upd H4 M (.lst [])) I (.lst [])) a = some o := fun a o e => same_upd hI _ _ (same_upd hM _ _ e)
    have e6M : (upd (upd H4 M (.lst [])) I (.lst [])) M = some (.lst []) := by rw [upd_ne nIM.symm]; exact upd_same
    have e6I : (upd (upd H4 M (.lst [])) I (.lst [])) I = some (.lst []) := upd_same
    generalize upd (upd H4 M (.lst [])) I (.lst []) = H6 at k46 e6M e6I ⊢
    have keep : ∀ {G : Hp}, But2 M I H6 G → Same H4 G := fun b2 a o e => b2 a o (ne_of_none e hM) (ne_of_none e hI4) (k46 a o e)
    have keep0 : ∀ {G : Hp}, But2 M I H6 G → Same H G := fun b2 => s04.trans (keep b2)
    generalize hns : freeF (namesS (as.map (·.2))) b.ins.length = ns at eN fl
    refine ⟨_, rfl, _, rfl, bl, _, 2, .ref binp, rfl, rfl, SqT.of (k46 _ _ (s04 _ _ b1)), rfl, N, binp, _, _, rfl, SqL.of (k46 _ _ eN), SqT.of (k46 _ _ (s04 _ _ b2)), ?_⟩
    have nodT := J.nd
    refine Zm.for_zip2 (K := K) (a := N) (b := binp) (xs := ns.map V.str) (ys := b.ins.map V.str) (by rw [List.length_map, List.length_map, fl]) (fun i σ G => ∃ y9 y10, ∃ mk : List (Addr × Stp), σ = [some (.ref job), some (.ref st), some (.ref bl), some tv, some (.ref U), some (.ref T), some (.ref N), some (.ref M), some (.ref I), y9, y10] ∧ But2 M I H6 G ∧ G M = some (.lst (mk.map fun p => .ref p.1)) ∧ mk.map (·.2) = (pastL (hasIn kn e') e' (ns.take i) (b.ins.take i)).1 ∧ (∀ p ∈ mk, StpAt G p.1 p.2) ∧ G I = some (.lst ((pastL (hasIn kn e') e' (ns.take i) (b.ins.take i)).2.map V.str)))
      ⟨_, _, [], rfl, fun a o _ _ e => e, e6M, rfl, (fun p hp => by cases hp), e6I⟩ (fun i σ G ⟨_, _, _, _, b2', _⟩ => ⟨SqL.of (keep b2' _ _ eN), SqT.of (keep0 b2' _ _ b2)⟩) ?_ ?_
    · rintro i x y Z σ G hxi hyi ⟨y9, y10, mk, rfl, bb, eM, emk, hmk, eI⟩ hZ
      rw [List.getElem?_map] at hxi hyi
      obtain ⟨n, hn, rfl⟩ := Option.map_eq_some_iff.mp hxi
      obtain ⟨src, hsrc, rfl⟩ := Option.map_eq_some_iff.mp hyi
      have hi : i < b.ins.length := (List.getElem?_eq_some_iff.mp hsrc).1
      have tkn : ns.take (i + 1) = ns.take i ++ [n] := by rw [List.take_add_one, hn]; rfl
      have tks : b.ins.take (i + 1) = b.ins.take i ++ [src] := by rw [List.take_add_one, hsrc]; rfl
      have lti : (ns.take i).length = (b.ins.take i).length := by rw [List.length_take, List.length_take, fl]
      have snoc := pastL_snoc (ok := hasIn kn e') (told := e') _ _ n src lti
      obtain ⟨f1, f2, _, _⟩ := pastL_facts (ok := hasIn kn e') (told := e') _ _ lti
      rw [← tkn, ← tks] at snoc
      generalize pastL (hasIn kn e') e' (ns.take i) (b.ins.take i) = PL at emk eI snoc f1 f2
      generalize pastL (hasIn kn e') e' (ns.take (i + 1)) (b.ins.take (i + 1)) = PL' at snoc ⊢
      rw [List.length_take] at f1 f2
      have lmk : mk.length ≤ 2 := by
        have := congrArg List.length emk
        rw [List.length_map] at this
        omega
      have u0 := same_upd (o := .tup [.str n, .str src]) hZ
      have sG := (keep bb).trans u0
      have hk := J.ins hb (List.mem_of_getElem? hsrc)
      obtain ⟨e0, he0, t1, t2, t3⟩ := tg_val eab nodT hk
      have eT' : DGet (upd G Z (.tup [.str n, .str src])) T (.str src) (some (.ref e0.2.1)) := t3 ▸ DGet.k (k := .inr src) (sG _ _ eT4)
      have hcC := (hcf4 e0 he0).keep (same_t sG) (same_f sG)
      rw [t2] at hcC
      obtain ⟨asc, c1, c2, c3⟩ := hcC
      refine ⟨Z, _, rfl, SqT.of upd_same, rfl, _, _, rfl, _, _, rfl, rfl, ?_⟩
      refine ⟨_, rfl, _, rfl, _, rfl, T, _, rfl, eT', ?_⟩
      refine ⟨e0.2.1, asc.map (·.1), asc.map fun c => (c.2.1, V.str (kW c.2.2)), rfl, by rw [List.map_map]; exact c1, paired_cols c2, fun kd hkd => ?_⟩
      have nodC : ((known kn src).map (·.1)).Nodup := (run_named (k := []) J.run (fun t ht => by
          obtain ⟨p, hp, rfl⟩ := List.mem_map.mp ht
          exact ⟨(J.all p hp).nm, (J.all p hp).ar⟩) (fun x h => by cases h) src hk).good.nod
      have hK := kd_new (H := upd G Z (.tup [.str n, .str src])) (kd := kd) c3 nodC
      have u1 := same_upd (o := .dK (mergeK [] ((asc.map fun c => (c.2.1, V.str (kW c.2.2))).map fun kv => ((.inr kv.1 : L2.Key), kv.2)))) hkd
      obtain ⟨kvs, d1, d2⟩ := hK
      refine ⟨U, kd, usedC e', (known kn src).map (·.1), rfl, SqL.of ((sG.trans u1) _ _ eU4), by have := g'.b.1; omega, .inr ⟨kvs, d1, fun x => by rw [d2, Option.isSome_map]; exact kfN_is⟩, fun G2 s7 => ⟨_, rfl, ?_⟩⟩
      have sA := (u0.trans u1).trans s7
      generalize (upd (upd G Z (.tup [.str n, .str src])) kd (.dK (mergeK [] ((asc.map fun c => (c.2.1, V.str (kW c.2.2))).map fun kv => ((.inr kv.1 : L2.Key), kv.2))))) = GX at s7 d1 u1
      clear s7 d1 u1 hkd
      have eM2 := sA _ _ eM
      have eI2 := sA _ _ eI
      have sH := (keep bb).trans sA
      show if hasIn kn e' src = true then _ else _
      by_cases ch : hasIn kn e' src = true
      · rw [if_pos ch] at snoc
        refine ifT' ch ?_
        refine ⟨_, rfl, .inl ⟨rfl, _, SqL.of eM2⟩, _, rfl, _, rfl, z1, fun i1 hi1 => ?_⟩
        have v1 := same_upd (o := .tup [.str src]) hi1
        refine ⟨_, rfl, z4, fun t ht => ?_⟩
        have v2 := same_upd (o := .tup [.str n, .str "filter", .ref i1, tv]) ht
        have eM4 := v2 _ _ (v1 _ _ eM2)
        have eI4 := v2 _ _ (v1 _ _ eI2)
        refine ⟨M, _, _, rfl, rfl, eM4, Nat.lt_of_le_of_lt (show _ ≤ 2 by rw [List.length_map]; exact lmk) (by decide), ?_⟩
        have eI5 : (upd (upd (upd G2 i1 (.tup [.str src])) t (.tup [.str n, .str "filter", .ref i1, tv])) M (.lst (mk.map (fun p => V.ref p.1) ++ [.ref t]))) I = some (.lst (PL.2.map V.str)) := by
          rw [upd_ne nIM]
          exact eI4
        refine ⟨_, rfl, .inl ⟨rfl, _, SqL.of eI5⟩, _, rfl, I, _, _, rfl, rfl, eI5, Nat.lt_of_le_of_lt (show _ ≤ 2 by rw [List.length_map]; omega) (by decide), ?_⟩
        have back : ∀ {a : Addr} {q : Stp}, StpAt (upd (upd G2 i1 (.tup [.str src])) t (.tup [.str n, .str "filter", .ref i1, tv])) a q → StpAt (upd (upd (upd (upd G2 i1 (.tup [.str src])) t (.tup [.str n, .str "filter", .ref i1, tv])) M (.lst (mk.map (fun p => V.ref p.1) ++ [.ref t]))) I (.lst (PL.2.map V.str ++ [.str n]))) a q := fun h => h.lists fun c o hc nl => by
          rw [upd_ne (fun z => by rw [z, eI4] at hc; exact nl _ (Option.some.inj hc).symm), upd_ne (fun z => by rw [z, eM4] at hc; exact nl _ (Option.some.inj hc).symm)]
          exact hc
        refine ⟨_, _, mk ++ [(t, ⟨n, [src], .filter e'⟩)], rfl, fun a o h1 h2 ex => ?_, ?_, ?_, fun r hr => ?_, ?_⟩
        · rw [upd_ne h2, upd_ne h1]
          exact v2 _ _ (v1 _ _ (sA _ _ (bb a o h1 h2 ex)))
        · rw [upd_ne nIM.symm, upd_same, List.map_append]
          rfl
        · rw [List.map_append, emk, snoc]
          rfl
        · rcases List.mem_append.mp hr with hr | hr
          · exact back ((hmk r hr).same ((sA.trans v1).trans v2))
          · rw [List.mem_singleton.mp hr]
            exact back ⟨i1, tv, upd_same, v2 _ _ upd_same, hx.same ((sH.trans v1).trans v2)⟩
        · rw [upd_same, snoc, List.map_append]
          rfl
      · rw [if_neg ch] at snoc
        refine ifF' (Bool.eq_false_iff.mpr ch) ?_
        refine ⟨_, rfl, .inl ⟨rfl, _, SqL.of eI2⟩, _, rfl, I, _, _, rfl, rfl, eI2, Nat.lt_of_le_of_lt (show _ ≤ 2 by rw [List.length_map]; omega) (by decide), ?_⟩
        have back : ∀ {a : Addr} {q : Stp}, StpAt G2 a q → StpAt (upd G2 I (.lst (PL.2.map V.str ++ [.str src]))) a q := fun h => h.lists fun c o hc nl => by
          rw [upd_ne (fun z => by rw [z, eI2] at hc; exact nl _ (Option.some.inj hc).symm)]
          exact hc
        refine ⟨_, _, mk, rfl, fun a o h1 h2 ex => ?_, ?_, ?_, fun r hr => back ((hmk r hr).same sA), ?_⟩
        · rw [upd_ne h2]
          exact sA _ _ (bb a o h1 h2 ex)
        · rw [upd_ne nIM.symm]
          exact eM2
        · rw [emk, snoc]
        · rw [upd_same, snoc, List.map_append]
          rfl
    rintro σ G ⟨y9, y10, mk, rfl, bb, eM, emk, hmk, eI⟩
    have sG := keep0 bb
    rw [List.length_map, fl, List.take_length, ← fl, List.take_length, ← hns] at emk eI
    obtain ⟨bi, bd, w1, w2, w3⟩ := hbl.same sG
    obtain ⟨si, sd, w4, _, _⟩ := hst.same sG
    unfold pastG pastP at q
    obtain ⟨f1, f2, _, _⟩ := pastL_facts (ok := hasIn kn e') (told := e') (freeF (namesS (as.map (·.2))) b.ins.length) b.ins (by rw [hns]; exact fl)
    generalize pastL (hasIn kn e') e' (freeF (namesS (as.map (·.2))) b.ins.length) b.ins = PL at q emk eI f1 f2
    have lmk : mk.length = PL.1.length := by rw [← emk, List.length_map]
    refine ⟨_, rfl, M, _, rfl, .inl (SqL.of eM), rfl, _, rfl, ?_⟩
    rw [List.length_map]
    by_cases c0 : PL.1.length = 0
    · rw [if_pos c0] at q
      exact ifT' (decide_eq_true (by rw [lmk, c0]; rfl)) (q.1 rfl G sG)
    rw [if_neg c0] at q
    refine ifF' (decide_eq_false fun z => c0 (by injection z with z; omega)) ?_
    refine ⟨_, rfl, .inl ⟨rfl, _, SqL.of eM⟩, _, rfl, st, _, 0, .str s.name, rfl, rfl, SqT.of w4, rfl, _, rfl, bl, _, 1, .str b.det.what, rfl, rfl, SqT.of w1, rfl, _, rfl, I, _, rfl, .inl ⟨SqL.of eI, fun t ht => ?_⟩⟩
    have v1 := same_upd (o := .tup (PL.2.map V.str)) ht
    refine ⟨_, rfl, bl, _, 3, bd, rfl, rfl, SqT.of (v1 _ _ w1), rfl, z4, fun u hu => ?_⟩
    have v2 := same_upd (o := .tup [.str s.name, .str b.det.what, .ref t, bd]) hu
    have eM2 := v2 _ _ (v1 _ _ eM)
    refine ⟨M, _, _, rfl, rfl, eM2, Nat.lt_of_le_of_lt (show _ ≤ 2 by rw [List.length_map]; omega) (by decide), ?_⟩
    have back : ∀ {a : Addr} {q : Stp}, StpAt (upd (upd G t (.tup (PL.2.map V.str))) u (.tup [.str s.name, .str b.det.what, .ref t, bd])) a q → StpAt (upd (upd (upd G t (.tup (PL.2.map V.str))) u (.tup [.str s.name, .str b.det.what, .ref t, bd])) M (.lst (mk.map (fun p => V.ref p.1) ++ [.ref u]))) a q := fun h => h.lists fun c o hc nl => by
      rw [upd_ne (fun z => by rw [z, eM2] at hc; exact nl _ (Option.some.inj hc).symm)]
      exact hc
    refine ⟨_, rfl, q.2 _ rfl M (mk ++ [(u, ⟨s.name, PL.2, b.det⟩)]) _ (fun a o ex => ?_) ⟨?_, fun r hr => ?_⟩ ?_⟩
    · rw [upd_ne (ne_of_none (s04 _ _ ex) hM)]
      exact v2 _ _ (v1 _ _ (sG _ _ ex))
    · rw [upd_same, List.map_append]
      rfl
    · rcases List.mem_append.mp hr with hr | hr
      · exact back ((hmk r hr).same (v1.trans v2))
      · rw [List.mem_singleton.mp hr]
        exact back ⟨t, bd, upd_same, v2 _ _ upd_same, w3.keep (same_t (v1.trans v2)) (same_f (v1.trans v2))⟩
    · rw [List.map_append, emk]
      rfl

end
end Kx

set_option maxHeartbeats 8000000
namespace Kx
open PySem PySem.Spec PyProof.Rows L2
abbrev s_made_of : Stmt := topS 43
/-! ### D.get(y), D a dict of the written part -/
def KGet (K : PySem.W.Frag) (d : Addr) (k : Str) (r : Option V) : Prop := (∃ u v, PySem.W.nsIn K d k = some (some u) ∧ RelV v u ∧ r = some v) ∨ (PySem.W.nsIn K d k = some none ∧ r = none)
def tKGet1 (K : PySem.W.Frag) (d : Addr) (ty : TE) : TE := fun σ H Q => ty σ H fun y H1 => ∃ (k : Str) (r : Option V), y = .str k ∧ KGet K d k r ∧ Q (r.getD .non) H1
section
variable {X : Cx} {o e f : Expr} {apos cpos : Pos} {ty tx : TE} {d : Addr} {es : Array DictEntry} {n : Nat}
theorem pe_kget1 (D : KDict X.K X.w d es n) (ho : PE X o (tC (.ref d))) (he : PE X e ty) (m : M1 X o "get" apos e cpos) : PE X (.Call (.Attribute o "get" apos) [e] [] cpos) (tKGet1 X.K d ty) := by
  refine ⟨fun pins s σ H Q I h => ?_⟩
  refine wpAny_Call_method m.base m.few m.line PySem.F.plainAttrs_dict PySem.F.slot_dict_get PySem.F.type_dict_get (thn (ho.run pins s σ H (fun x H1 => x = V.ref d ∧ tKGet1 X.K d ty σ H1 Q) I ⟨rfl, h⟩) fun u s1 ⟨x, H1, I1, rx, ex, q1⟩ => ?_)
  subst ex
  obtain rfl : u = Value.ref d := rx
  have ob := I1.kIn d _ D.at_
  refine ⟨⟨_, ob, rfl⟩, fun a' e' => ?_, ?_⟩
  · cases e'
    exact ⟨_, ob, rfl⟩
  rw [m.trees]
  refine Calls.callWith_builtin rfl (Calls.evalArgs_plain (Calls.spliced_cons (thn (he.run pins s1 σ H1 _ I1 q1) fun iv s2 ⟨y, H2, I2, ry, k, r, ey, g, q2⟩ => Calls.spliced_nil ?_)))
  subst ey
  obtain ⟨t, rfl⟩ := ry
  have mp := PySem.W.mapOf_K (prog := X.prog) (w := X.w) I2.kIn D.at_ D.lit
  refine call_meetsIn PySem.F.slot_dict_get mp.typeIs PySem.F.entry_dict_get (PySem.F.args_dict_get_2 _ _) (meets_dict_get (strKind X.prog X.w) d (PySem.strKind_is X.prog X.w k t) D.low) ⟨_, mp, ?_⟩
  rcases g with ⟨u, v, e1, rv, rfl⟩ | ⟨e1, rfl⟩
  · rw [PySem.W.find_K D.at_ e1]
    exact ⟨v, H2, I2.tok _, rv, q2⟩
  · rw [PySem.W.find_K D.at_ e1]
    exact ⟨.non, H2, I2.tok _, rfl, q2⟩
end
/-! ### several tests in one -/
theorem andJ {a : Bool} {M F : Prop} (k : Bool) (hF : k = false → F) (hM : a = true → (k = false → F) → M) (h : a = false → k = false) : if a = true then M else F := by
  cases a with
  | true => exact hM rfl hF
  | false => exact hF (h rfl)
theorem sel {a : Bool} {M F : Prop} (h1 : a = true → M) (h2 : a = false → F) : if a = true then M else F := by
  cases a with
  | true => exact h1 rfl
  | false => exact h2 rfl
theorem eqS {x y : Str} (h : decide (V.str x = V.str y) = true) : x = y := by
  have := of_decide_eq_true h
  injection this
/-! ### which rule puts a filter past what -/
def pastO (r : Str) : Option Str := if r = "past map" then some "map" else if r = "past join" then some "join" else if r = "past fold" then some "fold" else if r = "past union" then some "union" else if r = "past unlike" then some "unlike" else none
def rulesA : List Str := ["and", "past map", "past join", "past fold", "past union", "past unlike", "maps", "narrow", "same", "drop", "no"]
structure PastD (K : PySem.W.Frag) (w : World) (mg : Str → Option Value) : Prop where
  ex : ∃ d es n, mg "PAST" = some (.ref d) ∧ KDict K w d es n ∧ ∀ z ∈ rulesA, KGet K d z ((pastO z).map .str)
theorem pastO_is {r x : Str} (hr : r ∈ rulesA) (h : pastO r = some x) : (r = "past map" ∧ x = "map") ∨ (r = "past join" ∧ x = "join") ∨ (r = "past fold" ∧ x = "fold") ∨ (r = "past union" ∧ x = "union") ∨ (r = "past unlike" ∧ x = "unlike") := by
  unfold pastO at h
  split at h
  · exact .inl ⟨by assumption, (Option.some.inj h).symm⟩
  split at h
  · exact .inr (.inl ⟨by assumption, (Option.some.inj h).symm⟩)
  split at h
  · exact .inr (.inr (.inl ⟨by assumption, (Option.some.inj h).symm⟩))
  split at h
  · exact .inr (.inr (.inr (.inl ⟨by assumption, (Option.some.inj h).symm⟩)))
  split at h
  · exact .inr (.inr (.inr (.inr ⟨by assumption, (Option.some.inj h).symm⟩)))
  · cases h
theorem named_map (as : List (Addr × Stp)) (nm : Str) : namedS (as.map (·.2)) nm = (namedA as nm).map (·.2) := by
  unfold namedS
  rw [List.find?_map]
  rfl
section
variable {ss : List Stp} {kn : List (Str × List NC)} {s t : Stp} {x : Str} {mb : List MC}
theorem below_map (hr : runC [] ss = .ok kn) (har : ∀ t ∈ ss, t.ins.length = t.det.arity) (hs : s ∈ ss) (hx : s.ins = [x]) (ht : namedS ss x = some t) (hdt : t.det = .map mb) : (mb.map (·.2.2)).Nodup ∧ (∀ e, s.det = .filter e → ∀ y ∈ usedC e, ∃ m ∈ mb, m.2.2 = y) ∧ ∀ ms, s.det = .map ms → ∀ m ∈ ms, ∀ y ∈ usedC m.1, ∃ c ∈ mb, c.2.2 = y := by
  obtain ⟨a, b, kp, cs, A⟩ := at_of hr hs
  obtain ⟨s1, s2, s3⟩ := step_some A.st
  obtain ⟨ta, tn⟩ := A.below (x := x) (by rw [hx]; exact List.mem_cons_self) ht
  obtain ⟨b1, b2, b3⟩ := told_behind A.ra ta
  have tss : t ∈ ss := by rw [A.eq]; exact List.mem_append_left _ ta
  have tar := har t tss
  rw [tn] at b3
  rw [hdt] at b3 tar
  rw [ins_one (t := t) tar] at b3
  rw [hx] at s3
  obtain ⟨e1, _, e3⟩ := cols_map b3
  refine ⟨?_, fun e hd y hy => ?_, fun ms hd m hm y hy => ?_⟩
  · rw [e1, List.map_map] at e3
    exact e3
  · rw [hd] at s3
    obtain ⟨_, h2⟩ := cols_filter s3
    obtain ⟨_, m, h3, h4, _⟩ := mean_kind b3 (kind_used h2 y hy)
    exact ⟨m, h3, h4⟩
  · rw [hd] at s3
    obtain ⟨_, h2, _⟩ := cols_map s3
    obtain ⟨_, c, h3, h4, _⟩ := mean_kind b3 (kind_used (isSome_some (d := true) (h2 m hm)) y hy)
    exact ⟨c, h3, h4⟩
end
section
variable {P : Program} {w : World} {K : PySem.W.Frag} {mg : Str → Option Value} {base : Heap}
def spMadeOf : Sp := fun vs H Q _ => ∃ (job st : Addr) (as : List (Addr × Stp)) (an rule : Str) (kn : List (Str × List NC)) (s : Stp), vs = [.ref job, .str rule, .ref st] ∧ rule ∈ rulesA ∧ JobOn H job as an kn ∧ StpAt H st s ∧ s ∈ as.map (·.2) ∧ ResL H Q (madeF kn (as.map (·.2)) rule s)
abbrev N_made_of : List Str := ["job", "rule", "step", "what", "below"]
theorem sc_madeof : FnScope N_made_of ["job", "rule", "step"] (defScope s_made_of) := ⟨rfl, rfl, rfl, by decide +kernel, rfl, by decide +kernel, by decide +kernel⟩
theorem ok_madeof {f : Addr} {fd : FuncData} {k kn' kp km : Nat} (F : Fun K "made_of" "made_of" s_made_of f fd) (PD : PastD K w mg) (hk1 : 1 ≤ k) (hkn : kn' ≤ k) (hkp : kp ≤ k) (hkm : km ≤ k) (G_named : Ready P w K mg base 1 "step_named" ["job", "name"] spNamed) (G_narrow : Ready P w K mg base kn' "narrowed" ["job", "step"] spNarrow) (G_past : Ready P w K mg base kp "filter_past" ["job", "step", "below"] spPast) (G_and : Ready P w K mg base 1 "one_filter" ["step", "below"] spOneFilter) (G_maps : Ready P w K mg base km "one_map" ["step", "below"] spOneMap) : FnOk P w K mg base CX0 (k + 1) f fd ["job", "rule", "step"] spMadeOf := by
  refine F.ok sc_madeof (fun vs H Q E h => ?_) (fun cdv A outer s0 H vs Q E hr h => ?_)
  · obtain ⟨job, st, as, an, rule, kn, s, rfl, _⟩ := h
    rfl
  obtain ⟨job, st, as, an, rule, kn, s, rfl, hrule, J, hst, hs, q⟩ := h
  obtain ⟨d, es, nn, m_P, kd, hk⟩ := PD.ex
  have nd := sc_madeof.nd
  have hrk : Room k _ := hr
  have hrn : Room kn' _ := hrk.mono hkn
  have hrp : Room kp _ := hrk.mono hkp
  have hrm : Room km _ := hrk.mono hkm
  have hr1 : Room 1 _ := hrk.mono hk1
  refine ⟨_, pss_cons (ps_set (i := 3) nd rfl (.inl rfl) (pe_ix ix_tup (pv 2) pe_int (fun _ _ => rfl)))
      (pss_cons (ps_if (pt_cmpR op_eq (pv 3) pe_str (nomark _)) (pss_one (ps_ret pe_non)) (pss_nil))
      (pss_cons (ps_if (PW.pt (pw_and (pt_cmpR op_eq (pv 1) pe_str (nomark _)) (pw_and1 (pt_cmpR op_eq (pv 3) pe_str (nomark _))))) (pss_one (ps_ret (pe_fn G_narrow hrn (pa_cons (pv 0) (pa_cons (pv 2) pa_nil))))) (pss_nil))
      (pss_cons (ps_set (i := 4) nd rfl (.inl rfl) (pe_fn G_named hr1 (pa_cons (pv 0) (pa_cons (pe_ix ix_tup (pe_ix ix_tup (pv 2) pe_int (fun _ _ => rfl)) pe_int (fun _ _ => rfl)) pa_nil))))
      (pss_cons (ps_if (PW.pt (pw_and (pt_cmpR op_eq (pv 1) pe_str (nomark _)) (pw_and (pt_cmpR op_eq (pv 3) pe_str (nomark _)) (pw_and1 (pt_cmpR op_eq (pe_ix ix_tup (pv 4) pe_int (fun _ _ => rfl)) pe_str (nomark _)))))) (pss_one (ps_ret (pe_fn G_and hr1 (pa_cons (pv 2) (pa_cons (pv 4) pa_nil))))) (pss_nil))
      (pss_cons (ps_if (PW.pt (pw_and (pt_cmpR op_eq (pv 1) pe_str (nomark _)) (pw_and (pt_cmpR op_eq (pv 3) pe_str (nomark _)) (pw_and1 (pt_cmpR op_eq (pe_ix ix_tup (pv 4) pe_int (fun _ _ => rfl)) pe_str (nomark _)))))) (pss_one (ps_ret (pe_fn G_maps hrm (pa_cons (pv 2) (pa_cons (pv 4) pa_nil))))) (pss_nil))
      (pss_cons (ps_if (PW.pt (pw_and (pt_cmpR op_eq (pv 3) pe_str (nomark _)) (pw_and1 (pt_cmpR op_eq (pe_kget1 kd (pe_glob (v := .ref d) rfl m_P rfl) (pv 1) ⟨rfl, rfl, rfl, rfl⟩) (pe_ix ix_tup (pv 4) pe_int (fun _ _ => rfl)) (nomark _))))) (pss_one (ps_ret (pe_fn G_past hrp (pa_cons (pv 0) (pa_cons (pv 2) (pa_cons (pv 4) pa_nil)))))) (pss_nil))
      (pss_one (ps_ret pe_non)))))))), ?_⟩
  obtain ⟨inp, dv, x1, x2, x3⟩ := id hst
  have jall : ∀ u ∈ as.map (·.2), StpJ Bs u := fun u hu => by
    obtain ⟨p, hp, rfl⟩ := List.mem_map.mp hu
    exact J.all p hp
  have js := jall s hs
  refine ⟨_, rfl, st, _, 1, .str s.det.what, rfl, rfl, SqT.of x1, rfl, ?_⟩
  refine ⟨_, rfl, rfl, _, rfl, ?_⟩
  have none_of : madeF kn (as.map (·.2)) rule s = none → Q .non H := fun e => q.1 e H (Same.refl H)
  refine sel (fun wr => ?_) fun wr => ?_
  · refine none_of ?_
    have := eqS wr
    unfold madeF
    obtain ⟨cs, e⟩ := what_read this
    rw [e]
  have wr : s.det.what ≠ "read" := fun z => by rw [z] at wr; exact absurd wr (by decide +kernel)
  refine ⟨_, rfl, rfl, _, rfl, ?_⟩
  refine andJ (decide (V.str rule = V.str "narrow") && decide (V.str s.det.what = V.str "fold")) (fun kF => ?_) (fun ea hF => ⟨_, rfl, rfl, _, rfl, sel (fun eb => ?_) fun eb => hF (by rw [ea, eb]; rfl)⟩) (fun ea => by rw [ea]; rfl)
  · have nF : ¬ (rule = "narrow" ∧ s.det.what = "fold") := fun ⟨z1, z2⟩ => by
      rw [z1, z2] at kF
      exact absurd kF (by decide +kernel)
    clear kF
    -- the step below
    have har : s.ins ≠ [] := fun z => by
      have h := js.ar
      rw [z] at h
      cases hd : s.det with
      | read c => rw [hd] at wr; exact wr rfl
      | _ => rw [hd] at h; cases h
    obtain ⟨i0, ir, ei⟩ : ∃ i0 ir, s.ins = i0 :: ir := by
      cases e : s.ins with
      | nil => exact absurd e har
      | cons i0 ir => exact ⟨i0, ir, rfl⟩
    have e0 : s.ins.getD 0 "" = i0 := by rw [ei]; rfl
    have hin : i0 ∈ kn.map (·.1) := J.ins hs (by rw [ei]; exact List.mem_cons_self)
    have hnm : i0 ∈ namesS (as.map (·.2)) := by
      have := (run_names J.run).1
      rw [this] at hin
      simpa using hin
    obtain ⟨p, hp⟩ : ∃ p, namedA as i0 = some p := by
      cases e : namedA as i0 with
      | some p => exact ⟨p, rfl⟩
      | none =>
        obtain ⟨u, hu, eu⟩ := List.mem_map.mp hnm
        obtain ⟨r, hr', rfl⟩ := List.mem_map.mp hu
        exact absurd (decide_eq_true eu) (List.find?_eq_none.mp e r hr')
    have hpm : p ∈ as := List.mem_of_find?_eq_some hp
    have hT : namedS (as.map (·.2)) (s.ins.getD 0 "") = some p.2 := by rw [e0, named_map, hp]; rfl
    have ht : p.2 ∈ as.map (·.2) := List.mem_map.mpr ⟨p, hpm, rfl⟩
    have jt := jall p.2 ht
    have hbl : StpAt H p.1 p.2 := by
      obtain ⟨_, _, _, h3⟩ := J.at_
      exact h3 p hpm
    obtain ⟨bi, bd, b1, b2, b3⟩ := id hbl
    refine ⟨_, rfl, _, rfl, st, _, 2, .ref inp, rfl, rfl, SqT.of x1, rfl, inp, _, 0, .str i0, rfl, rfl, SqT.of x2, by rw [ei]; exact atI_nat (j := 0) rfl, job, as, an, i0, rfl, J.at_, fun p' hp' => ?_, fun z => by rw [hp] at z; cases z⟩
    obtain rfl : p = p' := Option.some.inj (hp.symm.trans hp')
    generalize p.2 = t at hT ht jt hbl b1 b3
    have hbm := fun (mb : List MC) (hdt : t.det = .map mb) (hx : s.ins = [i0]) => below_map (x := i0) J.run (fun u hu => (jall u hu).ar) hs hx (by rw [← e0]; exact hT) hdt
    unfold madeF at q none_of
    -- two filters
    refine ⟨_, rfl, rfl, _, rfl, ?_⟩
    refine andJ (decide (V.str rule = V.str "and") && (decide (V.str s.det.what = V.str "filter") && decide (V.str t.det.what = V.str "filter"))) (fun kF => ?_) (fun ea hF => ⟨_, rfl, rfl, _, rfl, andJ (decide (V.str rule = V.str "and") && (decide (V.str s.det.what = V.str "filter") && decide (V.str t.det.what = V.str "filter"))) hF (fun eb hF => ⟨_, rfl, p.1, _, 1, .str t.det.what, rfl, rfl, SqT.of b1, rfl, rfl, _, rfl, sel (fun ec => ?_) fun ec => hF (by rw [ea, eb, ec]; rfl)⟩) (fun eb => by rw [ea, eb]; rfl)⟩) (fun ea => by rw [ea]; rfl)
    · have nA : ¬ (rule = "and" ∧ s.det.what = "filter" ∧ t.det.what = "filter") := fun ⟨z1, z2, z3⟩ => by
        rw [z1, z2, z3] at kF
        exact absurd kF (by decide +kernel)
      clear kF
      -- two maps
      refine ⟨_, rfl, rfl, _, rfl, ?_⟩
      refine andJ (decide (V.str rule = V.str "maps") && (decide (V.str s.det.what = V.str "map") && decide (V.str t.det.what = V.str "map"))) (fun kF => ?_) (fun ea hF => ⟨_, rfl, rfl, _, rfl, andJ (decide (V.str rule = V.str "maps") && (decide (V.str s.det.what = V.str "map") && decide (V.str t.det.what = V.str "map"))) hF (fun eb hF => ⟨_, rfl, p.1, _, 1, .str t.det.what, rfl, rfl, SqT.of b1, rfl, rfl, _, rfl, sel (fun ec => ?_) fun ec => hF (by rw [ea, eb, ec]; rfl)⟩) (fun eb => by rw [ea, eb]; rfl)⟩) (fun ea => by rw [ea]; rfl)
      · have nM : ¬ (rule = "maps" ∧ s.det.what = "map" ∧ t.det.what = "map") := fun ⟨z1, z2, z3⟩ => by
          rw [z1, z2, z3] at kF
          exact absurd kF (by decide +kernel)
        clear kF
        -- a filter past a step
        refine ⟨_, rfl, rfl, _, rfl, ?_⟩
        refine andJ (decide (V.str s.det.what = V.str "filter") && decide (((pastO rule).map V.str).getD .non = V.str t.det.what)) (fun kF => ?_) (fun ea hF => ⟨_, rfl, rule, (pastO rule).map V.str, rfl, hk rule hrule, _, rfl, p.1, _, 1, .str t.det.what, rfl, rfl, SqT.of b1, rfl, by cases pastO rule <;> rfl, _, rfl, sel (fun eb => ?_) fun eb => hF (by rw [ea, eb]; rfl)⟩) (fun ea => by rw [ea]; rfl)
        · have nP : ∀ v, s.det.what = "filter" → pastO rule = some v → t.det.what ≠ v := fun v z1 z2 z3 => by
            rw [z1, z2, z3] at kF
            rw [show decide (V.str "filter" = V.str "filter") = true from decide_eq_true rfl, show decide (((some v).map V.str).getD .non = V.str v) = true from decide_eq_true rfl] at kF
            cases kF
          refine none_of ?_
          cases hd : s.det with
          | fold ks fs =>
            dsimp only
            rw [if_neg fun z => nF ⟨z, by rw [hd]; rfl⟩]
          | filter e =>
            have hf : s.det.what = "filter" := by rw [hd]; rfl
            dsimp only
            rw [hT]
            dsimp only
            cases hdt : t.det with
            | filter g => exact if_neg fun z => nA ⟨z, hf, by rw [hdt]; rfl⟩
            | map ms => exact if_neg fun z => nP _ hf (by rw [z]; rfl) (by rw [hdt]; rfl)
            | join ms => exact if_neg fun z => nP _ hf (by rw [z]; rfl) (by rw [hdt]; rfl)
            | fold ks fs => exact if_neg fun z => nP _ hf (by rw [z]; rfl) (by rw [hdt]; rfl)
            | union => exact if_neg fun z => nP _ hf (by rw [z]; rfl) (by rw [hdt]; rfl)
            | unlike => exact if_neg fun z => nP _ hf (by rw [z]; rfl) (by rw [hdt]; rfl)
            | _ => rfl
          | map ms =>
            dsimp only
            rw [hT]
            dsimp only
            cases hdt : t.det with
            | map mb => exact if_neg fun z => nM ⟨z, by rw [hd]; rfl, by rw [hdt]; rfl⟩
            | _ => rfl
          | _ => rfl
        · have e2 := eqS ea
          obtain ⟨e, hd⟩ := what_filter e2
          have hin1 : s.ins = [i0] := by
            have h := ins_one (t := s) (by rw [js.ar, hd]; rfl)
            rw [e0] at h
            exact h
          have ep : pastO rule = some t.det.what := by
            have eb := of_decide_eq_true eb
            cases h : pastO rule with
            | none => rw [h] at eb; cases eb
            | some v =>
              rw [h] at eb
              have eb : V.str v = V.str t.det.what := eb
              injection eb with eb
              rw [eb]
          refine ⟨_, rfl, _, rfl, _, rfl, job, st, p.1, as, an, kn, s, t, e, rfl, J, hst, hbl, hs, ht, hd, fun ms hdt => ⟨(hbm ms hdt hin1).1, (hbm ms hdt hin1).2.1 e hd⟩, ?_⟩
          rw [hd] at q
          dsimp only at q
          rw [hT] at q
          dsimp only at q
          unfold pastOf
          rcases pastO_is hrule ep with ⟨z1, z2⟩ | ⟨z1, z2⟩ | ⟨z1, z2⟩ | ⟨z1, z2⟩ | ⟨z1, z2⟩
          · obtain ⟨ms, hdt⟩ := what_map z2
            rw [hdt] at q ⊢
            dsimp only at q ⊢
            rw [if_pos z1] at q
            exact q
          · obtain ⟨ms, hdt⟩ := what_join z2
            rw [hdt] at q ⊢
            dsimp only at q ⊢
            rw [if_pos z1] at q
            exact q
          · obtain ⟨ks, fs, hdt⟩ := what_fold z2
            rw [hdt] at q ⊢
            dsimp only at q ⊢
            rw [if_pos z1] at q
            exact q
          · have hdt := what_union z2
            rw [hdt] at q ⊢
            dsimp only at q ⊢
            rw [if_pos z1] at q
            exact q
          · have hdt := what_unlike z2
            rw [hdt] at q ⊢
            dsimp only at q ⊢
            rw [if_pos z1] at q
            exact q
      · have e1 := eqS ea
        have e2 := eqS eb
        have e3 := eqS ec
        obtain ⟨ms, hd⟩ := what_map e2
        obtain ⟨mb, hdt⟩ := what_map e3
        have hin1 : s.ins = [i0] := by
          have h := ins_one (t := s) (by rw [js.ar, hd]; rfl)
          rw [e0] at h
          exact h
        obtain ⟨n1, _, n3⟩ := hbm mb hdt hin1
        have jd := js.det
        have jdt := jt.det
        rw [hd] at jd
        rw [hdt] at jdt
        rw [hd] at q
        dsimp only at q
        rw [hT] at q
        dsimp only at q
        rw [hdt] at q
        dsimp only at q
        rw [if_pos e1] at q
        exact ⟨_, rfl, _, rfl, st, p.1, s, t, ms, mb, rfl, hst, hbl, hd, hdt, n1, jdt.1, jd.1, fun m hm => ⟨(jd.2 m hm).1.b.2, n3 ms hd m hm⟩, fun L mk H' sm hm e => q.2 _ rfl L mk H' sm hm e⟩
    · have e1 := eqS ea
      have e2 := eqS eb
      have e3 := eqS ec
      obtain ⟨e, hd⟩ := what_filter e2
      obtain ⟨g, hdt⟩ := what_filter e3
      rw [hd] at q
      dsimp only at q
      rw [hT] at q
      dsimp only at q
      rw [hdt] at q
      dsimp only at q
      rw [if_pos e1] at q
      exact ⟨_, rfl, _, rfl, st, p.1, s, t, e, g, rfl, hst, hbl, hd, hdt, fun L mk H' sm hm e => q.2 _ rfl L mk H' sm hm e⟩
  · have e1 := eqS ea
    have e2 := eqS eb
    cases hd : s.det with
    | fold ks fs =>
      unfold madeF at q
      rw [hd] at q
      dsimp only at q
      rw [if_pos e1] at q
      exact ⟨_, rfl, _, rfl, job, st, as, an, kn, s, ks, fs, rfl, J, hst, hs, hd, q⟩
    | _ => rw [hd] at e2; dsimp only [Det.what] at e2; exact absurd e2 (by decide +kernel)
end
end Kx

set_option maxHeartbeats 8000000
namespace Kx
open PySem PySem.Spec PyProof.Rows L2
abbrev s_applied : Stmt := topS 49
section
variable {P : Program} {w : World} {K : PySem.W.Frag} {mg : Str → Option Value} {base : Heap}
def spApplied : Sp := fun vs H Q _ => ∃ (job : Addr) (as : List (Addr × Stp)) (an rule nm : Str) (kn : List (Str × List NC)), vs = [.ref job, .str rule, .str nm] ∧ rule ∈ rulesA ∧ JobOn H job as an kn ∧ Res H an Q (apF (as.map (·.2)) an rule nm)
abbrev N_applied : List Str := ["job", "rule", "name", "step", "made"]
theorem sc_applied : FnScope N_applied ["job", "rule", "name"] (defScope s_applied) := ⟨rfl, rfl, rfl, by decide +kernel, rfl, by decide +kernel, by decide +kernel⟩
theorem ok_applied {f : Addr} {fd : FuncData} {k km ks : Nat} (F : Fun K "applied" "applied" s_applied f fd) (hk1 : 2 ≤ k) (hkm : km ≤ k) (G_named : Ready P w K mg base 1 "step_named" ["job", "name"] spNamed) (G_same : Ready P w K mg base 2 "without_use" ["job", "step"] spSame) (G_drop : Ready P w K mg base 2 "without_step" ["job", "name"] spDrop) (G_made : Ready P w K mg base km "made_of" ["job", "rule", "step"] spMadeOf) (G_place : Ready P w K mg base 1 "in_place" ["job", "name", "made"] spPlace) : FnOk P w K mg base CX0 (k + 1) f fd ["job", "rule", "name"] spApplied := by
  refine F.ok sc_applied (fun vs H Q E h => ?_) (fun cdv A outer s0 H vs Q E hr h => ?_)
  · obtain ⟨job, as, an, rule, nm, kn, rfl, _⟩ := h
    rfl
  obtain ⟨job, as, an, rule, nm, kn, rfl, hrule, J, q⟩ := h
  have nd := sc_applied.nd
  have hrk : Room k _ := hr
  have hrm : Room km _ := hrk.mono hkm
  have hr2 : Room 2 _ := hrk.mono hk1
  have hr1 : Room 1 _ := hr2.mono (by decide)
  refine ⟨_, pss_cons (ps_set (i := 3) nd rfl (.inl rfl) (pe_fn G_named hr1 (pa_cons (pv 0) (pa_cons (pv 2) pa_nil))))
      (pss_cons (ps_if (pt_cmpR op_isN (pv 3) pe_non (nomark _)) (pss_one (ps_ret pe_non)) (pss_nil))
      (pss_cons (ps_if (pt_cmpR op_eq (pv 1) pe_str (nomark _)) (pss_one (ps_ret (pe_fn G_same hr2 (pa_cons (pv 0) (pa_cons (pv 3) pa_nil))))) (pss_nil))
      (pss_cons (ps_if (pt_cmpR op_eq (pv 1) pe_str (nomark _)) (pss_one (ps_ret (pe_fn G_drop hr2 (pa_cons (pv 0) (pa_cons (pv 2) pa_nil))))) (pss_nil))
      (pss_cons (ps_set (i := 4) nd rfl (.inl rfl) (pe_fn G_made hrm (pa_cons (pv 0) (pa_cons (pv 1) (pa_cons (pv 3) pa_nil)))))
      (pss_cons (ps_if (pt_cmpR op_isN (pv 4) pe_non (nomark _)) (pss_one (ps_ret pe_non)) (pss_nil))
      (pss_one (ps_ret (pe_fn G_place hr1 (pa_cons (pv 0) (pa_cons (pv 2) (pa_cons (pv 4) pa_nil))))))))))), ?_⟩
  have jall : ∀ u ∈ as.map (·.2), StpJ Bs u := fun u hu => by
    obtain ⟨p, hp, rfl⟩ := List.mem_map.mp hu
    exact J.all p hp
  have hl := J.len
  unfold apF at q
  rw [named_map, kn_of J.run] at q
  refine ⟨_, rfl, _, rfl, job, as, an, nm, rfl, J.at_, fun p hp => ?_, fun hp => ?_⟩
  · rw [hp] at q
    dsimp only [Option.map] at q
    have hpm : p ∈ as := List.mem_of_find?_eq_some hp
    have hs : p.2 ∈ as.map (·.2) := List.mem_map.mpr ⟨p, hpm, rfl⟩
    have hst : StpAt H p.1 p.2 := by
      obtain ⟨_, _, _, h3⟩ := J.at_
      exact h3 p hpm
    refine ⟨_, rfl, rfl, _, rfl, ?_⟩
    refine ifF' (decide_eq_false fun z => by cases z) ?_
    refine ⟨_, rfl, rfl, _, rfl, sel (fun ea => ?_) fun ea => ?_⟩
    · rw [if_pos (eqS ea)] at q
      exact ⟨_, rfl, _, rfl, job, p.1, as, an, p.2, rfl, J.at_, hst, jall _ hs, J.all, by omega, q⟩
    rw [if_neg (fun z => by rw [z] at ea; exact absurd ea (by decide +kernel))] at q
    refine ⟨_, rfl, rfl, _, rfl, sel (fun eb => ?_) fun eb => ?_⟩
    · rw [if_pos (eqS eb)] at q
      exact ⟨_, rfl, _, rfl, job, as, an, nm, rfl, J.at_, by omega, q⟩
    rw [if_neg (fun z => by rw [z] at eb; exact absurd eb (by decide +kernel))] at q
    refine ⟨_, rfl, _, rfl, _, rfl, job, p.1, as, an, rule, kn, p.2, rfl, hrule, J, hst, hs, fun e H1 s1 => ?_, fun made e L mk H1 s1 hm em => ?_⟩
    · rw [e] at q
      refine ⟨_, rfl, rfl, _, rfl, ?_⟩
      exact ifT' (decide_eq_true rfl) (q.1 rfl H1 s1)
    · rw [e] at q
      obtain ⟨_, m2⟩ := made_J J.run jall hs (by rw [List.length_map]; exact hl) e
      refine ⟨_, rfl, rfl, _, rfl, ?_⟩
      refine ifF' (decide_eq_false fun z => by cases z) ?_
      refine ⟨_, rfl, _, rfl, _, rfl, job, L, as, mk, an, nm, rfl, J.at_.same s1, hm, by omega, by rw [← em, List.length_map] at m2; omega, fun r as' H2 s2 hj ej => ?_⟩
      exact q.2 _ rfl r as' H2 (s1.trans s2) hj (by rw [ej, em])
  · rw [hp] at q
    refine ⟨_, rfl, rfl, _, rfl, ?_⟩
    exact ifT' (decide_eq_true rfl) (q.1 rfl H (Same.refl H))
end
end Kx

set_option maxHeartbeats 8000000
namespace Kx
open PySem PySem.Spec PyProof.Rows L2
abbrev s_exprs : Stmt := topS 53
abbrev s_large_step : Stmt := topS 54
abbrev s_large_job : Stmt := topS 55
/-! ### the rows of an expression's parts -/
theorem next_dep2 : ∀ r : List Ex, mdep r ≤ mdep (nextR r) + 1
  | [] => Nat.zero_le _
  | e :: r => by
    have ih := next_dep2 r
    have h : nextR (e :: r) = e.parts ++ nextR r := by simp [nextR]
    rw [h, mdep_app]
    have := parts_dep e
    show max e.dep (mdep r) ≤ max (mdep e.parts) (mdep (nextR r)) + 1
    rcases this with h | ⟨h, h2⟩ <;> omega
theorem rows_both : ∀ (n : Nat) (r : List Ex), mdep r ≤ n → (rowsL n r).sum = sumS r ∧ (rowsL n r).length = mdep r
  | 0, r, h => by
    cases r with
    | nil => exact ⟨rfl, rfl⟩
    | cons e r =>
      have := e.dep_pos
      have h : max e.dep (mdep r) ≤ 0 := h
      omega
  | n + 1, [], _ => by rw [rows_nil]; exact ⟨rfl, rfl⟩
  | n + 1, e :: r, h => by
    have h1 := next_dep e r
    have h3 := next_dep2 (e :: r)
    obtain ⟨i1, i2⟩ := rows_both n (nextR (e :: r)) (by omega)
    have h2 := next_size (e :: r)
    refine ⟨?_, ?_⟩
    · show ((e :: r).length :: rowsL n (nextR (e :: r))).sum = _
      rw [List.sum_cons, i1]
      omega
    · show (rowsL n (nextR (e :: r))).length + 1 = _
      rw [i2]
      omega
theorem many_is (e : Ex) : (rowsL e.dep [e]).sum = e.size := (rows_both e.dep [e] (by show max e.dep 0 ≤ e.dep; omega)).1
theorem deep_is (e : Ex) : (rowsL e.dep [e]).length = e.dep := ((rows_both e.dep [e] (by show max e.dep 0 ≤ e.dep; omega)).2).trans (by show max e.dep 0 = e.dep; omega)
theorem large_is (e : Ex) : largeE e = (decide (80 < e.size) || decide (40 < e.dep)) := by
  unfold largeE
  rw [many_is, deep_is]
/-! ### expressions_of -/
def exprsS (s : Stp) : List Ex := match s.det with
  | .filter e => [e]
  | .map ms => ms.map (·.1)
  | _ => []
def largeS (s : Stp) : Bool := (exprsS s).any largeE || decide (250 < ((exprsS s).map fun e => e.size + 3).sum)
def largeJ (ss : List Stp) : Bool := decide (150 < ss.length) || ss.any largeS
section
variable {P : Program} {w : World} {K : PySem.W.Frag} {mg : Str → Option Value} {base : Heap}
def spExprs : Sp := fun vs H Q _ => ∃ (st : Addr) (s : Stp), vs = [.ref st] ∧ StpAt H st s ∧ (exprsS s).length ≤ 100 ∧ ∀ (L : Addr) (xs : List V) (H' : Hp), Same H H' → H' L = some (.lst xs) → Paired (ExAt H') xs (exprsS s) → Q (.ref L) H'
abbrev N_exprs : List Str := ["step", "told", "_"]
theorem sc_exprs : FnScope N_exprs ["step"] (defScope s_exprs) := ⟨rfl, rfl, rfl, by decide +kernel, rfl, by decide +kernel, by decide +kernel⟩
theorem ok_exprs {f : Addr} {fd : FuncData} (F : Fun K "expressions_of" "expressions_of" s_exprs f fd) : FnOk P w K mg base CX0 1 f fd ["step"] spExprs := by
  refine F.ok sc_exprs (fun vs H Q E h => ?_) (fun cdv A outer s0 H vs Q E hr h => ?_)
  · obtain ⟨st, s, rfl, _⟩ := h
    rfl
  obtain ⟨st, s, rfl, hst, hl, q⟩ := h
  have nd := sc_exprs.nd
  refine ⟨_, pss_cons (ps_if (pt_cmpR op_eq (pe_ix ix_tup (pv 0) pe_int (fun _ _ => rfl)) pe_str (nomark _)) (pss_one (ps_ret (pe_lst (pa_cons (pe_ix ix_tup (pv 0) pe_int (fun _ _ => rfl)) pa_nil)))) (pss_nil))
      (pss_cons (ps_if (pt_cmpR op_eq (pe_ix ix_tup (pv 0) pe_int (fun _ _ => rfl)) pe_str (nomark _)) (pss_one (ps_ret (pe_lc (own := [("told", 1), ("_", 2)]) (g := (gTup K 2 (gCons (gName 1) (gCons (gName 2) gNil)))) (tt := tYes) (te := tVar 1) rfl nd (pi_tup (pe_ix ix_tup (pv 0) pe_int (fun _ _ => rfl))) (blkOk_by (N := N_exprs) (sc := defScope s_exprs) (by decide +kernel)) (fun _ _ _ _ _ => pg_tup rfl (pgs_cons (pg_name (i := 1) nd rfl (.inl rfl)) (pgs_cons (pg_name (i := 2) nd rfl (.inl rfl)) pgs_nil))) (fun _ _ _ _ _ => pts_nil) (fun _ _ _ _ _ => (pv 1))))) (pss_nil))
      (pss_one (ps_ret (pe_lst pa_nil)))), ?_⟩
  have z0 : 0 ≤ sizeLine := by decide
  have z1 : 1 ≤ sizeLine := by decide
  obtain ⟨inp, dv, x1, x2, x3⟩ := id hst
  unfold exprsS at q hl
  refine ⟨_, rfl, st, _, 1, .str s.det.what, rfl, rfl, SqT.of x1, rfl, rfl, _, rfl, sel (fun ea => ?_) fun ea => ?_⟩
  · obtain ⟨e, hd⟩ := what_filter (eqS ea)
    rw [hd] at q x3
    dsimp only at q
    refine ⟨_, rfl, st, _, 3, dv, rfl, rfl, SqT.of x1, rfl, z1, fun L hL => ?_⟩
    have s1 := same_upd (o := .lst [dv]) hL
    exact q L [dv] _ s1 upd_same (.cons (ExAt.same x3 s1) .nil)
  · have nf : s.det.what ≠ "filter" := fun z => by rw [z] at ea; exact absurd ea (by decide +kernel)
    refine ⟨_, rfl, st, _, 1, .str s.det.what, rfl, rfl, SqT.of x1, rfl, rfl, _, rfl, sel (fun eb => ?_) fun eb => ?_⟩
    · obtain ⟨ms, hd⟩ := what_map (eqS eb)
      rw [hd] at q x3 hl
      dsimp only at q hl
      rw [List.length_map] at hl
      obtain ⟨t, asm, rfl, g1, g2, g3⟩ := x3
      refine ⟨_, rfl, st, _, 3, .ref t, rfl, rfl, SqT.of x1, rfl, t, rfl, ⟨_, SqT.of g1⟩, fun D hD => ?_⟩
      refine lc_tup (K := K) (a := t) (xs := asm.map fun p => .ref p.1) (fun i G => Same H G ∧ ∃ xs, G D = some (.lst xs) ∧ xs.length = (asm.take i).length ∧ Paired (ExAt G) xs ((asm.take i).map fun p => p.2.1)) ⟨same_upd hD, [], upd_same, rfl, .nil⟩ (fun i G _ h => SqT.of (h.1 _ _ g1)) ?_ ?_
      · rintro i x G hx ⟨sm, xs, eD, lx, hp⟩
        rw [List.getElem?_map] at hx
        obtain ⟨p, hpx, rfl⟩ := Option.map_eq_some_iff.mp hx
        obtain ⟨told, w1, w2⟩ := g2 p (List.mem_of_getElem? hpx)
        have la : asm.length ≤ 100 := by rw [← g3, List.length_map] at hl; exact hl
        rw [List.length_take] at lx
        have tk : asm.take (i + 1) = asm.take i ++ [p] := by rw [List.take_add_one, hpx]; rfl
        have back : ∀ (a : Addr) (ys : List V), G a = some (.tup ys) → (upd G D (.lst (xs ++ [told]))) a = some (.tup ys) := fun a ys e => by
          rw [upd_ne (fun z => by rw [z, eD] at e; cases e)]
          exact e
        refine ⟨p.1, _, rfl, SqT.of (sm _ _ w1), rfl, _, _, rfl, _, _, rfl, rfl, rfl, _, rfl, _, eD, Nat.lt_of_le_of_lt (show _ ≤ 100 by omega) (by decide), fun b o ex => ?_, xs ++ [told], upd_same, ?_, ?_⟩
        · rw [upd_ne (ne_of_none ex hD)]
          exact sm _ _ ex
        · rw [tk, List.length_append, List.length_append, List.length_take, lx]
          rfl
        · rw [tk, List.map_append]
          exact paired_app (paired_keep hp back) (.cons (ExAt.keep back (ExAt.same w2 sm)) .nil)
      · rintro G ⟨sm, xs, eD, lx, hp⟩
        rw [List.length_map, List.take_length] at hp
        refine q D xs G sm eD ?_
        rw [← g3, List.map_map]
        exact hp
    · have nm : s.det.what ≠ "map" := fun z => by rw [z] at eb; exact absurd eb (by decide +kernel)
      refine ⟨z0, fun L hL => q L [] _ (same_upd hL) upd_same ?_⟩
      cases hd : s.det with
      | filter e => exact absurd (by rw [hd]; rfl) nf
      | map e => exact absurd (by rw [hd]; rfl) nm
      | _ => exact .nil
end
end Kx

set_option maxHeartbeats 8000000
namespace Kx
open PySem PySem.Spec PyProof.Rows L2
section
variable {P : Program} {w : World} {K : PySem.W.Frag} {mg : Str → Option Value} {base : Heap}
def spLargeStep : Sp := fun vs H Q _ => ∃ (st : Addr) (s : Stp), vs = [.ref st] ∧ StpAt H st s ∧ StpJ Bb s ∧ ∀ H', Same H H' → Q (.bl (largeS s)) H'
abbrev N_lstep : List Str := ["step", "tolds", "told"]
theorem sc_lstep : FnScope N_lstep ["step"] (defScope s_large_step) := ⟨rfl, rfl, rfl, by decide +kernel, rfl, by decide +kernel, by decide +kernel⟩
theorem exprs_J {s : Stp} (js : StpJ Bb s) : (exprsS s).length ≤ 100 ∧ ∀ e ∈ exprsS s, G Bb e := by
  have jd := js.det
  unfold exprsS
  cases hd : s.det with
  | filter e =>
    rw [hd] at jd
    exact ⟨by show 1 ≤ 100; decide, fun x hx => by rw [List.mem_singleton.mp hx]; exact jd⟩
  | map ms =>
    rw [hd] at jd
    refine ⟨by show (ms.map _).length ≤ 100; rw [List.length_map]; exact jd.1, fun x hx => ?_⟩
    obtain ⟨m, hm, rfl⟩ := List.mem_map.mp hx
    exact (jd.2 m hm).1
  | _ => exact ⟨Nat.zero_le _, fun x hx => by cases hx⟩
theorem ok_lstep {f : Addr} {fd : FuncData} (F : Fun K "is_large_step" "is_large_step" s_large_step f fd) (m_any : mg "any" = none) (m_sum : mg "sum" = none) (m_A : ∃ t, mg "MOST_IN_ALL" = some (.int 250 t)) (G_exprs : Ready P w K mg base 1 "expressions_of" ["step"] spExprs) (G_large : Ready P w K mg base 4 "is_large" ["told"] spLarge) (G_many : Ready P w K mg base 3 "how_many" ["told"] spMany) : FnOk P w K mg base CX0 5 f fd ["step"] spLargeStep := by
  refine F.ok sc_lstep (fun vs H Q E h => ?_) (fun cdv A outer s0 H vs Q E hr h => ?_)
  · obtain ⟨st, s, rfl, _⟩ := h
    rfl
  obtain ⟨st, s, rfl, hst, js, q⟩ := h
  obtain ⟨tA, mA⟩ := m_A
  have nd := sc_lstep.nd
  have hr4 : Room 4 _ := hr
  have hr3 : Room 3 _ := hr4.mono (by decide)
  have hr1 : Room 1 _ := hr4.mono (by decide)
  obtain ⟨el, ej⟩ := exprs_J js
  refine ⟨_, pss_cons (ps_set (i := 1) nd rfl (.inl rfl) (pe_fn G_exprs hr1 (pa_cons (pv 0) pa_nil)))
      (pss_one (ps_ret (pe_or (pe_callB (cr_any rfl) (by rfl) m_any PyProof.Rows.boot_any (pa_cons (pe_lc (own := [("told", 2)]) (g := gName 2) (tt := tYes) (te := tCall spLarge [] E0 (tCons (tVar 2) tNil)) rfl nd (pi_list (pv 1)) (blkOk_by (N := N_lstep) (sc := defScope s_large_step) (by decide +kernel)) (fun _ _ _ _ _ => pg_name (i := 2) nd rfl (Or.inl rfl)) (fun _ _ _ _ _ => pts_nil) (fun _ _ _ _ _ => (pe_fn G_large hr4 (pa_cons (pv 2) pa_nil)))) pa_nil)) (pe_one (pe_cmpR op_gt (pe_callB (cr_sum rfl) (by rfl) m_sum boot_sum (pa_cons (pe_lc (own := [("told", 2)]) (g := gName 2) (tt := tYes) (te := tOp rAdd (tCall spMany [] E0 (tCons (tVar 2) tNil)) (tC (.int 3))) rfl nd (pi_list (pv 1)) (blkOk_by (N := N_lstep) (sc := defScope s_large_step) (by decide +kernel)) (fun _ _ _ _ _ => pg_name (i := 2) nd rfl (Or.inl rfl)) (fun _ _ _ _ _ => pts_nil) (fun _ _ _ _ _ => (pe_op op_add (pe_fn G_many hr3 (pa_cons (pv 2) pa_nil)) pe_int))) pa_nil)) (pe_glob (v := .int 250) rfl mA ⟨_, rfl⟩) (nomark _)))))), ?_⟩
  refine ⟨_, rfl, st, s, rfl, hst, el, fun L xs H1 s1 eL hp => ?_⟩
  have lx : xs.length = (exprsS s).length := Paired.length hp
  unfold largeS at q
  generalize exprsS s = es at *
  refine ⟨_, rfl, L, rfl, ⟨_, SqL.of eL⟩, fun D hD => ?_⟩
  refine lc_list (K := K) (a := L) (xs := xs) (fun i G => Same H1 G ∧ G D = some (.lst (((es.map largeE).take i).map V.bl))) ⟨same_upd hD, upd_same⟩ (fun i G _ h => SqL.of (h.1 _ _ eL)) ?_ ?_
  · rintro i x G hx ⟨sm, eD⟩
    obtain ⟨e, he, hxe⟩ := paired_at hp hx
    have tk : (es.map largeE).take (i + 1) = (es.map largeE).take i ++ [largeE e] := by rw [List.take_add_one, List.getElem?_map, he]; rfl
    have hi : i < es.length := (List.getElem?_eq_some_iff.mp he).1
    refine ⟨rfl, _, rfl, x, e, rfl, hxe.same sm, by have := (ej e (List.mem_of_getElem? he)).b.1; omega, fun G2 s2 => ?_⟩
    have eD2 := s2 _ _ eD
    refine ⟨_, eD2, Nat.lt_of_le_of_lt (show _ ≤ 100 by rw [List.length_map, List.length_take, List.length_map]; omega) (by decide), fun b o ex => ?_, ?_⟩
    · rw [upd_ne (ne_of_none ex hD)]
      exact s2 _ _ (sm _ _ ex)
    · rw [tk, List.map_append]
      exact upd_same
  rintro G ⟨sm, eD⟩
  rw [lx, List.take_of_length_le (by rw [List.length_map]; exact Nat.le_refl _)] at eD
  have ea : es.any largeE = (es.map largeE).any id := by rw [List.any_map]; rfl
  refine ⟨D, _, rfl, SqL.of eD, _, rfl, ite2 (fun c => ?_) (fun c => ?_)⟩
  · rw [ea, c, Bool.true_or] at q
    exact c ▸ q _ (s1.trans sm)
  · have c' : (es.map largeE).any id = false := Bool.eq_false_iff.mpr c
    rw [ea, c', Bool.false_or] at q
    have s2 := s1.trans sm
    have eL2 := sm _ _ eL
    refine ⟨_, rfl, L, rfl, ⟨_, SqL.of eL2⟩, fun D2 hD2 => ?_⟩
    refine lc_list (K := K) (a := L) (xs := xs) (fun i Y => Same G Y ∧ Y D2 = some (.lst (((es.map fun e => ((e.size + 3 : Nat) : Int)).take i).map V.int))) ⟨same_upd hD2, upd_same⟩ (fun i Y _ h => SqL.of (h.1 _ _ eL2)) ?_ ?_
    · rintro i x Y hx ⟨smY, eD⟩
      obtain ⟨e, he, hxe⟩ := paired_at hp hx
      have tk : (es.map fun e => ((e.size + 3 : Nat) : Int)).take (i + 1) = (es.map fun e => ((e.size + 3 : Nat) : Int)).take i ++ [((e.size + 3 : Nat) : Int)] := by rw [List.take_add_one, List.getElem?_map, he]; rfl
      have hi : i < es.length := (List.getElem?_eq_some_iff.mp he).1
      refine ⟨rfl, _, rfl, x, e, rfl, hxe.same (sm.trans smY), by have := (ej e (List.mem_of_getElem? he)).b.1; omega, fun G2 s3 => ?_⟩
      rw [many_is]
      have eD2 := s3 _ _ eD
      refine ⟨_, _, rfl, rfl, _, eD2, Nat.lt_of_le_of_lt (show _ ≤ 100 by rw [List.length_map, List.length_take, List.length_map]; omega) (by decide), fun b o ex => ?_, ?_⟩
      · rw [upd_ne (ne_of_none ex hD2)]
        exact s3 _ _ (smY _ _ ex)
      · rw [tk, List.map_append]
        exact upd_same
    rintro Y ⟨smY, eD⟩
    rw [lx, List.take_of_length_le (by rw [List.length_map]; exact Nat.le_refl _)] at eD
    refine ⟨D2, _, rfl, SqL.of eD, _, _, rfl, rfl, ?_⟩
    have e1 : (es.map fun e => ((e.size + 3 : Nat) : Int)).sum = (((es.map fun e => e.size + 3).sum : Nat) : Int) := by
      rw [← sum_cast, List.map_map]
      rfl
    have h := q _ (s2.trans smY)
    rw [e1]
    have e2 : decide ((250 : Int) < (((es.map fun e => e.size + 3).sum : Nat) : Int)) = decide (250 < (es.map fun e => e.size + 3).sum) := decide_eq_decide.mpr (by omega)
    show Q (.bl (decide ((250 : Int) < (((es.map fun e => e.size + 3).sum : Nat) : Int)))) Y
    rw [e2]
    exact h
/-! ### is_large_job -/
def spLargeJob : Sp := fun vs H Q _ => ∃ (job : Addr) (as : List (Addr × Stp)) (an : Str), vs = [.ref job] ∧ JobAt H job as an ∧ (∀ p ∈ as, StpJ Bb p.2) ∧ as.length ≤ 1000 ∧ ∀ H', Same H H' → Q (.bl (largeJ (as.map (·.2)))) H'
theorem sc_ljob : FnScope ["job", "step"] ["job"] (defScope s_large_job) := ⟨rfl, rfl, rfl, by decide +kernel, rfl, by decide +kernel, by decide +kernel⟩
theorem ok_ljob {f : Addr} {fd : FuncData} (F : Fun K "is_large_job" "is_large_job" s_large_job f fd) (m_any : mg "any" = none) (m_len : mg "len" = none) (m_S : ∃ t, mg "MOST_STEPS" = some (.int 150 t)) (G_lstep : Ready P w K mg base 5 "is_large_step" ["step"] spLargeStep) : FnOk P w K mg base CX0 6 f fd ["job"] spLargeJob := by
  refine F.ok sc_ljob (fun vs H Q E h => ?_) (fun cdv A outer s0 H vs Q E hr h => ?_)
  · obtain ⟨job, as, an, rfl, _⟩ := h
    rfl
  obtain ⟨job, as, an, rfl, ⟨st, h1, h2, h3⟩, hj, hl, q⟩ := h
  obtain ⟨tS, mS⟩ := m_S
  have nd := sc_ljob.nd
  have hr5 : Room 5 _ := hr
  refine ⟨_, pss_one (ps_ret (pe_or (pe_cmpR op_gt (pe_callB call_len_seq (by rfl) m_len PySem.boot_len (pa_cons (pe_ix ix_tup (pv 0) pe_int (fun _ _ => rfl)) pa_nil)) (pe_glob (v := .int 150) rfl mS ⟨_, rfl⟩) (nomark _)) (pe_one (pe_callB (cr_any rfl) (by rfl) m_any PyProof.Rows.boot_any (pa_cons (pe_lc (own := [("step", 1)]) (g := gName 1) (tt := tYes) (te := tCall spLargeStep [] E0 (tCons (tVar 1) tNil)) rfl nd (pi_tup (pe_ix ix_tup (pv 0) pe_int (fun _ _ => rfl))) (blkOk_by (N := ["job", "step"]) (sc := defScope s_large_job) (by decide +kernel)) (fun _ _ _ _ _ => pg_name (i := 1) nd rfl (Or.inl rfl)) (fun _ _ _ _ _ => pts_nil) (fun _ _ _ _ _ => (pe_fn G_lstep hr5 (pa_cons (pv 1) pa_nil)))) pa_nil))))), ?_⟩
  unfold largeJ at q
  rw [List.length_map] at q
  have e2 : decide ((150 : Int) < ((as.map fun p => V.ref p.1).length : Nat)) = decide (150 < as.length) := by rw [List.length_map]; exact decide_eq_decide.mpr (by omega)
  refine ⟨_, rfl, job, _, 0, _, rfl, rfl, SqT.of h1, rfl, st, _, rfl, .inr (SqT.of h2), _, _, rfl, rfl, _, rfl, ite2 (fun c => ?_) (fun c => ?_)⟩
  · have c2 : decide (150 < as.length) = true := e2 ▸ c
    rw [c2, Bool.true_or] at q
    exact c ▸ q _ (Same.refl H)
  · have c2 : decide (150 < as.length) = false := Bool.eq_false_iff.mpr (e2 ▸ c)
    rw [c2, Bool.false_or] at q
    refine ⟨_, rfl, job, _, 0, _, rfl, rfl, SqT.of h1, rfl, st, rfl, ⟨_, SqT.of h2⟩, fun D hD => ?_⟩
    refine lc_tup (K := K) (a := st) (xs := as.map fun p => .ref p.1) (fun i G => Same H G ∧ G D = some (.lst ((((as.map (·.2)).map largeS).take i).map V.bl))) ⟨same_upd hD, upd_same⟩ (fun i G _ h => SqT.of (h.1 _ _ h2)) ?_ ?_
    · rintro i x G hx ⟨sm, eD⟩
      rw [List.getElem?_map] at hx
      obtain ⟨p, hp, rfl⟩ := Option.map_eq_some_iff.mp hx
      have pm := List.mem_of_getElem? hp
      have tk : ((as.map (·.2)).map largeS).take (i + 1) = ((as.map (·.2)).map largeS).take i ++ [largeS p.2] := by rw [List.take_add_one, List.getElem?_map, List.getElem?_map, hp]; rfl
      refine ⟨rfl, _, rfl, p.1, p.2, rfl, (h3 p pm).same sm, hj p pm, fun G2 s2 => ?_⟩
      have eD2 := s2 _ _ eD
      refine ⟨_, eD2, Nat.lt_of_le_of_lt (show _ ≤ 1000 by rw [List.length_map, List.length_take, List.length_map, List.length_map]; omega) (by decide), fun b o ex => ?_, ?_⟩
      · rw [upd_ne (ne_of_none ex hD)]
        exact s2 _ _ (sm _ _ ex)
      · rw [tk, List.map_append]
        exact upd_same
    rintro G ⟨sm, eD⟩
    rw [List.length_map, List.take_of_length_le (by rw [List.length_map, List.length_map]; exact Nat.le_refl _)] at eD
    refine ⟨D, _, rfl, SqL.of eD, ?_⟩
    have h := q G sm
    have ea : ∀ l : List Stp, l.any largeS = (l.map largeS).any id := fun l => by rw [List.any_map]; rfl
    rw [ea] at h
    exact h
end
end Kx

set_option maxHeartbeats 8000000
namespace Kx
open PySem PySem.Spec PyProof.Rows L2
abbrev s_is_pair : Stmt := topS 56
abbrev s_made_by : Stmt := topS 57
/-! ### rows of a paper -/
inductive Rw where
  | pair (r n : Str)
  | one (r : Str)
  | lst (r n : Str)
  | non
  | mix (r : Str) (i : Int)
  | int (i : Int)
def Rw.isPair : Rw → Bool
  | .pair _ _ => true
  | _ => false
def RowAt (H : Hp) (v : V) : Rw → Prop
  | .pair r n => ∃ a : Addr, v = .ref a ∧ H a = some (.tup [.str r, .str n])
  | .one r => ∃ a : Addr, v = .ref a ∧ H a = some (.tup [.str r])
  | .lst r n => ∃ a : Addr, v = .ref a ∧ H a = some (.lst [.str r, .str n])
  | .non => v = .non
  | .mix r i => ∃ a : Addr, v = .ref a ∧ H a = some (.tup [.str r, .int i])
  | .int i => v = .int i
theorem RowAt.same {H H' : Hp} {v : V} (s : Same H H') : ∀ {r : Rw}, RowAt H v r → RowAt H' v r
  | .pair _ _, ⟨a, h1, h2⟩ => ⟨a, h1, s _ _ h2⟩
  | .one _, ⟨a, h1, h2⟩ => ⟨a, h1, s _ _ h2⟩
  | .lst _ _, ⟨a, h1, h2⟩ => ⟨a, h1, s _ _ h2⟩
  | .non, h => h
  | .mix _ _, ⟨a, h1, h2⟩ => ⟨a, h1, s _ _ h2⟩
  | .int _, h => h
section
variable {P : Program} {w : World} {K : PySem.W.Frag} {mg : Str → Option Value} {base : Heap}
theorem ty_T {H : Hp} {a : Addr} {xs : List V} (h : H a = some (.tup xs)) : TyX K H (.ref a) (.type "tuple") := .base (.tup h)
theorem ty_L {H : Hp} {a : Addr} {xs : List V} (h : H a = some (.lst xs)) : TyX K H (.ref a) (.type "list") := .base (.lst h)
def spIsPair : Sp := fun vs H Q _ => ∃ (v : V) (rw : Rw), vs = [v] ∧ RowAt H v rw ∧ ∀ H', Same H H' → Q (.bl rw.isPair) H'
theorem sc_ispair : FnScope ["row", "word"] ["row"] (defScope s_is_pair) := ⟨rfl, rfl, rfl, by decide +kernel, rfl, by decide +kernel, by decide +kernel⟩
def isStr : V → Bool
  | .str _ => true
  | _ => false
theorem ok_ispair {f : Addr} {fd : FuncData} (F : Fun K "is_pair" "is_pair" s_is_pair f fd) (m_isinstance : mg "isinstance" = none) (m_tuple : mg "tuple" = none) (m_str : mg "str" = none) (m_len : mg "len" = none) (m_all : mg "all" = none) : FnOk P w K mg base CX0 1 f fd ["row"] spIsPair := by
  refine F.ok sc_ispair (fun vs H Q E h => ?_) (fun cdv A outer s0 H vs Q E hr h => ?_)
  · obtain ⟨v, rw, rfl, _⟩ := h
    rfl
  obtain ⟨v, rw, rfl, hv, q⟩ := h
  have nd := sc_ispair.nd
  refine ⟨_, pss_one (ps_ret (pe_and (pe_callB call_isi (by rfl) m_isinstance PyProof.Rows.boot_isinstance (pa_cons (pv 0) (pa_cons (pe_bltn (v := .ty "tuple") (by rfl) m_tuple PyProof.Rows.boot_tuple rfl) pa_nil))) (pe_and (pe_cmpR op_eq (pe_callB call_len_seq (by rfl) m_len PySem.boot_len (pa_cons (pv 0) pa_nil)) pe_int (nomark _)) (pe_one (pe_callB (cr_all rfl) (by rfl) m_all PyProof.Rows.boot_all (pa_cons (pe_lc (own := [("word", 1)]) (g := gName 1) (tt := tYes) (te := tCB (rIsi K) (tCons (tVar 1) (tCons (tC (.ty "str")) tNil))) rfl nd (pi_tup (pv 0)) (blkOk_by (N := ["row", "word"]) (sc := defScope s_is_pair) (by decide +kernel)) (fun _ _ _ _ _ => pg_name (i := 1) nd rfl (Or.inl rfl)) (fun _ _ _ _ _ => pts_nil) (fun _ _ _ _ _ => (pe_callB call_isi (by rfl) m_isinstance PyProof.Rows.boot_isinstance (pa_cons (pv 1) (pa_cons (pe_bltn (v := .ty "str") (by rfl) m_str PyProof.Rows.boot_str rfl) pa_nil))))) pa_nil)))))), ?_⟩
  have q0 := q H (Same.refl H)
  have cls : (∃ (a : Addr) (x y : V), v = .ref a ∧ H a = some (.tup [x, y]) ∧ (∀ z ∈ [x, y], (∃ t, z = .str t) ∨ ∃ i, z = .int i) ∧ rw.isPair = ([x, y].map isStr).all id) ∨ (∃ (a : Addr) (r : Str), v = .ref a ∧ H a = some (.tup [.str r]) ∧ rw.isPair = false) ∨ (∃ (a : Addr) (xs : List V), v = .ref a ∧ H a = some (.lst xs) ∧ rw.isPair = false) ∨ (v = .non ∧ rw.isPair = false) ∨ ∃ i, v = .int i ∧ rw.isPair = false := by
    cases rw with
    | pair r n =>
      obtain ⟨a, h1, h2⟩ := hv
      exact .inl ⟨a, _, _, h1, h2, fun z hz => by rcases List.mem_cons.mp hz with rfl | hz; exact .inl ⟨_, rfl⟩; rw [List.mem_singleton.mp hz]; exact .inl ⟨_, rfl⟩, rfl⟩
    | mix r i =>
      obtain ⟨a, h1, h2⟩ := hv
      exact .inl ⟨a, _, _, h1, h2, fun z hz => by rcases List.mem_cons.mp hz with rfl | hz; exact .inl ⟨_, rfl⟩; rw [List.mem_singleton.mp hz]; exact .inr ⟨_, rfl⟩, rfl⟩
    | one r =>
      obtain ⟨a, h1, h2⟩ := hv
      exact .inr (.inl ⟨a, r, h1, h2, rfl⟩)
    | lst r n =>
      obtain ⟨a, h1, h2⟩ := hv
      exact .inr (.inr (.inl ⟨a, _, h1, h2, rfl⟩))
    | non => exact .inr (.inr (.inr (.inl ⟨hv, rfl⟩)))
    | int i => exact .inr (.inr (.inr (.inr ⟨i, hv, rfl⟩)))
  rcases cls with ⟨a, x, y, rfl, ha, hxy, er⟩ | ⟨a, r, rfl, h2, er⟩ | ⟨a, xs, rfl, h2, er⟩ | ⟨rfl, er⟩ | ⟨i, rfl, er⟩
  · refine ⟨_, rfl, _, _, _, _, true, rfl, .ty _, ty_T ha, kit_ty (by decide +kernel : kitB "tuple" "tuple" = some true), _, rfl, ?_⟩
    refine ifT' rfl ⟨_, rfl, a, _, rfl, .inr (SqT.of ha), rfl, _, rfl, ?_⟩
    refine ifT' (decide_eq_true rfl) ⟨_, rfl, a, rfl, ⟨_, SqT.of ha⟩, fun D hD => ?_⟩
    refine lc_tup (K := K) (a := a) (xs := [x, y]) (fun i G => Same H G ∧ G D = some (.lst ((([x, y].map isStr).take i).map V.bl))) ⟨same_upd hD, upd_same⟩ (fun i G _ h => SqT.of (h.1 _ _ ha)) ?_ ?_
    · rintro i z G hx ⟨sm, eD⟩
      have hz := hxy z (List.mem_of_getElem? hx)
      have hi : i < 2 := (List.getElem?_eq_some_iff.mp hx).1
      have tk : ([x, y].map isStr).take (i + 1) = ([x, y].map isStr).take i ++ [isStr z] := by rw [List.take_add_one, List.getElem?_map, hx]; rfl
      have fin : ∃ acc, G D = some (.lst acc) ∧ acc.length < sizeLine ∧ Same H (upd G D (.lst (acc ++ [V.bl (isStr z)]))) ∧ upd G D (.lst (acc ++ [V.bl (isStr z)])) D = some (.lst ((([x, y].map isStr).take (i + 1)).map V.bl)) := by
        refine ⟨_, eD, Nat.lt_of_le_of_lt (show _ ≤ 2 by rw [List.length_map, List.length_take]; omega) (by decide), fun b o ex => ?_, ?_⟩
        · rw [upd_ne (ne_of_none ex hD)]
          exact sm _ _ ex
        · rw [tk, List.map_append]
          exact upd_same
      rcases hz with ⟨t, rfl⟩ | ⟨i', rfl⟩
      · exact ⟨rfl, _, rfl, _, _, _, _, true, rfl, .ty _, .base (.str t), kit_ty (by decide +kernel : kitB "str" "str" = some true), fin⟩
      · exact ⟨rfl, _, rfl, _, _, _, _, false, rfl, .ty _, .base (.int i'), kit_ty (by decide +kernel : kitB "int" "str" = some false), fin⟩
    · rintro G ⟨sm, eD⟩
      refine ⟨D, _, rfl, SqL.of eD, ?_⟩
      have := q G sm
      rw [er] at this
      exact this
  · rw [er] at q0
    refine ⟨_, rfl, _, _, _, _, true, rfl, .ty _, ty_T h2, kit_ty (by decide +kernel : kitB "tuple" "tuple" = some true), _, rfl, ?_⟩
    refine ifT' rfl ⟨_, rfl, a, _, rfl, .inr (SqT.of h2), rfl, _, rfl, ?_⟩
    exact ifF' rfl q0
  · rw [er] at q0
    exact ⟨_, rfl, _, _, _, _, false, rfl, .ty _, ty_L h2, kit_ty (by decide +kernel : kitB "list" "tuple" = some false), _, rfl, ifF' rfl q0⟩
  · rw [er] at q0
    exact ⟨_, rfl, _, _, _, _, false, rfl, .ty _, .base .non, kit_ty (by decide +kernel : kitB "NoneType" "tuple" = some false), _, rfl, ifF' rfl q0⟩
  · rw [er] at q0
    exact ⟨_, rfl, _, _, _, _, false, rfl, .ty _, .base (.int i), kit_ty (by decide +kernel : kitB "int" "tuple" = some false), _, rfl, ifF' rfl q0⟩
end
end Kx

set_option maxHeartbeats 8000000
namespace Kx
open PySem PySem.Spec PyProof.Rows L2
theorem JG.on {H : Hp} {job : Addr} {as : List (Addr × Stp)} {an : Str} {n : Nat} (g : JG (as.map (·.2)) an n) (hn : n ≤ 50) (h : JobAt H job as an) : ∃ kn, JobOn H job as an kn := by
  obtain ⟨kn, h1, h2⟩ := g.typed
  have hl := g.len
  rw [List.length_map] at hl
  exact ⟨kn, h, fun p hp => g.steps p.2 (List.mem_map.mpr ⟨p, hp, rfl⟩), by omega, h1, h2⟩
/-- the job that a row makes -/
def byF (ss : List Stp) (an : Str) : Rw → Option (List Stp)
  | .pair r n => (apF ss an r n).bind fun ss' => if largeJ ss' = true then none else some ss'
  | _ => none
theorem byF_pair {ss : List Stp} {an r x : Str} : byF ss an (.pair r x) = (apF ss an r x).bind fun ss' => if largeJ ss' = true then none else some ss' := rfl
section
variable {P : Program} {w : World} {K : PySem.W.Frag} {mg : Str → Option Value} {base : Heap}
def spMadeBy : Sp := fun vs H Q _ => ∃ (job : Addr) (v : V) (as : List (Addr × Stp)) (an : Str) (n : Nat) (rw : Rw), vs = [.ref job, v] ∧ JG (as.map (·.2)) an n ∧ n ≤ 45 ∧ JobAt H job as an ∧ RowAt H v rw ∧ (∀ r x, rw = .pair r x → r ∈ rulesA) ∧ Res H an Q (byF (as.map (·.2)) an rw)
abbrev N_made_by : List Str := ["job", "row", "made"]
theorem sc_madeby : FnScope N_made_by ["job", "row"] (defScope s_made_by) := ⟨rfl, rfl, rfl, by decide +kernel, rfl, by decide +kernel, by decide +kernel⟩
theorem ok_madeby {f : Addr} {fd : FuncData} {k ka : Nat} (F : Fun K "made_by" "made_by" s_made_by f fd) (hk : 6 ≤ k) (hka : ka ≤ k) (G_pair : Ready P w K mg base 1 "is_pair" ["row"] spIsPair) (G_applied : Ready P w K mg base ka "applied" ["job", "rule", "name"] spApplied) (G_large : Ready P w K mg base 6 "is_large_job" ["job"] spLargeJob) : FnOk P w K mg base CX0 (k + 1) f fd ["job", "row"] spMadeBy := by
  refine F.ok sc_madeby (fun vs H Q E h => ?_) (fun cdv A outer s0 H vs Q E hr h => ?_)
  · obtain ⟨job, v, as, an, n, rw, rfl, _⟩ := h
    rfl
  obtain ⟨job, v, as, an, n, rw, rfl, g, hn, hj, hv, hrule, q⟩ := h
  have nd := sc_madeby.nd
  have hrk : Room k _ := hr
  have hra : Room ka _ := hrk.mono hka
  have hr6 : Room 6 _ := hrk.mono hk
  have hr1 : Room 1 _ := hr6.mono (by decide)
  refine ⟨_, pss_cons (ps_if (pt_not (pt_val (pe_fn G_pair hr1 (pa_cons (pv 1) pa_nil)))) (pss_one (ps_ret pe_non)) (pss_nil))
      (pss_cons (ps_set (i := 2) nd rfl (.inl rfl) (pe_fn G_applied hra (pa_cons (pv 0) (pa_cons (pe_ix ix_tup (pv 1) pe_int (fun _ _ => rfl)) (pa_cons (pe_ix ix_tup (pv 1) pe_int (fun _ _ => rfl)) pa_nil)))))
      (pss_cons (ps_if (PW.pt (pw_or (pt_cmpR op_isN (pv 2) pe_non (nomark _)) (pw_or1 (pt_val (pe_fn G_large hr6 (pa_cons (pv 2) pa_nil)))))) (pss_one (ps_ret pe_non)) (pss_nil))
      (pss_one (ps_ret (pv 2))))), ?_⟩
  refine ⟨_, rfl, v, rw, rfl, hv, fun H1 s1 => ⟨_, rfl, ?_⟩⟩
  cases rw with
  | pair r x =>
    obtain ⟨a, rfl, ha⟩ := hv
    refine ifF' rfl ?_
    have ha1 := s1 _ _ ha
    have hj1 := hj.same s1
    obtain ⟨kn, J⟩ := g.on (by omega) hj1
    refine ⟨_, rfl, _, rfl, a, _, 0, .str r, rfl, rfl, SqT.of ha1, rfl, _, rfl, a, _, 1, .str x, rfl, rfl, SqT.of ha1, rfl, job, as, an, r, x, kn, rfl, hrule r x rfl, J, fun e H2 s2 => ?_, fun ss' e r2 as' H2 s2 hj2 ej => ?_⟩
    · refine ⟨_, rfl, rfl, _, rfl, ?_⟩
      exact ifT' (decide_eq_true rfl) (q.1 (by rw [byF_pair, e]; rfl) H2 (s1.trans s2))
    · have B := ap_ok g hn e
      refine ⟨_, rfl, rfl, _, rfl, ?_⟩
      refine ifF' (decide_eq_false fun z => by cases z) ?_
      refine ⟨_, rfl, r2, as', an, rfl, hj2, fun p hp => B.steps p.2 (by rw [← ej]; exact List.mem_map.mpr ⟨p, hp, rfl⟩), by have := B.len; rw [← ej, List.length_map] at this; omega, fun H3 s3 => ⟨_, rfl, sel (fun c => ?_) fun c => ?_⟩⟩
      · exact q.1 (by rw [byF_pair, e]; show (if largeJ ss' = true then none else some ss') = none; rw [← ej, if_pos c]) H3 ((s1.trans s2).trans s3)
      · refine ⟨_, rfl, q.2 ss' ?_ r2 as' H3 ((s1.trans s2).trans s3) (hj2.same s3) ej⟩
        rw [byF_pair, e]
        show (if largeJ ss' = true then none else some ss') = some ss'
        rw [← ej, c, if_neg Bool.false_ne_true]
  | _ => exact ifT' rfl (q.1 rfl H1 s1)
end
end Kx

namespace PySem
namespace BadP
open PySem.W PySem.Calls PyProof.Rows PySem.HandSPX
/-! ### self.at = v on an exception that has no dict yet -/
abbrev exT : List Value := [.type "Exception", .type "BaseException", .type "object"]
section
open Builtin Builtin.ObjectAttr
variable {prog : Program} {w : World} {A : Around} {R : Result → Shared → Prop} {hp : Heap} {g : Array GenState} {d : Drawn} {t : Nat} {os : OsState}
theorem osa_first {K : Frag} {name : Str} {tk : Tok} {v : Value} {x C : Addr} {fv : Array Value} {cd : ClassData} {bm : List Value}
    (X : K.In hp) (ho : hp.get? x = some { cls := .ref C, data := .fields fv }) (hc : clsIn K C = some cd) (ht : excTail exT bm = true) (hm : cd.mro = .ref C :: bm) (hh : cd.hasDict = true) (hn : findIn K (.ref C) name = some none)
    (q : ∀ h' tk' dx, (∀ b o, b ≠ x → hp.get? b = some o → h'.get? b = some o) → hp.objs.size ≤ dx → dx ≠ x → h'.get? x = some { cls := .ref C, dict := some dx, data := .fields fv } → h'.Ns1 dx (fun y => if y = name then some v else none) → R (.ok (.ret .none)) ⟨h', g, d, tk', os⟩) :
    codeAny (model prog w) A (.call (.builtin "object.__setattr__") ⟨[.ref x, .str name tk, v], []⟩) R ⟨hp, g, d, t, os⟩ := by
  have over : excOver K C exT = true := by
    unfold excOver
    rw [hc]
    show (match cd.mro with | .ref C' :: bm => C' == C && excTail exT bm | _ => false) = true
    rw [hm]
    show (C == C && excTail exT bm) = true
    rw [ht, beq_self_eq_true] <;> rfl
  have free : takerIn K C name = some none := by
    unfold takerIn
    rw [hn] <;> rfl
  have apart : hp.objs.size ≠ x := fun z => absurd (Heap.lt_size ho) (by rw [z]; exact Nat.lt_irrefl _)
  refine osa_openX (s := ⟨hp, g, d, t, os⟩) F.store_Exception X (ox := { cls := .ref C, data := .fields fv }) (od := none) ⟨ho, rfl, rfl, trivial⟩ over free fun b => ?_
  have look : Looks (model prog w) hp (classData C) cd := looks_clsIn X hc
  obtain ⟨c1, c2, c3, c4, c5, c6, c7, c8, c9, c10, c11⟩ := cd
  dsimp only at hh
  subst hh
  show wpAny _ _ (storeInOwnDict (.ref x) (.ref C) (.str name tk) name v b) _ _ _
  unfold storeInOwnDict ownDictForStores
  repeat (first | with_reducible refine look.at ?_ | with_reducible refine wpAny_loadPart_at ho ?_ | with_reducible refine store_in_new ?_ ?_ | wp_step)
  · exact ⟨_, #[], _, (Heap.get?_update_ne _ _ _ _ apart).trans (Heap.get?_push_at rfl rfl), rfl, (by intro e he; simp at he), (fun _ => rfl)⟩
  intro h2 tk2 n2 sb
  have mid : (hp.push { cls := .type "dict", data := .dict #[] }).get? x = some { cls := .ref C, data := .fields fv } := Heap.get?_push_of_some _ ho
  refine q h2 tk2 _ (fun c o hc e => ?_) (Nat.le_refl _) apart ((sb.2 x apart.symm).trans (Heap.get?_update_self _ mid rfl)) n2
  have far : c ≠ hp.objs.size := fun z => absurd (Heap.lt_size e) (by rw [z]; exact Nat.lt_irrefl _)
  rw [sb.2 c far, Heap.get?_update_ne _ _ _ _ hc]
  exact Heap.get?_push_of_some _ e
end
/-! ### the text of __init__ -/
def iA (p1 p2 : Pos) : Arguments := { posonlyargs := [], args := [{ arg := "self", annotation := none, pos := p1 }, { arg := "at", annotation := none, pos := p2 }], vararg := none, kwonlyargs := [], kw_defaults := [], kwarg := none, defaults := [] }
def iB (q1 q2 q3 q4 : Pos) : List Stmt := [.Assign [.Attribute (.Name "self" q1) "at" q2] (.Name "at" q3) q4]
def iS : Scope := { kind := .function, names := [(PySem.Str.ofString "self", .local), (PySem.Str.ofString "at", .local)], isGenerator := false, isCoroutine := false, more := [] }
/-- what the written part says of BadPaper, at C, and of its __init__, at fI -/
structure BadTxt (K : Frag) (mg : Str → Option Value) (C fI : Addr) : Prop where
  gC : mg "BadPaper" = some (.ref C)
  cls : ∃ nm q N bs bm sn sub ab col dd k0 k1 k2 k3 k5, K.lookup C = some (excClassObj nm q C N bs bm true sn sub ab col dd k0 k1 k2 k3 k5 "Exception.__new__") ∧ excTail exT bm = true
  sa : findIn K (.ref C) "__setattr__" = some (some (.builtin "object.__setattr__"))
  ga : findIn K (.ref C) "__getattribute__" = some (some (.builtin "BaseException.__getattribute__"))
  gg : findIn K (.ref C) "__getattr__" = some none
  noN : findIn K (.ref C) "at" = some none
  iC : findIn K (.ref C) "__init__" = some (some (.ref fI))
  tC : typeIn K (.ref fI) = some (.type "function")
  kC : keepIn K (.ref C) = true
  exC : subIn K (.ref C) (.type "BaseException") = some true
  tyC : typeIn K (.ref C) = some (.type "type")
  hdC : hasDictIn K C = true
  te : exmOne K (.ref C) (.ref C) = some true
  fn : ∃ (oc : Value) (od : Option Addr) (doc pm : Value) (an : Option Addr) (cdv ct : Value) (osl : Array (Option Value)) (p1 p2 q1 q2 q3 q4 : Pos),
    K.lookup fI = some ⟨oc, od, .func (fnOf "__init__" "BadPaper.__init__" (iA p1 p2) (iB q1 q2 q3 q4) iS .none .none doc pm an cdv ct), osl⟩ ∧ codeIn K cdv "BadPaper.__init__" = true
theorem one_size (v : Value) : [v].length ≤ sizeLine := by
  rw [sizeLine_eq]
  exact (by decide : 1 ≤ 16777216)
theorem kept_but {K : Frag} {h h' : Heap} {x : Addr} (X : K.In h) (hx : K.lookup x = none) (k : ∀ b o, b ≠ x → h.get? b = some o → h'.get? b = some o) : K.In h' := fun a o e =>
  k a o (fun z => by rw [z, hx] at e; cases e) (X a o e)
theorem ldC {M : Model} {s : Shared} {name : Str} {scope : Scope} {L a : Addr} {cd : Value} {m : Str → Option Value} {x : Str} {pos : Pos} {v : Value} {Q : Value → Shared → Prop} {A : Around} {E : Value → Shared → Prop} (hn : s.heap.Ns L m) (hv : m x = some v) (h : Q v s)
    (hk : scope.kind = .function := by rfl) (hl : (envOfC name scope L a cd).kindOf x = some .local := by rfl) (hd : (x == ("__debug__" : Str)) = false := by decide) :
    wpAny M A (eval (.Name x pos) (envOfC name scope L a cd)) Q E s := wpAny_Name (wpAny_loadName_local hk hl hn hv h) hd
/-- what __init__ leaves of a fresh exception at x -/
structure InitEnd (h h' : Heap) (x C dx t1 : Addr) (v : Value) : Prop where
  keep : ∀ b o, b ≠ x → h.get? b = some o → h'.get? b = some o
  obj : h'.get? x = some { cls := .ref C, dict := some dx, data := .fields #[.ref t1, .none, .none, .none, .bool false, .none] }
  dbig : h.objs.size ≤ dx
  dne : dx ≠ x
  ns : h'.Ns1 dx (fun y => if y = "at" then some v else none)
/-- a made BadPaper -/
structure OwnMade (h h' : Heap) (e C d : Addr) (v : Value) : Prop where
  keep : ∀ b o, h.get? b = some o → h'.get? b = some o
  new : h.objs.size ≤ e
  obj : ∃ oe vs, h'.get? e = some oe ∧ oe.cls = .ref C ∧ oe.dict = some d ∧ oe.data = .fields vs ∧ vs[1]? = some .none
  dbig : h.objs.size ≤ d
  dne : d ≠ e
  ns : h'.Ns1 d (fun y => if y = "at" then some v else none)
section
variable {prog : Program} {w : World} {A : Around} {E : Value → Shared → Prop} {R : Result → Shared → Prop} {s : Shared} {K : Frag} {mg : Str → Option Value} {C fI : Addr}
theorem bad_init (T : BadTxt K mg C fI) {x t0 : Addr} {v : Value} (X : K.In s.heap) (hlim : s.heap.NoLimit) (hx : s.heap.get? x = some (excO C t0)) (hnx : K.lookup x = none) (hroom : A.depth < recursionLimit)
    (hq : ∀ h' tk dx, InitEnd s.heap h' x C dx t0 v → R (.ok (.ret .none)) { s with heap := h', toks := tk }) :
    codeAny (model prog w) A (.call (.ref fI) ⟨[.ref x, v], []⟩) R s := by
  obtain ⟨oc, od, doc, pm, an, cdv, ct, osl, p1, p2, q1, q2, q3, q4, ho, hcd⟩ := T.fn
  obtain ⟨nm, q, N, bs, bm, sn, sub, ab, col, dd, k0, k1, k2, k3, k5, hC, hbm⟩ := T.cls
  have hcl : clsIn K C = some { name := nm, bases := bs, mro := .ref C :: bm, ns := N, qualname := q, hasDict := true, slotNames := sn, subclasses := sub, abstract := ab, collection := col, hasDel := false } := by unfold clsIn; rw [hC] <;> rfl
  refine Att.call_fn (binds := [("self", .ref x), ("at", v)]) X hlim ho hcd hroom (BindsTo.of_eq (by first | rfl | with_unfolding_all rfl)) (by first | rfl | decide | with_unfolding_all rfl) (fun s₁ IC => ?_) rfl rfl rfl
  obtain ⟨h₁, tk₁, rfl⟩ := IC.toInCall.same
  have k : ∀ b o, s.heap.get? b = some o → h₁.get? b = some o := IC.toInCall.keep
  have hn := IC.toInCall.ns
  have hxL : s.heap.objs.size ≠ x := Nat.ne_of_gt (Heap.lt_size hx)
  have X₁ : K.In h₁ := X.keeps k
  have hx₁ := k _ _ hx
  -- self.by = by
  show wpAny _ _ (execs _ _) _ _ _
  refine wpAny_execs_cons (plainObj_wpAny_Assign_Attribute ?_)
  refine ldC (v := v) hn (by first | rfl | with_unfolding_all rfl | kernel_rfl) (ldC (v := .ref x) hn (by first | rfl | with_unfolding_all rfl | kernel_rfl) ?_)
  refine set_plain X₁ (ox := excO C t0) (od := none) ⟨hx₁, rfl, rfl, trivial⟩ T.sa ?_
  refine osa_first X₁ hx₁ hcl (show excTail exT bm = true from hbm) rfl rfl T.noN (fun h₃ tk₃ dx k₃ dn dne hx₃ hn₃ => ?_)
  show wpAny _ _ (execs _ _) _ _ _
  have z : s.heap.objs.size < h₁.objs.size := hn.lt
  exact wpAny_execs_nil (hq h₃ tk₃ dx ⟨fun b o hb e => k₃ b o hb (k b o e), hx₃, Nat.le_of_lt (Nat.lt_of_lt_of_le z dn), dne, hn₃⟩)
theorem bad_made (T : BadTxt K mg C fI) {v : Value} (X : K.In s.heap) (hlim : s.heap.NoLimit) (hroom : A.depth + 1 < recursionLimit)
    (hq : ∀ h' tk e d, OwnMade s.heap h' e C d v → R (.ok (.ret (.ref e))) { s with heap := h', toks := tk }) :
    codeAny (model prog w) A (.call (.ref C) ⟨[v], []⟩) R s := by
  obtain ⟨nm, q, N, bs, bm, sn, sub, ab, col, dd, k0, k1, k2, k3, k5, hC, hbm⟩ := T.cls
  obtain ⟨hp, g, dr, tk, os⟩ := s
  have k : ∀ b o, hp.get? b = some o → ((hp.push (kdv_tup [v])).push (excO C hp.objs.size)).get? b = some o := fun b o e => Heap.get?_push_of_some _ (Heap.get?_push_of_some _ e)
  have hget : ((hp.push (kdv_tup [v])).push (excO C hp.objs.size)).get? (hp.objs.size + 1) = some (excO C hp.objs.size) := by heap_get
  have hnx : K.lookup (hp.objs.size + 1) = none := by
    cases e : K.lookup (hp.objs.size + 1) with
    | none => rfl
    | some o =>
      have z : hp.get? (hp.objs.size + 1) = some o := X _ _ e
      exact absurd (Nat.lt_of_succ_lt (Heap.lt_size z)) (Nat.lt_irrefl _)
  refine call_own F.excBase_Exception (fun X => excTail_contains X bm hbm) (X _ _ hC) (looks_findIn X T.iC) (fun self => bind_fn X self T.tC) (one_size v) ?_
  refine bad_init (s := ⟨(hp.push (kdv_tup [v])).push (excO C hp.objs.size), g, dr, tk, os⟩) T (X.keeps k) (hlim.keeps k) hget hnx ?_ fun h' tk' dx ⟨k', hx, dn, dne, hns⟩ => ?_
  · show A.depth + 1 < recursionLimit
    exact hroom
  · have old : ∀ b o, hp.get? b = some o → h'.get? b = some o := fun b o e => k' b o (Nat.ne_of_lt (Nat.lt_succ_of_lt (Heap.lt_size e))) (k b o e)
    have z : hp.objs.size + 1 + 1 ≤ dx := by
      first
        | (simpa only [Heap.size_push] using dn)
        | exact dn
        | (have q := dn; rw [Heap.size_push, Heap.size_push] at q; exact q)
    exact ⟨rfl, hq h' tk' (hp.objs.size + 1) dx ⟨old, Nat.le_succ _, ⟨_, _, hx, rfl, rfl, rfl, rfl⟩, Nat.le_trans (Nat.le_trans (Nat.le_succ _) (Nat.le_succ _)) z, dne, hns⟩⟩
end
end BadP
end PySem
namespace Kx
open PySem PySem.Spec PyProof.Rows L2
theorem relO_badP {v : V} {v' : Value} (r : RelV v v') (f : Str) : RelO (List.lookup f [(("at" : Str), v)]) (if f = "at" then some v' else none) := by
  by_cases hw : f = "at"
  · subst hw
    rw [if_pos rfl]
    have q : List.lookup ("at" : Str) [(("at" : Str), v)] = some v := by simp [List.lookup]
    rw [q]
    exact r
  · rw [if_neg hw]
    have qw : (f == ("at" : Str)) = false := by simpa using hw
    have q2 : List.lookup f [(("at" : Str), v)] = none := by simp [List.lookup, qw]
    rw [q2]
    trivial
section
variable {X : Cx} {C fI : Addr}
/-- BadPaper(e) -/
def tMkBadP (C : Addr) (ta : TA) : L2.St → Hp → XK → Prop := fun σ H Q => ta σ H fun vs H1 => ∃ v, vs = [v] ∧ ∀ d, H1 d = none → Q (.ref C) (some d) (upd H1 d (.xd [(("at" : Str), v)]))
theorem pmk_badP {a : Expr} {ta : TA} {p pos : Pos} {k : Nat} (T : PySem.BadP.BadTxt X.K X.mg C fI) (hr : Room k X.A) (ha : PA X [a] ta) (hg : Gl X "BadPaper" := by rfl)
    (he : starEach (a :: []) X.env = (false, eval a X.env) :: starEach [] X.env := by rfl) (hpl : (backTo pos (starEach [] X.env)).any (·.1) = false := by rfl) :
    PMk X (.Call (.Name "BadPaper" p) [a] [] pos) (tMkBadP C ta) := by
  intro pins s σ H Q I h
  refine wpAny_Call_Name_kw (ld_glob I hg T.gC ?_)
  refine PySem.W.callWith_K (h₀ := X.base) I.ok.mod.kin T.kC (thn (ha.run pos pins s σ H _ I h) fun us s1 hh => ?_) he hpl
  obtain ⟨vs, H1, I1, r1, v, ev, q1⟩ := hh
  subst ev
  refine ⟨I1.kIn, ?_⟩
  cases r1 with
  | cons rv rn =>
    rename_i v' us'
    cases rn
    show wpAny _ _ (call (.ref C) [v']) _ _ _
    have hlim := I1.nolimit
    obtain ⟨hp, g, dr, tk, os⟩ := s1
    refine wpAny_call (PySem.BadP.bad_made T I1.kIn hlim (by have := hr.dp; omega) fun h' tk' e d M => ?_)
    show MkP X pins σ Q (.ref e) ⟨h', g, dr, tk', os⟩
    obtain ⟨oe, fv, hoe, hc, hd, hdat, h1⟩ := M.obj
    have hns := M.ns
    obtain ⟨G', g1, g2⟩ := restrict h' fun b => decide (b ≠ e)
    have gk : ∀ b, b ≠ e → G'.get? b = h'.get? b := fun b hb => g1 b (decide_eq_true hb)
    have ge : G'.get? e = none := g2 e (by simp)
    have old : ∀ b o, hp.get? b = some o → G'.get? b = some o := fun b o q => (gk b (Nat.ne_of_lt (Nat.lt_of_lt_of_le (Heap.lt_size q) M.new))).trans (M.keep b o q)
    have ob : ObjOk X.prog X.w (upd H1 d (.xd [(("at" : Str), v)])) G' d (.xd [(("at" : Str), v)]) :=
      ⟨_, hns.at (fun o q => (gk d M.dne).trans q), fun f => relO_badP rv f⟩
    have J : Inv X pins σ (upd H1 d (.xd [(("at" : Str), v)])) ⟨G', g, dr, tk', os⟩ := I1.laid (t' := tk') old M.dbig ob
    refine ⟨e, oe, fv, ⟨G', g, dr, tk', os⟩, _, .ref C, some d, rfl, J, fun b o q => ?_, ge, hoe, ⟨hc, hd⟩, hdat, h1, ?_, rfl, I1.bare, raises_own T.exC T.tyC, q1 d (I1.hok.fresh M.dbig)⟩
    · by_cases hb : b = e
      · have q' : G'.get? b = some o := q
        rw [hb, ge] at q'; cases q'
      · exact (gk b hb).symm.trans q
    · rw [upd_ne (Ne.symm M.dne)]
      exact I1.hok.fresh M.new
/-- raise BadPaper(e) -/
def tRaiseBadP (C : Addr) (W : WX) (ta : TA) : TS := fun _ σ H => tMkBadP C ta σ H fun cls d H' => W cls d σ H'
theorem ps_raiseBadP {a : Expr} {ta : TA} {W : WX} {p pos pos2 : Pos} {k : Nat} (hc : X.calm = true) (T : PySem.BadP.BadTxt X.K X.mg C fI) (hr : Room k X.A) (tk : Takes X W) (ha : PA X [a] ta) (hg : Gl X "BadPaper" := by rfl)
    (he : starEach (a :: []) X.env = (false, eval a X.env) :: starEach [] X.env := by rfl) (hpl : (backTo pos (starEach [] X.env)).any (·.1) = false := by rfl) :
    PS X (.Raise (some (.Call (.Name "BadPaper" p) [a] [] pos)) none pos2) (tRaiseBadP C W ta) := ps_raise hc tk (pmk_badP T hr ha hg he hpl)
/-- error.at, low the exception that the suite holds (at a; its class cls, its dict d) -/
def tByBadP (C : Addr) (a : Addr) (cls : Value) (d : Option Addr) (te : TE) : TE := fun σ H Q => te σ H fun x H1 => x = .ref a ∧ cls = .ref C ∧ ∃ (dd : Addr) (v : V), d = some dd ∧ H1 dd = some (.xd [(("at" : Str), v)]) ∧ Q v H1
theorem pe_byBadP {a : Addr} {oe : Obj} {cls : Value} {d : Option Addr} {pn : List (Addr × Obj)} {e : Expr} {te : TE} {pos : Pos} (T : PySem.BadP.BadTxt X.K X.mg C fI) (hz : Zc cls d oe) (hf : ∃ vs, oe.data = .fields vs) (he : PE (X.suite a ((a, oe) :: pn)) e te)
    (hb : attributeBase e "at" X.env (eval e X.env) = eval e X.env := by rfl) :
    PE (X.suite a ((a, oe) :: pn)) (.Attribute e "at" pos) (tByBadP C a cls d te) := by
  refine ⟨fun pins s σ H Q I h => ?_⟩
  refine attr_of hb (thn (he.run pins s σ H _ I h) fun u s1 hh => ?_)
  obtain ⟨x, H1, I1, rx, ex, ec, dd, v, ed, ea, q⟩ := hh
  subst ex
  obtain rfl : u = Value.ref a := rx
  subst ec
  subst ed
  obtain ⟨ha, _⟩ := I1.pin (a, oe) (List.mem_append_left _ List.mem_cons_self)
  obtain ⟨vs, hd⟩ := hf
  have hx : ObjOk X.prog X.w H1 s1.heap dd (.xd [(("at" : Str), v)]) := I1.hok dd _ ea
  obtain ⟨mA, hns, hr⟩ := hx
  obtain ⟨od, ho, hl⟩ := lookIn_ns hns
  have l : List.lookup ("at" : Str) [(("at" : Str), v)] = some v := by simp [List.lookup]
  obtain ⟨u, hu, ru⟩ := RelO.some_of (v := v) (o := mA "at") (by rw [← l]; exact hr "at")
  have J : PySem.W.InstAt s1.heap a oe C (some od) := ⟨ha, hz.1, by unfold PySem.W.notCls; rw [hd] <;> rfl, by rw [hz.2]; exact ho⟩
  exact HandSPX.exc_get I1.kIn J T.ga T.gg T.exC (PySem.W.findObj_own T.hdC T.noN rfl (by rw [hl, hu])) (handed_of ru) ⟨v, H1, I1.tok _, ru, q⟩
end
end Kx


namespace Dk
open PySem PySem.Spec PyProof.Rows L2 PySem.W
/-! ### enumerate(tuple) -/
theorem enum_new {v : Value} {o : Obj} {H : Heap → Prop} (B : Begins v o H) :
    Meets (Builtin.«enumerate.__new__» ⟨[.type "enumerate", v], []⟩) (fun _ R s => H s.heap ∧ R (.ok (.ret (.ref (s.heap.push o).objs.size))) { s with heap := (s.heap.push o).push { cls := .type "enumerate", data := .fields #[.none, .bool false, .ref s.heap.objs.size, rawInt 0, .none, .none] } }) :=
  .of_wp fun prog w A R s h => by
    obtain ⟨hp, g, d, tk, os⟩ := s
    obtain ⟨hH, h⟩ := h
    have sub := sub_enumerate
    have begun : ∀ {A' : Around} {E Q : Value → Shared → Prop}, Q (.ref hp.objs.size) ⟨hp.push o, g, d, tk, os⟩ → wpAny (model prog w) A' (pyIter v) Q E ⟨hp, g, d, tk, os⟩ := fun q => B.iter prog w _ _ ⟨hp, g, d, tk, os⟩ _ hH q
    wp_walk using begun
    refine wpAny_stack_any fun st => wpAny_pure ?_
    split
    · rename_i c _ _ _ _ _
      cases (c == Value.type "enumerate") <;> (wp_walk using begun; exact ⟨_, rfl, h⟩)
    · wp_walk using begun
      exact ⟨_, rfl, h⟩
section
variable {prog : Program} {w : World} {A : Around} {E : Value → Shared → Prop} {s : Shared}
theorem call_enumT {t : Addr} {items : Array Value} {Q : Value → Shared → Prop} (hT : s.heap.IsTuple t items)
    (q : ∀ h', IsEnum h' (s.heap.objs.size + 1) s.heap.objs.size 0 .none → h'.IsTupleIter s.heap.objs.size t 0 → (∀ b o, s.heap.get? b = some o → h'.get? b = some o) → Q (.ref (s.heap.objs.size + 1)) { s with heap := h' }) :
    wpAny (model prog w) A (call (.type "enumerate") [.ref t]) Q E s := by
  refine callType_new F.called_enumerate (by decide) (F.typeCall_enumerate_1 _) (F.newCall_enumerate_1 _) (fun obj => F.args_object_init_2 obj _) F.entry_enumerate_new (enum_new (begins_tuple t items)) ⟨hT, ?_⟩
  have one : (s.heap.push { cls := .type "tuple_iterator", data := .fields #[.ref t, .int 0 0] }).objs.size = s.heap.objs.size + 1 := Heap.size_push ..
  show _ ∧ _
  have en := Heap.get?_push_size (s.heap.push { cls := .type "tuple_iterator", data := .fields #[.ref t, .int 0 0] }) (o := { cls := .type "enumerate", data := .fields #[.none, .bool false, .ref s.heap.objs.size, rawInt 0, .none, .none] }) rfl
  rw [one] at en ⊢
  exact ⟨⟨_, en, rfl⟩, q _ en ⟨_, Heap.get?_push_of_some _ (Heap.get?_push_size _ rfl), rfl, rfl⟩ fun b o e => Heap.get?_push_of_some _ (Heap.get?_push_of_some _ e)⟩
end
/-- the tuple at a, each item in a new pair with its place -/
def IteT (K : PySem.W.Frag) (a : Addr) : It :=
  ⟨fun i H => ∃ (xs : List V) (x : V), SqT K H a xs ∧ xs[i]? = some x, fun i H v H' => ∃ T x, v = .ref T ∧ H T = none ∧ H' = upd H T (.tup [.int (i : Nat), x]) ∧ ∀ xs, SqT K H a xs → xs[i]? = some x, fun i H => ∃ xs : List V, SqT K H a xs ∧ xs.length = i⟩
theorem two_of {b e it : Addr} (h : b ∈ [e, it]) : b = e ∨ b = it := by simpa using h
theorem turn_enumT {P : Program} {w : World} {K : PySem.W.Frag} {elts : List Expr} {kk : Nat} {tpos : Pos} (a e it : Addr) :
    Turn P w K (.Tuple elts kk tpos) (IteT K a) [e, it] e (fun i h => (∃ old, IsEnum h e it ((i : Nat) : Int) old) ∧ h.IsTupleIter it a i ∧ e ≠ it ∧ a ≠ it ∧ e ≠ a) where
  mem := List.mem_cons_self
  obj := by
    rintro i h ⟨⟨old, he⟩, ⟨o, ho, hc, hd⟩, _⟩ b hb
    rcases two_of hb with rfl | rfl
    · exact ⟨_, he, fun v q => nomatch q⟩
    · exact ⟨o, ho, fun v q => by rw [hd] at q; cases q⟩
  keep := by
    rintro i h h' ⟨⟨old, he⟩, hi, r⟩ k
    exact ⟨⟨old, k e List.mem_cons_self _ he⟩, hi.at fun o q => k it (List.mem_cons_of_mem _ List.mem_cons_self) o q, r⟩
  item := by
    intro X hP hw hK hc i pins s σ H E I hf st hg
    subst hP hw hK
    obtain ⟨⟨old, he⟩, hit, hne, hai, hea⟩ := st
    obtain ⟨xs, x, hq, hx⟩ := hg
    obtain ⟨its, rv, p, hz⟩ := I.tuple hq
    obtain ⟨u, hu, ru⟩ := rv.get hx
    have under : ∀ b ∈ [e, it], b < s.heap.objs.size := fun b hb => by
      rcases two_of hb with rfl | rfl
      · exact Heap.lt_size he
      · obtain ⟨_, q, _⟩ := hit
        exact Heap.lt_size q
    have hlt : i < its.toArray.size := by
      have := (List.getElem?_eq_some_iff.mp hu).1
      simpa using this
    have hef : e ∉ [it, a] := fun z => (two_of z).elim hne hea
    have D := Draws.tuple (prog := X.prog) (w := X.w) (A := X.A.in1) (I.ok.hd hc) it a hai its.toArray
    refine wpAny_pyNext_enum_itemD D he ⟨hit, p⟩ hlt hne hef fun y h' tk hy out st' hT hsz hk => ?_
    have hyu : y = u := by
      have e1 : its.toArray[i]? = some u := by simpa using hu
      exact Option.some.inj (hy.symm.trans e1)
    subst hyu
    refine ⟨_, rfl, wpAny_letOwnedTupleGo_enum (s := { s with heap := h', toks := tk + 1 }) out fun h2 he2 sb => ?_⟩
    have hT2 : h2.get? s.heap.objs.size = some { cls := .type "tuple", data := .seq #[.int i tk, y] } := (sb.2 _ (Nat.ne_of_gt (under e List.mem_cons_self))).trans hT
    have I1 : Inv X pins σ (upd H s.heap.objs.size (.tup [.int (i : Nat), x])) { s with heap := h2, toks := tk + 1 } :=
      I.turnedNew (ch := [e, it]) (fun b ob hb q => (sb.2 b (fun z => hb (by simp [z]))).trans (hk b ob (fun z => hb (by simp [z])) (fun z => hb (by simp [z])) q)) hf (Nat.le_refl _)
        ⟨by show 2 ≤ sizeLine; decide, [.int i tk, y], .cons ⟨_, rfl⟩ (.cons ru .nil), ⟨_, hT2, rfl, _, rfl⟩⟩
    refine ⟨.ref s.heap.objs.size, _, I1, rfl, ⟨_, x, rfl, I.hok.fresh (Nat.le_refl _), rfl, fun ys hy => by rw [I.tuple_inj hy hq]; exact hx⟩, ⟨⟨y, ?_⟩, st'.1.at fun o q => (sb.2 it (Ne.symm hne)).trans q, hne, hai, hea⟩, fun b hb => ?_⟩
    · rw [show ((i + 1 : Nat) : Int) = (i : Int) + 1 by omega]
      exact he2
    · rw [upd_ne (Nat.ne_of_lt (under b hb))]
      exact (hf b hb).1
  done := by
    intro X hP hw hK hc i pins s σ H E I hf st hg
    subst hP hw hK
    obtain ⟨⟨old, he⟩, hit, hne, hai, hea⟩ := st
    obtain ⟨xs, hq, hx⟩ := hg
    obtain ⟨its, rv, p, hz⟩ := I.tuple hq
    obtain ⟨f0, f1, f2, f3, f4, f5⟩ := hf it (List.mem_cons_of_mem _ List.mem_cons_self)
    have len : i = its.toArray.size := by
      rw [← hx, rv.length]
      simp
    have D := Draws.tuple (prog := X.prog) (w := X.w) (A := X.A.in1) (I.ok.hd hc) it a hai its.toArray
    have st2 : s.heap.IsTupleIter it a its.toArray.size ∧ s.heap.IsTuple a its.toArray := ⟨len ▸ hit, p⟩
    exact wpAny_pyNext_enum_endD D he st2 fun h' eb => ⟨rfl, I.turned (t' := s.toks) (fun b o hb q => eb b o hb q) f0 f1 f3 f4 f5⟩
  self := fun A i s Q E st h => let ⟨⟨_, he⟩, _⟩ := st; wpAny_pyIter_enum he h
/-- enumerate(e), e a tuple -/
def iEnumT (K : PySem.W.Frag) (ta : TA) : TI := fun σ H R => ta σ H fun vs H1 => ∃ a xs, vs = [.ref a] ∧ SqT K H1 a xs ∧ R (IteT K a) H1
theorem pi_enumT {X : Cx} {e : Expr} {ta : TA} {p pos tpos : Pos} {elts : List Expr} {kk : Nat} (hg : Gl X "enumerate") (hm : X.mg "enumerate" = none) (ha : PA X [e] ta) (hs : starEach [e] X.env = [(false, eval e X.env)] := by rfl) :
    PI X (.Tuple elts kk tpos) (.Call (.Name "enumerate" p) [e] [] pos) (iEnumT X.K ta) := by
  constructor
  intro pins s σ H R I h
  refine Call_ (ld_blt I hg hm boot_enumerate (PyProof.Rows.callWith_type1 (thn (ha.run pos pins s σ H _ I h) fun us s1 hh => ?_) hs rfl))
  obtain ⟨vs, H1, I1, r1, a, xs, rfl, hq, q⟩ := hh
  rw [Vals.ref1 r1]
  obtain ⟨its, rv, p', hz⟩ := I1.tuple hq
  have old : a < s1.heap.objs.size := by
    obtain ⟨o, ho, _⟩ := id p'
    exact Heap.lt_size ho
  refine call_enumT (show s1.heap.IsTuple a its.toArray from p') fun h' he hit hk => wpAny_pyIter_enum he ?_
  refine ⟨_, [s1.heap.objs.size + 1, s1.heap.objs.size], _, _, H1, rfl, I1.kept (t' := s1.toks) hk, turn_enumT a _ s1.heap.objs.size, ⟨⟨.none, he⟩, hit, Nat.succ_ne_self _, Nat.ne_of_lt old, Nat.ne_of_gt (Nat.lt_succ_of_lt old)⟩, fun b hb => ?_, q⟩
  have hle : s1.heap.objs.size ≤ b := by
    rcases two_of hb with rfl | rfl
    · exact Nat.le_succ _
    · exact Nat.le_refl _
  exact I1.fpOk hle (I1.hok.fresh hle)
theorem walk_enumT {K : PySem.W.Frag} {a : Addr} {xs : List V} : Walk (IteT K a) xs.length (fun H => SqT K H a xs) (YPair (fun i => some (.int (i : Nat))) (fun i => xs[i]?)) := by
  refine ⟨fun i _ hi q => ⟨xs, xs[i], q, by simp [hi]⟩, fun _ q => ⟨xs, q, rfl⟩, fun i H v H' _ q y => ?_⟩
  obtain ⟨T, x, h1, h2, h3, h4⟩ := y
  exact ⟨T, .int (i : Nat), x, h1, h2, h3, rfl, h4 xs q⟩
end Dk

set_option maxHeartbeats 8000000
namespace Kx
open PySem PySem.Spec PyProof.Rows L2
abbrev s_judged : Stmt := topS 58
theorem small_ex {e : Ex} (g : G Bb e) (h : largeE e = false) : G Bs e := by
  rw [large_is, Bool.or_eq_false_iff] at h
  have h1 := of_decide_eq_false h.1
  have h2 := of_decide_eq_false h.2
  exact ⟨g.ops, g.lay, by omega, by omega⟩
theorem any_false {α : Type} {p : α → Bool} {l : List α} (h : l.any p = false) {x : α} (hx : x ∈ l) : p x = false := by
  cases e : p x with
  | false => rfl
  | true => rw [List.any_eq_true.mpr ⟨x, hx, e⟩] at h; cases h
theorem JB.good {ss : List Stp} {an : Str} {m : Nat} (b : JB ss an m) (h : largeJ ss = false) : JG ss an m := by
  refine ⟨b.typed, fun s hs => ?_, b.len, b.sa⟩
  have g := b.steps s hs
  unfold largeJ at h
  rw [Bool.or_eq_false_iff] at h
  have hl := any_false h.2 hs
  unfold largeS at hl
  rw [Bool.or_eq_false_iff] at hl
  have he := fun e (h : e ∈ exprsS s) => any_false hl.1 h
  refine ⟨?_, g.nm, g.ar, g.sn, g.si⟩
  have gd := g.det
  unfold exprsS at he
  cases hd : s.det with
  | filter e =>
    rw [hd] at gd he
    exact small_ex gd (he e List.mem_cons_self)
  | map ms =>
    rw [hd] at gd he
    exact ⟨gd.1, fun m hm => ⟨small_ex (gd.2 m hm).1 (he m.1 (List.mem_map.mpr ⟨m, hm, rfl⟩)), (gd.2 m hm).2⟩⟩
  | _ => rw [hd] at gd; exact gd
theorem by_good {ss ss' : List Stp} {an : Str} {n : Nat} (g : JG ss an n) (hn : n ≤ 45) {r : Rw} (h : byF ss an r = some ss') : JG ss' an (n + 2) := by
  cases r with
  | pair r x =>
    rw [byF_pair] at h
    cases e : apF ss an r x with
    | none => rw [e] at h; cases h
    | some s2 =>
      rw [e] at h
      have h : (if largeJ s2 = true then none else some s2) = some ss' := h
      cases c : largeJ s2 with
      | true => rw [c] at h; cases h
      | false =>
        rw [c] at h
        cases h
        exact (ap_ok g hn e).good c
  | _ => cases h
/-- the job that the rows make, or the place of the first wrong one -/
def judgeF (an : Str) : Nat → List Rw → List Stp → Except Nat (List Stp)
  | _, [], ss => .ok ss
  | i, r :: rs, ss => match byF ss an r with
    | none => .error i
    | some ss' => judgeF an (i + 1) rs ss'
section
variable {P : Program} {w : World} {K : PySem.W.Frag} {mg : Str → Option Value} {base : Heap}
def spJudged (CP : Addr) : Sp := fun vs H Q E => ∃ (job paper : Addr) (as : List (Addr × Stp)) (an : Str) (n : Nat) (rvs : List V) (rows : List Rw), vs = [.ref job, .ref paper] ∧ JG (as.map (·.2)) an n ∧ n + 2 * rows.length ≤ 47 ∧ JobAt H job as an ∧ H paper = some (.tup rvs) ∧ rvs.length = rows.length ∧ (∀ (i : Nat) (v : V) (r : Rw), rvs[i]? = some v → rows[i]? = some r → RowAt H v r) ∧ (∀ a x, Rw.pair a x ∈ rows → a ∈ rulesA) ∧
  (∀ k, judgeF an 0 rows (as.map (·.2)) = .error k → ∀ d H', Same H H' → H' d = none → E (.ref CP) (some d) (upd H' d (.xd [(("at" : Str), .int (k : Nat))]))) ∧
  ∀ ss', judgeF an 0 rows (as.map (·.2)) = .ok ss' → ∀ (r : Addr) (as' : List (Addr × Stp)) (H' : Hp), Same H H' → JobAt H' r as' an → as'.map (·.2) = ss' → Q (.ref r) H'
abbrev N_judged : List Str := ["job", "paper", "at", "row", "made"]
theorem sc_judged : FnScope N_judged ["job", "paper"] (defScope s_judged) := ⟨rfl, rfl, rfl, by decide +kernel, rfl, by decide +kernel, by decide +kernel⟩
theorem ok_judged {f C CP fI : Addr} {fd : FuncData} {k kc km : Nat} (F : Fun K "judged" "judged" s_judged f fd) (T : PySem.BadP.BadTxt K mg CP fI) (hk1 : 1 ≤ k) (hkc : kc ≤ k) (hkm : km ≤ k) (m_enumerate : mg "enumerate" = none) (G_cols : ReadyX P w K mg base kc "columns_of" ["job"] (spColsJ K C)) (G_by : Ready P w K mg base km "made_by" ["job", "row"] spMadeBy) : FnOk P w K mg base (L2.CX P w) (k + 1) f fd ["job", "paper"] (spJudged CP) := by
  refine F.okX sc_judged (fun vs H Q E h => ?_) (fun cdv A outer s0 H vs Q E hr h => ?_)
  · obtain ⟨job, paper, as, an, n, rvs, rows, rfl, _⟩ := h
    rfl
  obtain ⟨job, paper, as, an, n, rvs, rows, rfl, g, hn, hj, hp, hl, hrow, hrule, qe, qq⟩ := h
  have nd := sc_judged.nd
  have hrk : Room k _ := hr
  have hrc : Room kc _ := hrk.mono hkc
  have hrm : Room km _ := hrk.mono hkm
  have hr1 : Room 1 _ := hrk.mono hk1
  refine ⟨_, pss_cons (ps_expr (pe_fnN G_cols hrc (pa_cons (pv 0) pa_nil)))
      (pss_cons (ps_for (passes_of rfl) rfl (Dk.pi_enumT rfl m_enumerate (pa_cons (pv 1) pa_nil)) (pg_tup rfl (pgs_cons (pg_name (i := 2) nd rfl (.inl rfl)) (pgs_cons (pg_name (i := 3) nd rfl (.inl rfl)) pgs_nil))) (pss_cons (ps_set (i := 4) nd rfl (.inl rfl) (pe_fn G_by hrm (pa_cons (pv 0) (pa_cons (pv 3) pa_nil))))
      (pss_cons (ps_if (pt_cmpR op_isN (pv 4) pe_non (nomark _)) (pss_one (ps_raiseBadP rfl T hr1 (takes_of rfl rfl rfl rfl) (pa_cons (pv 2) pa_nil))) (pss_nil))
      (pss_one (ps_set (i := 0) nd rfl (.inl rfl) (pv 4))))))
      (pss_one (ps_ret (pv 0)))), ?_⟩
  obtain ⟨kn, J⟩ := g.on (by omega) hj
  refine ⟨_, rfl, ?_⟩
  unfold tNil
  dsimp only [List.append_nil]
  apply cols_call (K := K) (C := C) J.at_ J.all (by have := J.len; omega) J.run J.ans
  intro T0 tg H1 s1 _ _ _
  refine ⟨_, rfl, paper, _, rfl, SqT.of (s1 _ _ hp), ?_⟩
  refine for_it (Dk.walk_enumT (K := K) (a := paper) (xs := rvs)) (fun i σ G => ∃ (jb : Addr) (as' : List (Addr × Stp)) (y2 y3 y4 : Option V), σ = [some (.ref jb), some (.ref paper), y2, y3, y4] ∧ Same H G ∧ JobAt G jb as' an ∧ JG (as'.map (·.2)) an (n + 2 * i) ∧ judgeF an i (rows.drop i) (as'.map (·.2)) = judgeF an 0 rows (as.map (·.2))) ⟨job, as, _, _, _, rfl, s1, hj.same s1, g, rfl⟩ (fun i σ G _ ⟨_, _, _, _, _, _, sm, _⟩ => SqT.of (sm _ _ hp)) ?_ ?_
  · rintro i v σ G G' hi ⟨jb, as', y2, y3, y4, rfl, sm, hj', g', ej⟩ ⟨Z, x1, x2, rfl, nZ, rfl, e1, e2⟩
    replace e1 : some (V.int (i : Nat)) = some x1 := e1
    replace e2 : rvs[i]? = some x2 := e2
    cases e1
    have hir : i < rows.length := by rw [← hl]; exact (List.getElem?_eq_some_iff.mp e2).1
    have er : rows[i]? = some rows[i] := List.getElem?_eq_getElem hir
    have hv := hrow i x2 _ e2 er
    generalize hrw : rows[i] = rw at er hv
    have hmem : rw ∈ rows := List.mem_of_getElem? er
    have dr : rows.drop i = rw :: rows.drop (i + 1) := by rw [← hrw]; exact List.drop_eq_getElem_cons hir
    rw [dr] at ej
    have u1 := same_upd (o := .tup [.int (i : Nat), x2]) nZ
    have sU := sm.trans u1
    refine ⟨Z, _, rfl, SqT.of upd_same, rfl, _, _, rfl, _, _, rfl, rfl, ?_⟩
    refine ⟨_, rfl, _, rfl, jb, x2, as', an, n + 2 * i, rw, rfl, g', by omega, hj'.same u1, hv.same sU, fun a x e => hrule a x (e ▸ hmem), fun e H2 s2 => ?_, fun ss' e r as2 H2 s2 hj2 ej2 => ?_⟩
    · refine ⟨_, rfl, rfl, _, rfl, ifT' (decide_eq_true rfl) ?_⟩
      have ee : judgeF an 0 rows (as.map (·.2)) = .error i := by
        rw [← ej]
        show (match byF (as'.map (·.2)) an rw with | none => _ | some ss' => _) = _
        rw [e]
      exact ⟨_, rfl, _, rfl, fun d nd' => qe i ee d H2 (sU.trans s2) nd'⟩
    · refine ⟨_, rfl, rfl, _, rfl, ifF' (decide_eq_false fun z => by cases z) ?_⟩
      refine ⟨_, rfl, r, as2, _, _, _, rfl, sU.trans s2, hj2, ?_, ?_⟩
      · rw [ej2]
        have := by_good g' (by omega) e
        rw [show n + 2 * (i + 1) = n + 2 * i + 2 by omega]
        exact this
      · rw [← ej, ej2]
        show _ = (match byF (as'.map (·.2)) an rw with | none => _ | some ss' => _)
        rw [e]
  · rintro σ G ⟨jb, as', y2, y3, y4, rfl, sm, hj', g', ej⟩
    rw [hl, List.drop_length] at ej
    exact ⟨_, rfl, qq _ ej.symm jb as' G sm hj' rfl⟩
end
end Kx

namespace Kx
open PySem PySem.Spec PyProof.Rows L2
/-! ### try: .. except C as n: .. else: .., every error of the body being C's -/
/-- behind the suite the name is gone -/
def bare (D : Ends) (i : Nat) : Ends := { nx := fun τ G => D.nx (τ.set i none) G, rt := D.rt, bk := fun τ G => D.bk (τ.set i none) G, ct := fun τ G => D.ct (τ.set i none) G }
def wAll (K : PySem.W.Frag) (c : Value) (i : Nat) (ts : Addr → Value → Option Addr → TS) (D : Ends) : WX := fun cls d σ H => PySem.W.exmOne K cls c = some true ∧ ∀ a, H a = none → ts a cls d (bare D i) (σ.set i (some (.ref a))) H
section
variable {X : Cx} {x n : Str} {c : Value} {i : Nat} {body suite orelse : List Stmt} {b₀ : Stmt} {np pos pos' : Pos} {tb : WX → TS} {ts : Addr → Value → Option Addr → TS} {u : TS}
/-- an object of an exception is no frame's -/
theorem no_frame {B h : Heap} {l : List Env} {a : Addr} {o : Obj} {vs : Array Value} (F : h.FunFrames B l) (e : h.get? a = some o) (k : o.data = .fields vs) : a ∉ frs l := fun m => by
  obtain ⟨_, o2, e2, no⟩ := F.mem m
  rw [e] at e2
  cases e2
  exact no _ k
theorem ps_try_asE (ho : PSs X orelse u) (hst : X.stack = X.env :: X.outer) (hfl : X.env.frame = some X.env.locals) (hnd : X.N.Nodup) (hix : X.N[i]? = some n) (hlc : X.env.kindOf n = some .local) (hnm : Names X x c)
    (hbd : ∀ (W : WX) (pn : List (Addr × Obj)) (xe : Value → Shared → Prop), Takes (X.tr pn xe) W → PassesOwn (model X.prog X.w) X.A X.env xe → PSs (X.tr pn xe) body (tb W))
    (hsu : ∀ (a : Addr) (oe : Obj) (cls : Value) (d : Option Addr) (pn : List (Addr × Obj)), Zc cls d oe → (∃ vs, oe.data = .fields vs) → PSs (X.suite a ((a, oe) :: pn)) (b₀ :: suite) (ts a cls d)) :
    PS X (.Try body [.ExceptHandler (some (.Name x np)) (some n) (b₀ :: suite) pos'] orelse [] pos) (fun D σ H => tb (wAll X.K c i ts D) { D with nx := u D } σ H) := by
  constructor
  intro pins s σ H D I h
  have okX := I.ok
  have frames : X.A.frames = some (X.env :: X.outer) := okX.frames.trans (congrArg some hst)
  -- what is done with an error of the body
  let land : Value → Shared → Prop := fun e t1 => wpAny (model X.prog X.w) X.A (noteFrame e X.env) (fun _ t2 => wpAny (model X.prog X.w) X.A (setFlight e none) (fun _ t3 =>
    wpAny (model X.prog X.w) X.A (handleBy e X.env [.ExceptHandler (some (.Name x np)) (some n) (b₀ :: suite) pos']) (SP X pins D) X.xe t3) X.xe t2) X.xe t1
  have caught : Takes (X.tr (X.pn ++ pins) land) (wAll X.K c i ts D) := by
    rintro e t ⟨a, B, sI, ps, τ, G, cls, d, rfl, J0, nb, up, sky, na, os, ag, isC, go⟩
    have J := J0.ofTry okX
    have sky2 : Sky B (X.env :: X.outer) a (Zc cls d) X.env.locals t.heap := hst ▸ sky
    refine Sky.land Zc.steady frames hfl sky2 fun g1 f1 u1 => ?_
    have J1 : Inv X pins τ G { t with heap := g1 } := J.landed nb f1.1 (up.trans u1) os ag
    obtain ⟨o1, v1, e1, z1', d1⟩ := f1.there
    have far := no_frame f1.2.2.1 e1 d1
    have farL : a ≠ X.env.locals := fun z => far (List.mem_filterMap.mpr ⟨X.env, List.mem_cons_self, hfl.trans (congrArg some z.symm)⟩)
    have farF : a ∉ X.fs := fun m => by
      obtain ⟨y, hy, k⟩ := List.mem_filterMap.mp m
      exact far (List.mem_filterMap.mpr ⟨y, List.mem_cons_of_mem _ hy, k⟩)
    have S1 := J1.suite e1 d1 na farL farF
    have kind : PySem.W.Looks (model X.prog X.w) g1 (typeOf (.ref a)) cls := fun A Q E t' k q => wpAny_typeOf_ref (k _ _ e1) (z1'.1 ▸ q)
    have named : ∀ {Q E : Value → Shared → Prop}, Q c { t with heap := g1 } → wpAny (model X.prog X.w) (X.A.mark (some (.ref a))) (eval (.Name x np) X.env) Q E { t with heap := g1 } := fun {Q E} q => by
      rcases hnm with ⟨gl, nod, own | ⟨non, bt, nn⟩⟩
      · exact ld_glob (X := X.suite a ((a, o1) :: (X.pn ++ pins))) S1 gl own q nod
      · exact ld_blt (X := X.suite a ((a, o1) :: (X.pn ++ pins))) S1 gl non bt q nn nod
    refine wpAny_handleBy_cons (codeAny_handlers_test (named ((PySem.W.exm_one (M := model X.prog X.w) J1.kIn kind isC).here ?_))) (by intro z; cases z)
    refine codeAny_handlers_suite_as (HandSPX.lands_againZ f1 fun g2 f2 u2 => ?_)
    have J2 : Inv X pins τ G { t with heap := g2 } := J.landed nb f2.1 ((up.trans u1).trans u2) os ag
    obtain ⟨o2, v2, e2, z2', d2⟩ := f2.there
    refine store_ok (X := X.suite a ((a, o2) :: (X.pn ++ pins))) (v := .ref a) (J2.suite e2 d2 na farL farF) hnd hix (.inl hlc) rfl (fun t5 I5 => ?_) (.inr hlc)
    refine wpAny_mono ((hsu a o2 cls d (X.pn ++ pins) z2' ⟨_, d2⟩).run [] t5 _ G _ I5 (go a na)) (fun fl t6 r => ?_) fun _ _ z => z.elim
    have drop : ∀ {τ6 : L2.St} {G6 : Hp} {Q : Shared → Prop}, Inv (X.suite a ((a, o2) :: (X.pn ++ pins))) [] τ6 G6 t6 → (∀ t7, Inv X pins (τ6.set i none) G6 t7 → Q t7) →
        wpAny (model X.prog X.w) X.A (do bindName X.env n .none; unbindBehindTheSuite X.env n pos') (fun _ t7 => Q t7) X.xe t6 := fun k q => gone_ok (k.unsuite okX) hnd hix hlc q
    rcases fl with _ | _ | _ | v
    · obtain ⟨τ6, G6, K6, r⟩ := r
      exact drop K6 fun t7 J7 => ⟨_, _, J7, r⟩
    · obtain ⟨τ6, G6, K6, r⟩ := r
      exact drop K6 fun t7 J7 => ⟨_, _, J7, r⟩
    · obtain ⟨τ6, G6, K6, r⟩ := r
      exact drop K6 fun t7 J7 => ⟨_, _, J7, r⟩
    · obtain ⟨w6, τ6, G6, K6, r6, r⟩ := r
      exact drop K6 fun t7 J7 => ⟨_, _, _, J7, r6, r⟩
  refine wpAny_Try_except (wpAny_mono ((hbd _ _ land caught PassesOwn.looking).run [] s σ H { D with nx := u D } (I.toTry _) h) (fun fl t1 r => ?_) fun _ _ z => z)
  rcases fl with _ | _ | _ | v
  · obtain ⟨τ, G, J, r⟩ := r
    exact ho.run pins t1 τ G D (J.ofTry okX) r
  · obtain ⟨τ, G, J, r⟩ := r
    exact ⟨τ, G, J.ofTry okX, r⟩
  · obtain ⟨τ, G, J, r⟩ := r
    exact ⟨τ, G, J.ofTry okX, r⟩
  · obtain ⟨v1, τ, G, J, r1, r⟩ := r
    exact ⟨v1, τ, G, J.ofTry okX, r1, r⟩
end
end Kx

set_option maxHeartbeats 8000000
namespace Kx
open PySem PySem.Spec PyProof.Rows L2
abbrev s_told : Stmt := topS 73
section
variable {P : Program} {w : World} {K : PySem.W.Frag} {mg : Str → Option Value} {base : Heap}
def spTold : Sp := fun vs H Q _ => ∃ (job paper : Addr) (as : List (Addr × Stp)) (an : Str) (n : Nat) (rvs : List V) (rows : List Rw), vs = [.ref job, .ref paper] ∧ JG (as.map (·.2)) an n ∧ n + 2 * rows.length ≤ 47 ∧ JobAt H job as an ∧ H paper = some (.tup rvs) ∧ rvs.length = rows.length ∧ (∀ (i : Nat) (v : V) (r : Rw), rvs[i]? = some v → rows[i]? = some r → RowAt H v r) ∧ (∀ a x, Rw.pair a x ∈ rows → a ∈ rulesA) ∧
  (∀ k, judgeF an 0 rows (as.map (·.2)) = .error k → ∀ H', Same H H' → Q (.int (k : Nat)) H') ∧
  ∀ ss', judgeF an 0 rows (as.map (·.2)) = .ok ss' → ∀ (r : Addr) (as' : List (Addr × Stp)) (H' : Hp), Same H H' → JobAt H' r as' an → as'.map (·.2) = ss' → Q (.ref r) H'
abbrev N_told : List Str := ["job", "paper", "found", "error"]
theorem sc_told : FnScope N_told ["job", "paper"] (defScope s_told) := ⟨rfl, rfl, rfl, by decide +kernel, rfl, by decide +kernel, by decide +kernel⟩
theorem ok_told {f CP fI : Addr} {fd : FuncData} {k : Nat} (F : Fun K "_law_told" "_law_told" s_told f fd) (T : PySem.BadP.BadTxt K mg CP fI) (G_judged : ReadyX P w K mg base k "judged" ["job", "paper"] (spJudged CP)) : FnOk P w K mg base CX0 (k + 1) f fd ["job", "paper"] spTold := by
  refine F.ok sc_told (fun vs H Q E h => ?_) (fun cdv A outer s0 H vs Q E hr h => ?_)
  · obtain ⟨job, paper, as, an, n, rvs, rows, rfl, _⟩ := h
    rfl
  obtain ⟨job, paper, as, an, n, rvs, rows, rfl, g, hn, hj, hp, hl, hrow, hrule, qe, qq⟩ := h
  have nd := sc_told.nd
  have hrk : Room k _ := hr
  refine ⟨_, pss_one (ps_try_asE (i := 3) (tb := fun W => tAsg (tCallS (spJudged CP) (WE W) (tCons (tVar 0) (tCons (tVar 1) tNil))) (gName 2)) (ts := fun a cls d => tRet (tByBadP CP a cls d (tVar 3))) (pss_one (ps_ret (pv 2))) rfl rfl nd rfl rfl ⟨rfl, by decide, .inl T.gC⟩
      (fun W pn xe tk _ => pss_one (ps_set (i := 2) nd rfl (.inl rfl) (pe_fnX (W := W) G_judged hrk tk (pa_cons (pv 0) (pa_cons (pv 1) pa_nil)))))
      (fun a oe cls d pn hz hf => pss_one (ps_ret (pe_byBadP T hz hf (pv 3))))), ?_⟩
  refine ⟨_, rfl, _, rfl, job, paper, as, an, n, rvs, rows, rfl, g, hn, hj, hp, hl, hrow, hrule, fun k ek d H2 sm n2 => ?_, fun ss' es r as' H2 sm hj2 ej => ?_⟩
  · exact ⟨T.te, fun a na => ⟨_, rfl, rfl, rfl, d, _, rfl, upd_same, qe k ek _ (sm.trans (same_upd n2))⟩⟩
  · exact ⟨_, rfl, qq ss' es r as' H2 sm hj2 ej⟩
end
end Kx

set_option maxHeartbeats 8000000
namespace Kx
open PySem PySem.Spec PyProof.Rows L2
abbrev s_size : Stmt := topS 74
abbrev s_depth : Stmt := topS 75
def PartAt (H : Hp) (z : V × Option Ex) : Prop := match z.2 with
  | none => (∃ t, z.1 = .str t) ∨ ∃ i, z.1 = .int i
  | some x => ExAt H z.1 x
theorem cut1 (x : V) (l : List V) : cutV (x :: l) (some 1) none = l := by
  unfold cutV HT.sIx
  simp
theorem ex_parts {H : Hp} {v : V} : ∀ {e : Ex}, ExAt H v e → ∃ (a : Addr) (wd : Str) (zs : List (V × Option Ex)), v = .ref a ∧ H a = some (.tup (.str wd :: zs.map (·.1))) ∧ zs.length ≤ 3 ∧ (∀ z ∈ zs, PartAt H z) ∧ zs.filterMap (·.2) = e.parts ∧ 0 < zs.length
  | .num i, ⟨a, h1, h2⟩ => ⟨a, _, [(.int i, none)], h1, h2, (show (1 : Nat) ≤ 3 from by decide), fun z hz => by rw [List.mem_singleton.mp hz]; exact .inr ⟨_, rfl⟩, rfl, (show 0 < (1 : Nat) from by decide)⟩
  | .quo i, ⟨a, h1, h2⟩ => ⟨a, _, [(.str i, none)], h1, h2, (show (1 : Nat) ≤ 3 from by decide), fun z hz => by rw [List.mem_singleton.mp hz]; exact .inl ⟨_, rfl⟩, rfl, (show 0 < (1 : Nat) from by decide)⟩
  | .col i, ⟨a, h1, h2⟩ => ⟨a, _, [(.str i, none)], h1, h2, (show (1 : Nat) ≤ 3 from by decide), fun z hz => by rw [List.mem_singleton.mp hz]; exact .inl ⟨_, rfl⟩, rfl, (show 0 < (1 : Nat) from by decide)⟩
  | .two op x y, ⟨a, vx, vy, h1, h2, h3, h4⟩ => ⟨a, _, [(.str op, none), (vx, some x), (vy, some y)], h1, h2, (show (3 : Nat) ≤ 3 from Nat.le_refl 3), fun z hz => by
      rcases List.mem_cons.mp hz with rfl | hz
      · exact .inl ⟨_, rfl⟩
      rcases List.mem_cons.mp hz with rfl | hz
      · exact h3
      · rw [List.mem_singleton.mp hz]; exact h4, rfl, (show 0 < (3 : Nat) from by decide)⟩
  | .nt x, ⟨a, vx, h1, h2, h3⟩ => ⟨a, _, [(vx, some x)], h1, h2, (show (1 : Nat) ≤ 3 from by decide), fun z hz => by rw [List.mem_singleton.mp hz]; exact h3, rfl, (show 0 < (1 : Nat) from by decide)⟩
  | .mn x, ⟨a, vx, h1, h2, h3⟩ => ⟨a, _, [(vx, some x)], h1, h2, (show (1 : Nat) ≤ 3 from by decide), fun z hz => by rw [List.mem_singleton.mp hz]; exact h3, rfl, (show 0 < (1 : Nat) from by decide)⟩
  | .ln x, ⟨a, vx, h1, h2, h3⟩ => ⟨a, _, [(vx, some x)], h1, h2, (show (1 : Nat) ≤ 3 from by decide), fun z hz => by rw [List.mem_singleton.mp hz]; exact h3, rfl, (show 0 < (1 : Nat) from by decide)⟩
theorem PartAt.same {H H' : Hp} (s : Same H H') {z : V × Option Ex} (h : PartAt H z) : PartAt H' z := by
  unfold PartAt at h ⊢
  split at h
  · exact h
  · exact h.same s
theorem sumS_map : ∀ l : List Ex, sumS l = (l.map Ex.size).sum
  | [] => rfl
  | e :: l => by rw [List.map_cons, List.sum_cons, ← sumS_map l]; rfl
theorem dep_parts (e : Ex) : e.dep = 1 + mdep e.parts := by
  rcases parts_dep e with h | ⟨h, h2⟩
  · omega
  · rw [h, h2]; rfl
section
variable {P : Program} {w : World} {K : PySem.W.Frag} {mg : Str → Option Value} {base : Heap}
def spLSize (m : Nat) : Sp := fun vs H Q _ => ∃ (v : V) (e : Ex), vs = [v] ∧ ExAt H v e ∧ e.dep ≤ m ∧ ∀ H', Same H H' → Q (.int (e.size : Nat)) H'
theorem sc_size : FnScope ["told", "part"] ["told"] (defScope s_size) := ⟨rfl, rfl, rfl, by decide +kernel, rfl, by decide +kernel, by decide +kernel⟩
theorem ok_size {f : Addr} {fd : FuncData} {m k : Nat} (F : Fun K "_law_size" "_law_size" s_size f fd) (m_sum : mg "sum" = none) (m_isinstance : mg "isinstance" = none) (m_tuple : mg "tuple" = none) (G_size : Ready P w K mg base k "_law_size" ["told"] (spLSize m)) : FnOk P w K mg base CX0 (k + 1) f fd ["told"] (spLSize (m + 1)) := by
  refine F.ok sc_size (fun vs H Q E h => ?_) (fun cdv A outer s0 H vs Q E hr h => ?_)
  · obtain ⟨v, e, rfl, _⟩ := h
    rfl
  obtain ⟨v, e, rfl, hx, hd, q⟩ := h
  have nd := sc_size.nd
  have hrk : Room k _ := hr
  refine ⟨_, pss_one (ps_ret (pe_op op_add pe_int (pe_callB (cr_sum rfl) (by rfl) m_sum boot_sum (pa_cons (pe_lc (own := [("part", 1)]) (g := gName 1) (tt := tTest (tCB (rIsi K) (tCons (tVar 1) (tCons (tC (.ty "tuple")) tNil)))) (te := tCall (spLSize m) [] E0 (tCons (tVar 1) tNil)) rfl nd (pi_tup (pe_slice sl_tup (pv 0) (po_some pe_int) po_none)) (blkOk_by (N := ["told", "part"]) (sc := defScope s_size) (by decide +kernel)) (fun _ _ _ _ _ => pg_name (i := 1) nd rfl (Or.inl rfl)) (fun _ _ _ _ _ => pts_one (pt_val (pe_callB call_isi (by rfl) m_isinstance PyProof.Rows.boot_isinstance (pa_cons (pv 1) (pa_cons (pe_bltn (v := .ty "tuple") (by rfl) m_tuple PyProof.Rows.boot_tuple rfl) pa_nil))))) (fun _ _ _ _ _ => (pe_fn G_size hrk (pa_cons (pv 1) pa_nil)))) pa_nil)))), ?_⟩
  obtain ⟨a, wd, zs, rfl, ha, hz3, hz, hf, hz0⟩ := ex_parts hx
  have hpd : ∀ {x : Ex}, x ∈ e.parts → _ := fun {x} h => parts_in (e := e) (x := x) h
  refine ⟨_, rfl, _, rfl, a, _, rfl, SqT.of ha, (fun h => absurd h.1 ?_), fun t ht => ?_⟩
  · unfold HT.sIx
    simp
  rw [cut1]
  have s1 := same_upd (o := .tup (zs.map (·.1))) ht
  have et : upd H t (.tup (zs.map (·.1))) t = some (.tup (zs.map (·.1))) := upd_same
  generalize upd H t (.tup (zs.map (·.1))) = H1 at s1 et ⊢
  refine ⟨t, rfl, ⟨_, SqT.of et⟩, fun D hD => ?_⟩
  refine lc_tup (K := K) (a := t) (xs := zs.map (·.1)) (fun i G => Same H1 G ∧ G D = some (.lst (((((zs.take i).filterMap (·.2)).map fun x => ((x.size : Nat) : Int))).map V.int))) ⟨same_upd hD, upd_same⟩ (fun i G _ h => SqT.of (h.1 _ _ et)) ?_ ?_
  · rintro i x G hx' ⟨sm, eD⟩
    rw [List.getElem?_map] at hx'
    obtain ⟨z, hzi, rfl⟩ := Option.map_eq_some_iff.mp hx'
    have zm := List.mem_of_getElem? hzi
    have hp := (hz z zm).same (s1.trans sm)
    have tk : zs.take (i + 1) = zs.take i ++ [z] := by rw [List.take_add_one, hzi]; rfl
    have hfm : ((zs.take i).filterMap (·.2)).length ≤ 3 := Nat.le_trans (List.length_filterMap_le _ _) (by rw [List.length_take]; omega)
    obtain ⟨zv, zo⟩ := z
    refine ⟨rfl, ?_⟩
    cases zo with
    | none =>
      have tk2 : (zs.take (i + 1)).filterMap (·.2) = (zs.take i).filterMap (·.2) := by
        rw [tk, List.filterMap_append]
        show _ ++ [] = _
        rw [List.append_nil]
      rw [← tk2] at eD
      rcases hp with ⟨t', e'⟩ | ⟨i', e'⟩
      · obtain rfl : zv = .str t' := e'
        exact ⟨_, rfl, _, _, _, _, false, rfl, .ty _, .base (.str t'), kit_ty (by decide +kernel : kitB "str" "tuple" = some false), _, rfl, ifF' rfl ⟨sm, eD⟩⟩
      · obtain rfl : zv = .int i' := e'
        exact ⟨_, rfl, _, _, _, _, false, rfl, .ty _, .base (.int i'), kit_ty (by decide +kernel : kitB "int" "tuple" = some false), _, rfl, ifF' rfl ⟨sm, eD⟩⟩
    | some y =>
      have hy : ExAt G zv y := hp
      have tk2 : (zs.take (i + 1)).filterMap (·.2) = (zs.take i).filterMap (·.2) ++ [y] := by
        rw [tk, List.filterMap_append]
        rfl
      have hyp : y ∈ e.parts := by
        rw [← hf]
        exact List.mem_filterMap.mpr ⟨_, zm, rfl⟩
      obtain ⟨ya, _, _, rfl, hya, _⟩ := ex_head hy
      refine ⟨_, rfl, _, _, _, _, true, rfl, .ty _, ty_T hya, kit_ty (by decide +kernel : kitB "tuple" "tuple" = some true), _, rfl, ifT' rfl ⟨_, rfl, .ref ya, y, rfl, hy, by have := (hpd hyp).1; omega, fun G2 s2 => ?_⟩⟩
      have eD2 := s2 _ _ eD
      refine ⟨_, eD2, Nat.lt_of_le_of_lt (show _ ≤ 3 by rw [List.length_map, List.length_map]; exact hfm) (by decide), fun b o ex => ?_, ?_⟩
      · rw [upd_ne (ne_of_none ex hD)]
        exact s2 _ _ (sm _ _ ex)
      · rw [tk2, List.map_append, List.map_append]
        exact upd_same
  · rintro G ⟨sm, eD⟩
    rw [List.length_map, List.take_length, hf] at eD
    refine ⟨D, _, rfl, SqL.of eD, _, _, rfl, rfl, ?_⟩
    have h := q G (s1.trans sm)
    have e1 : (1 : Int) + (e.parts.map fun x => ((x.size : Nat) : Int)).sum = ((e.size : Nat) : Int) := by
      have h1 := parts_size e
      rw [sumS_map] at h1
      have h2 := sum_cast (e.parts.map Ex.size)
      rw [List.map_map] at h2
      have h3 : (e.parts.map fun x => ((x.size : Nat) : Int)).sum = (((e.parts.map Ex.size).sum : Nat) : Int) := h2
      omega
    rw [← e1] at h
    exact h
end
end Kx

set_option maxHeartbeats 8000000
namespace Kx
open PySem PySem.Spec PyProof.Rows L2
theorem le_mdep : ∀ (l : List Ex) (e : Ex), e ∈ l → e.dep ≤ mdep l
  | x :: l, e, h => by
    show e.dep ≤ max x.dep (mdep l)
    rcases List.mem_cons.mp h with rfl | h
    · exact Nat.le_max_left _ _
    · exact Nat.le_trans (le_mdep l e h) (Nat.le_max_right _ _)
theorem mdep_mem : ∀ l : List Ex, mdep l = 0 ∨ ∃ e ∈ l, e.dep = mdep l
  | [] => .inl rfl
  | x :: l => by
    rcases mdep_mem l with h | ⟨e, h1, h2⟩
    · exact .inr ⟨x, List.mem_cons_self, by show x.dep = max x.dep (mdep l); omega⟩
    · by_cases c : mdep l ≤ x.dep
      · exact .inr ⟨x, List.mem_cons_self, by show x.dep = max x.dep (mdep l); omega⟩
      · exact .inr ⟨e, List.mem_cons_of_mem _ h1, by show e.dep = max x.dep (mdep l); omega⟩
theorem max_is {l : List Ex} {m : Int} (h : m ∈ (0 : Int) :: l.map fun x => ((x.dep : Nat) : Int)) (hm : ∀ y ∈ (0 : Int) :: l.map fun x => ((x.dep : Nat) : Int), y ≤ m) : m = ((mdep l : Nat) : Int) := by
  have h1 : m ≤ ((mdep l : Nat) : Int) := by
    rcases List.mem_cons.mp h with rfl | h
    · omega
    · obtain ⟨e, he, rfl⟩ := List.mem_map.mp h
      have := le_mdep l e he
      omega
  have h2 : ((mdep l : Nat) : Int) ≤ m := by
    rcases mdep_mem l with h | ⟨e, he, h⟩
    · rw [h]
      exact hm 0 List.mem_cons_self
    · rw [← h]
      exact hm _ (List.mem_cons_of_mem _ (List.mem_map.mpr ⟨e, he, rfl⟩))
  omega
section
variable {P : Program} {w : World} {K : PySem.W.Frag} {mg : Str → Option Value} {base : Heap}
def spLDepth (m : Nat) : Sp := fun vs H Q _ => ∃ (v : V) (e : Ex), vs = [v] ∧ ExAt H v e ∧ e.dep ≤ m ∧ ∀ H', Same H H' → Q (.int (e.dep : Nat)) H'
theorem sc_depth : FnScope ["told", "part"] ["told"] (defScope s_depth) := ⟨rfl, rfl, rfl, by decide +kernel, rfl, by decide +kernel, by decide +kernel⟩
theorem ok_depth {f : Addr} {fd : FuncData} {m k : Nat} (F : Fun K "_law_depth" "_law_depth" s_depth f fd) (m_max : mg "max" = none) (m_isinstance : mg "isinstance" = none) (m_tuple : mg "tuple" = none) (G_size : Ready P w K mg base k "_law_depth" ["told"] (spLDepth m)) : FnOk P w K mg base CX0 (k + 1) f fd ["told"] (spLDepth (m + 1)) := by
  refine F.ok sc_depth (fun vs H Q E h => ?_) (fun cdv A outer s0 H vs Q E hr h => ?_)
  · obtain ⟨v, e, rfl, _⟩ := h
    rfl
  obtain ⟨v, e, rfl, hx, hd, q⟩ := h
  have nd := sc_depth.nd
  have hrk : Room k _ := hr
  refine ⟨_, pss_one (ps_ret (pe_op op_add pe_int (pe_callB (cr_max rfl) (by rfl) m_max PyProof.Rows.boot_max (pa_cons (pe_op op_cat (pe_lst (pa_cons pe_int pa_nil)) (pe_lc (own := [("part", 1)]) (g := gName 1) (tt := tTest (tCB (rIsi K) (tCons (tVar 1) (tCons (tC (.ty "tuple")) tNil)))) (te := tCall (spLDepth m) [] E0 (tCons (tVar 1) tNil)) rfl nd (pi_tup (pe_slice sl_tup (pv 0) (po_some pe_int) po_none)) (blkOk_by (N := ["told", "part"]) (sc := defScope s_depth) (by decide +kernel)) (fun _ _ _ _ _ => pg_name (i := 1) nd rfl (Or.inl rfl)) (fun _ _ _ _ _ => pts_one (pt_val (pe_callB call_isi (by rfl) m_isinstance PyProof.Rows.boot_isinstance (pa_cons (pv 1) (pa_cons (pe_bltn (v := .ty "tuple") (by rfl) m_tuple PyProof.Rows.boot_tuple rfl) pa_nil))))) (fun _ _ _ _ _ => (pe_fn G_size hrk (pa_cons (pv 1) pa_nil))))) pa_nil)))), ?_⟩
  obtain ⟨a, wd, zs, rfl, ha, hz3, hz, hf, hz0⟩ := ex_parts hx
  have hpd : ∀ {x : Ex}, x ∈ e.parts → _ := fun {x} h => parts_in (e := e) (x := x) h
  refine ⟨(show 1 ≤ sizeLine by decide), fun L0 hL0 => ?_⟩
  have s0' := same_upd (o := .lst [.int 0]) hL0
  have eL0 : upd H L0 (.lst [.int 0]) L0 = some (.lst [.int 0]) := upd_same
  have ha := s0' _ _ ha
  have hz := fun z h => (hz z h).same s0'
  have q := fun H' s => q H' (s0'.trans s)
  generalize upd H L0 (.lst [.int 0]) = H at s0' eL0 ha hz q ⊢
  refine ⟨_, rfl, _, rfl, a, _, rfl, SqT.of ha, (fun h => absurd h.1 ?_), fun t ht => ?_⟩
  · unfold HT.sIx
    simp
  rw [cut1]
  have s1 := same_upd (o := .tup (zs.map (·.1))) ht
  have et : upd H t (.tup (zs.map (·.1))) t = some (.tup (zs.map (·.1))) := upd_same
  generalize upd H t (.tup (zs.map (·.1))) = H1 at s1 et ⊢
  refine ⟨t, rfl, ⟨_, SqT.of et⟩, fun D hD => ?_⟩
  refine lc_tup (K := K) (a := t) (xs := zs.map (·.1)) (fun i G => Same H1 G ∧ G D = some (.lst (((((zs.take i).filterMap (·.2)).map fun x => ((x.dep : Nat) : Int))).map V.int))) ⟨same_upd hD, upd_same⟩ (fun i G _ h => SqT.of (h.1 _ _ et)) ?_ ?_
  · rintro i x G hx' ⟨sm, eD⟩
    rw [List.getElem?_map] at hx'
    obtain ⟨z, hzi, rfl⟩ := Option.map_eq_some_iff.mp hx'
    have zm := List.mem_of_getElem? hzi
    have hp := (hz z zm).same (s1.trans sm)
    have tk : zs.take (i + 1) = zs.take i ++ [z] := by rw [List.take_add_one, hzi]; rfl
    have hfm : ((zs.take i).filterMap (·.2)).length ≤ 3 := Nat.le_trans (List.length_filterMap_le _ _) (by rw [List.length_take]; omega)
    obtain ⟨zv, zo⟩ := z
    refine ⟨rfl, ?_⟩
    cases zo with
    | none =>
      have tk2 : (zs.take (i + 1)).filterMap (·.2) = (zs.take i).filterMap (·.2) := by
        rw [tk, List.filterMap_append]
        show _ ++ [] = _
        rw [List.append_nil]
      rw [← tk2] at eD
      rcases hp with ⟨t', e'⟩ | ⟨i', e'⟩
      · obtain rfl : zv = .str t' := e'
        exact ⟨_, rfl, _, _, _, _, false, rfl, .ty _, .base (.str t'), kit_ty (by decide +kernel : kitB "str" "tuple" = some false), _, rfl, ifF' rfl ⟨sm, eD⟩⟩
      · obtain rfl : zv = .int i' := e'
        exact ⟨_, rfl, _, _, _, _, false, rfl, .ty _, .base (.int i'), kit_ty (by decide +kernel : kitB "int" "tuple" = some false), _, rfl, ifF' rfl ⟨sm, eD⟩⟩
    | some y =>
      have hy : ExAt G zv y := hp
      have tk2 : (zs.take (i + 1)).filterMap (·.2) = (zs.take i).filterMap (·.2) ++ [y] := by
        rw [tk, List.filterMap_append]
        rfl
      have hyp : y ∈ e.parts := by
        rw [← hf]
        exact List.mem_filterMap.mpr ⟨_, zm, rfl⟩
      obtain ⟨ya, _, _, rfl, hya, _⟩ := ex_head hy
      refine ⟨_, rfl, _, _, _, _, true, rfl, .ty _, ty_T hya, kit_ty (by decide +kernel : kitB "tuple" "tuple" = some true), _, rfl, ifT' rfl ⟨_, rfl, .ref ya, y, rfl, hy, by have := (hpd hyp).1; omega, fun G2 s2 => ?_⟩⟩
      have eD2 := s2 _ _ eD
      refine ⟨_, eD2, Nat.lt_of_le_of_lt (show _ ≤ 3 by rw [List.length_map, List.length_map]; exact hfm) (by decide), fun b o ex => ?_, ?_⟩
      · rw [upd_ne (ne_of_none ex hD)]
        exact s2 _ _ (sm _ _ ex)
      · rw [tk2, List.map_append, List.map_append]
        exact upd_same
  · rintro G ⟨sm, eD⟩
    rw [List.length_map, List.take_length, hf] at eD
    have eL := sm _ _ (s1 _ _ eL0)
    have lp : e.parts.length ≤ 3 := by rw [← hf]; exact Nat.le_trans (List.length_filterMap_le _ _) hz3
    refine ⟨L0, D, _, _, rfl, rfl, eL, eD, Nat.le_trans (show _ ≤ 4 by rw [List.length_map, List.length_map]; show 1 + _ ≤ 4; omega) (by decide), fun p hp => ?_⟩
    have s3 := same_upd (o := .lst ([V.int 0] ++ (e.parts.map fun x => ((x.dep : Nat) : Int)).map V.int)) hp
    refine ⟨p, (0 : Int) :: e.parts.map fun x => ((x.dep : Nat) : Int), rfl, SqL.of upd_same, Nat.succ_pos _, fun m hm hall => ⟨_, _, rfl, rfl, ?_⟩⟩
    have h := q _ ((s1.trans sm).trans s3)
    have e1 : (1 : Int) + m = ((e.dep : Nat) : Int) := by
      rw [max_is hm hall]
      have := dep_parts e
      omega
    rw [← e1] at h
    exact h
end
end Kx

set_option maxHeartbeats 8000000
namespace Kx
open PySem PySem.Spec PyProof.Rows L2
abbrev s_small : Stmt := topS 76
section
variable {P : Program} {w : World} {K : PySem.W.Frag} {mg : Str → Option Value} {base : Heap}
def spSmall : Sp := fun vs H Q _ => ∃ (job : Addr) (as : List (Addr × Stp)) (an : Str), vs = [.ref job] ∧ JobAt H job as an ∧ (∀ p ∈ as, StpJ Bb p.2) ∧ as.length ≤ 1000 ∧ ∀ H', Same H H' → Q (.bl (!largeJ (as.map (·.2)))) H'
abbrev N_small : List Str := ["job", "step", "some", "told", "late"]
theorem sc_small : FnScope N_small ["job"] (defScope s_small) := ⟨rfl, rfl, rfl, by decide +kernel, rfl, by decide +kernel, by decide +kernel⟩
theorem ok_small {f : Addr} {fd : FuncData} {k kz kd : Nat} (F : Fun K "_law_is_small" "_law_is_small" s_small f fd) (hkz : kz ≤ k) (hkd : kd ≤ k) (m_any : mg "any" = none) (m_sum : mg "sum" = none) (m_len : mg "len" = none) (G_size : Ready P w K mg base kz "_law_size" ["told"] (spLSize 90)) (G_depth : Ready P w K mg base kd "_law_depth" ["told"] (spLDepth 90)) : FnOk P w K mg base CX0 (k + 1) f fd ["job"] spSmall := by
  refine F.ok sc_small (fun vs H Q E h => ?_) (fun cdv A outer s0 H vs Q E hr h => ?_)
  · obtain ⟨job, as, an, rfl, _⟩ := h
    rfl
  obtain ⟨job, as, an, rfl, ⟨st, h1, h2, h3⟩, hj, hl, q⟩ := h
  have nd := sc_small.nd
  have hrk : Room k _ := hr
  have hrz : Room kz _ := hrk.mono hkz
  have hrd : Room kd _ := hrk.mono hkd
  refine ⟨_, pss_cons (ps_for PassesOwn.never rfl (pi_tup (pe_ix ix_tup (pv 0) pe_int (fun _ _ => rfl))) (pg_name (i := 1) nd rfl (.inl rfl)) (pss_cons (ps_set (i := 2) nd rfl (.inl rfl) (pe_ifExp (pt_cmpR op_eq (pe_ix ix_tup (pv 1) pe_int (fun _ _ => rfl)) pe_str (nomark _)) (pe_lst (pa_cons (pe_ix ix_tup (pv 1) pe_int (fun _ _ => rfl)) pa_nil)) (pe_ifExp (pt_cmpR op_eq (pe_ix ix_tup (pv 1) pe_int (fun _ _ => rfl)) pe_str (nomark _)) (pe_lc (own := [("told", 3), ("late", 4)]) (g := (gTup K 2 (gCons (gName 3) (gCons (gName 4) gNil)))) (tt := tYes) (te := tVar 3) rfl nd (pi_tup (pe_ix ix_tup (pv 1) pe_int (fun _ _ => rfl))) (blkOk_by (N := N_small) (sc := defScope s_small) (by decide +kernel)) (fun _ _ _ _ _ => pg_tup rfl (pgs_cons (pg_name (i := 3) nd rfl (.inl rfl)) (pgs_cons (pg_name (i := 4) nd rfl (.inl rfl)) pgs_nil))) (fun _ _ _ _ _ => pts_nil) (fun _ _ _ _ _ => (pv 3))) (pe_lst pa_nil))))
      (pss_cons (ps_if (pt_val (pe_callB (cr_any rfl) (by rfl) m_any PyProof.Rows.boot_any (pa_cons (pe_lc (own := [("told", 3)]) (g := gName 3) (tt := tYes) (te := tOrV (tOp (rI0 fun i j => .bl (decide (j < i))) (tCall (spLSize 90) [] E0 (tCons (tVar 3) tNil)) (tC (.int 80))) (tOp (rI0 fun i j => .bl (decide (j < i))) (tCall (spLDepth 90) [] E0 (tCons (tVar 3) tNil)) (tC (.int 40)))) rfl nd (pi_list (pv 2)) (blkOk_by (N := N_small) (sc := defScope s_small) (by decide +kernel)) (fun _ _ _ _ _ => pg_name (i := 3) nd rfl (Or.inl rfl)) (fun _ _ _ _ _ => pts_nil) (fun _ _ _ _ _ => (pe_or (pe_cmpR op_gt (pe_fn G_size hrz (pa_cons (pv 3) pa_nil)) pe_int (nomark _)) (pe_one (pe_cmpR op_gt (pe_fn G_depth hrd (pa_cons (pv 3) pa_nil)) pe_int (nomark _)))))) pa_nil))) (pss_one (ps_ret pe_bl)) (pss_nil))
      (pss_one (ps_if (pt_cmpR op_gt (pe_callB (cr_sum rfl) (by rfl) m_sum boot_sum (pa_cons (pe_lc (own := [("told", 3)]) (g := gName 3) (tt := tYes) (te := tOp rAdd (tCall (spLSize 90) [] E0 (tCons (tVar 3) tNil)) (tC (.int 3))) rfl nd (pi_list (pv 2)) (blkOk_by (N := N_small) (sc := defScope s_small) (by decide +kernel)) (fun _ _ _ _ _ => pg_name (i := 3) nd rfl (Or.inl rfl)) (fun _ _ _ _ _ => pts_nil) (fun _ _ _ _ _ => (pe_op op_add (pe_fn G_size hrz (pa_cons (pv 3) pa_nil)) pe_int))) pa_nil)) pe_int (nomark _)) (pss_one (ps_ret pe_bl)) (pss_nil))))))
      (pss_one (ps_ret (pe_cmpR op_le (pe_callB call_len_seq (by rfl) m_len PySem.boot_len (pa_cons (pe_ix ix_tup (pv 0) pe_int (fun _ _ => rfl)) pa_nil)) pe_int (nomark _)))), ?_⟩
  have z0 : 0 ≤ sizeLine := by decide
  have z1 : 1 ≤ sizeLine := by decide
  refine ⟨_, rfl, job, _, 0, _, rfl, rfl, SqT.of h1, rfl, st, rfl, ⟨_, SqT.of h2⟩, ?_⟩
  refine for_tup (K := K) (a := st) (xs := as.map fun p => .ref p.1) (fun i σ G => ∃ y1 y2 y3 y4, σ = [some (.ref job), y1, y2, y3, y4] ∧ Same H G ∧ ∀ r ∈ as.take i, largeS r.2 = false) ⟨_, _, _, _, rfl, Same.refl _, fun r hr => by cases hr⟩ (fun i σ G _ ⟨_, _, _, _, _, sm, _⟩ => SqT.of (sm _ _ h2)) ?_ ?_
  · rintro j x σ G0 hx ⟨y1, y2, y3, y4, rfl, sm, hall⟩
    rw [List.getElem?_map] at hx
    obtain ⟨p, hpx, rfl⟩ := Option.map_eq_some_iff.mp hx
    have pm := List.mem_of_getElem? hpx
    obtain ⟨el, ej⟩ := exprs_J (hj p pm)
    have big : largeS p.2 = true → largeJ (as.map (·.2)) = true := fun h => by
      unfold largeJ
      rw [List.any_eq_true.mpr ⟨p.2, List.mem_map.mpr ⟨p, pm, rfl⟩, h⟩, Bool.or_true]
    obtain ⟨inp, dv, x1, x2, x3⟩ := (h3 p pm).same sm
    generalize hes : exprsS p.2 = es at el ej
    refine ⟨_, rfl, p.1, _, 1, .str p.2.det.what, rfl, rfl, SqT.of x1, rfl, rfl, _, rfl, sel (fun ea => ?_) fun ea => ?_⟩
    · obtain ⟨e, hd⟩ := what_filter (eqS ea)
      rw [hd] at x3
      unfold exprsS at hes
      rw [hd] at hes
      refine ⟨_, rfl, p.1, _, 3, dv, rfl, rfl, SqT.of x1, rfl, z1, fun L hL => ?_⟩
      have s1 := same_upd (o := .lst [dv]) hL
      have eL : upd G0 L (.lst [dv]) L = some (.lst [dv]) := upd_same
      have hp : Paired (ExAt (upd G0 L (.lst [dv]))) [dv] es := by rw [← hes]; exact .cons (ExAt.same x3 s1) .nil
      have hes : exprsS p.2 = es := by unfold exprsS; rw [hd]; exact hes
      generalize upd G0 L (.lst [dv]) = H1 at s1 eL hp ⊢
      generalize ([dv] : List V) = xs at eL hp
      have lx : xs.length = es.length := Paired.length hp
      have sA := sm.trans s1
      refine ⟨_, rfl, L, rfl, ⟨_, SqL.of eL⟩, fun D hD => ?_⟩
      refine lc_list (K := K) (a := L) (xs := xs) (fun i G => Same H1 G ∧ G D = some (.lst (((es.map largeE).take i).map V.bl))) ⟨same_upd hD, upd_same⟩ (fun i G _ h => SqL.of (h.1 _ _ eL)) ?_ ?_
      · rintro i x G hx ⟨sm, eD⟩
        obtain ⟨e, he, hxe⟩ := paired_at hp hx
        have em := List.mem_of_getElem? he
        have ge := (ej e em).b
        have tk : (es.map largeE).take (i + 1) = (es.map largeE).take i ++ [largeE e] := by rw [List.take_add_one, List.getElem?_map, he]; rfl
        have hi : i < es.length := (List.getElem?_eq_some_iff.mp he).1
        have fin : ∀ {G2 : Hp}, Same G G2 → ∃ acc, G2 D = some (.lst acc) ∧ acc.length < sizeLine ∧ Same H1 (upd G2 D (.lst (acc ++ [V.bl (largeE e)]))) ∧ upd G2 D (.lst (acc ++ [V.bl (largeE e)])) D = some (.lst (((es.map largeE).take (i + 1)).map V.bl)) := fun {G2} s2 => by
          refine ⟨_, s2 _ _ eD, Nat.lt_of_le_of_lt (show _ ≤ 100 by rw [List.length_map, List.length_take, List.length_map]; omega) (by decide), fun b o ex => ?_, ?_⟩
          · rw [upd_ne (ne_of_none ex hD)]
            exact s2 _ _ (sm _ _ ex)
          · rw [tk, List.map_append]
            exact upd_same
        rw [large_is] at fin
        refine ⟨rfl, _, rfl, x, e, rfl, hxe.same sm, ge.2, fun G2 s2 => ⟨_, _, rfl, rfl, _, rfl, ite2 (fun c => ?_) (fun c => ?_)⟩⟩
        · have c2 : decide (80 < e.size) = true := decide_eq_true (by have := of_decide_eq_true c; omega)
          rw [c2, Bool.true_or] at fin
          exact c ▸ fin s2
        · have c2 : decide (80 < e.size) = false := decide_eq_false fun h => c (decide_eq_true (by omega))
          rw [c2, Bool.false_or] at fin
          refine ⟨_, rfl, x, e, rfl, (hxe.same sm).same s2, ge.2, fun G3 s3 => ⟨_, _, rfl, rfl, ?_⟩⟩
          have e1 : decide ((40 : Int) < ((e.dep : Nat) : Int)) = decide (40 < e.dep) := decide_eq_decide.mpr (by omega)
          rw [← e1] at fin
          exact fin (s2.trans s3)
      rintro G ⟨sm2, eD⟩
      rw [lx, List.take_of_length_le (by rw [List.length_map]; exact Nat.le_refl _)] at eD
      have ea : es.any largeE = (es.map largeE).any id := by rw [List.any_map]; rfl
      have sB := sA.trans sm2
      have lgS : largeS p.2 = (es.any largeE || decide (250 < (es.map fun e => e.size + 3).sum)) := by rw [← hes]; rfl
      refine ⟨D, _, rfl, SqL.of eD, _, rfl, ite2 (fun c => ?_) (fun c => ?_)⟩
      · have h := q _ sB
        rw [big (by rw [lgS, ea, c, Bool.true_or])] at h
        exact h
      have c' : (es.map largeE).any id = false := Bool.eq_false_iff.mpr c
      rw [ea, c', Bool.false_or] at lgS
      have eL2 := sm2 _ _ eL
      refine ⟨_, rfl, L, rfl, ⟨_, SqL.of eL2⟩, fun D2 hD2 => ?_⟩
      refine lc_list (K := K) (a := L) (xs := xs) (fun i Y => Same G Y ∧ Y D2 = some (.lst (((es.map fun e => ((e.size + 3 : Nat) : Int)).take i).map V.int))) ⟨same_upd hD2, upd_same⟩ (fun i Y _ h => SqL.of (h.1 _ _ eL2)) ?_ ?_
      · rintro i x Y hx ⟨smY, eD⟩
        obtain ⟨e, he, hxe⟩ := paired_at hp hx
        have tk : (es.map fun e => ((e.size + 3 : Nat) : Int)).take (i + 1) = (es.map fun e => ((e.size + 3 : Nat) : Int)).take i ++ [((e.size + 3 : Nat) : Int)] := by rw [List.take_add_one, List.getElem?_map, he]; rfl
        have hi : i < es.length := (List.getElem?_eq_some_iff.mp he).1
        refine ⟨rfl, _, rfl, x, e, rfl, hxe.same (sm2.trans smY), (ej e (List.mem_of_getElem? he)).b.2, fun G2 s3 => ?_⟩
        have eD2 := s3 _ _ eD
        refine ⟨_, _, rfl, rfl, _, eD2, Nat.lt_of_le_of_lt (show _ ≤ 100 by rw [List.length_map, List.length_take, List.length_map]; omega) (by decide), fun b o ex => ?_, ?_⟩
        · rw [upd_ne (ne_of_none ex hD2)]
          exact s3 _ _ (smY _ _ ex)
        · rw [tk, List.map_append]
          exact upd_same
      rintro Y ⟨smY, eD⟩
      rw [lx, List.take_of_length_le (by rw [List.length_map]; exact Nat.le_refl _)] at eD
      have e1 : (es.map fun e => ((e.size + 3 : Nat) : Int)).sum = (((es.map fun e => e.size + 3).sum : Nat) : Int) := by
        rw [← sum_cast, List.map_map]
        rfl
      have e2 : decide ((250 : Int) < (((es.map fun e => e.size + 3).sum : Nat) : Int)) = decide (250 < (es.map fun e => e.size + 3).sum) := decide_eq_decide.mpr (by omega)
      have sC := sB.trans smY
      refine ⟨D2, _, rfl, SqL.of eD, _, _, rfl, rfl, _, rfl, sel (fun c => ?_) (fun c => ?_)⟩
      · have c2 : decide (250 < (es.map fun e => e.size + 3).sum) = true := by rw [← e2, ← e1]; exact c
        rw [c2] at lgS
        have h := q _ sC
        rw [big lgS] at h
        exact h
      · have c2 : decide (250 < (es.map fun e => e.size + 3).sum) = false := by rw [← e2, ← e1]; exact c
        rw [c2] at lgS
        refine ⟨_, _, _, _, rfl, sC, fun r hr => ?_⟩
        have tkA : as.take (j + 1) = as.take j ++ [p] := by rw [List.take_add_one, hpx]; rfl
        rw [tkA] at hr
        rcases List.mem_append.mp hr with hr | hr
        · exact hall r hr
        · rw [List.mem_singleton.mp hr]
          exact lgS
    have nf : p.2.det.what ≠ "filter" := fun z => by rw [z] at ea; exact absurd ea (by decide +kernel)
    refine ⟨_, rfl, p.1, _, 1, .str p.2.det.what, rfl, rfl, SqT.of x1, rfl, rfl, _, rfl, sel (fun eb => ?_) fun eb => ?_⟩
    · obtain ⟨ms, hd⟩ := what_map (eqS eb)
      rw [hd] at x3
      have hes0 := hes
      unfold exprsS at hes
      rw [hd] at hes
      dsimp only at hes
      obtain ⟨t, asm, rfl, g1, g2, g3⟩ := x3
      refine ⟨_, rfl, p.1, _, 3, .ref t, rfl, rfl, SqT.of x1, rfl, t, rfl, ⟨_, SqT.of g1⟩, fun L hD => ?_⟩
      refine lc_tup (K := K) (a := t) (xs := asm.map fun p => .ref p.1) (fun i G => Same G0 G ∧ ∃ xs, G L = some (.lst xs) ∧ xs.length = (asm.take i).length ∧ Paired (ExAt G) xs ((asm.take i).map fun p => p.2.1)) ⟨same_upd hD, [], upd_same, rfl, .nil⟩ (fun i G _ h => SqT.of (h.1 _ _ g1)) ?_ ?_
      · rintro i x G hx ⟨sm, xs, eD, lx, hp⟩
        rw [List.getElem?_map] at hx
        obtain ⟨p, hpx, rfl⟩ := Option.map_eq_some_iff.mp hx
        obtain ⟨told, w1, w2⟩ := g2 p (List.mem_of_getElem? hpx)
        have la : asm.length ≤ 100 := by rw [← hes, ← g3, List.length_map, List.length_map] at el; exact el
        rw [List.length_take] at lx
        have tk : asm.take (i + 1) = asm.take i ++ [p] := by rw [List.take_add_one, hpx]; rfl
        have back : ∀ (a : Addr) (ys : List V), G a = some (.tup ys) → (upd G L (.lst (xs ++ [told]))) a = some (.tup ys) := fun a ys e => by
          rw [upd_ne (fun z => by rw [z, eD] at e; cases e)]
          exact e
        refine ⟨p.1, _, rfl, SqT.of (sm _ _ w1), rfl, _, _, rfl, _, _, rfl, rfl, rfl, _, rfl, _, eD, Nat.lt_of_le_of_lt (show _ ≤ 100 by omega) (by decide), fun b o ex => ?_, xs ++ [told], upd_same, ?_, ?_⟩
        · rw [upd_ne (ne_of_none ex hD)]
          exact sm _ _ ex
        · rw [tk, List.length_append, List.length_append, List.length_take, lx]
          rfl
        · rw [tk, List.map_append]
          exact paired_app (paired_keep hp back) (.cons (ExAt.keep back (ExAt.same w2 sm)) .nil)
      rintro H1 ⟨s1, xs, eL, _, hp⟩
      rw [List.length_map, List.take_length] at hp
      have hp : Paired (ExAt H1) xs es := by
        rw [← hes, ← g3, List.map_map]
        exact hp
      have hes := hes0
      have lx : xs.length = es.length := Paired.length hp
      have sA := sm.trans s1
      refine ⟨_, rfl, L, rfl, ⟨_, SqL.of eL⟩, fun D hD => ?_⟩
      refine lc_list (K := K) (a := L) (xs := xs) (fun i G => Same H1 G ∧ G D = some (.lst (((es.map largeE).take i).map V.bl))) ⟨same_upd hD, upd_same⟩ (fun i G _ h => SqL.of (h.1 _ _ eL)) ?_ ?_
      · rintro i x G hx ⟨sm, eD⟩
        obtain ⟨e, he, hxe⟩ := paired_at hp hx
        have em := List.mem_of_getElem? he
        have ge := (ej e em).b
        have tk : (es.map largeE).take (i + 1) = (es.map largeE).take i ++ [largeE e] := by rw [List.take_add_one, List.getElem?_map, he]; rfl
        have hi : i < es.length := (List.getElem?_eq_some_iff.mp he).1
        have fin : ∀ {G2 : Hp}, Same G G2 → ∃ acc, G2 D = some (.lst acc) ∧ acc.length < sizeLine ∧ Same H1 (upd G2 D (.lst (acc ++ [V.bl (largeE e)]))) ∧ upd G2 D (.lst (acc ++ [V.bl (largeE e)])) D = some (.lst (((es.map largeE).take (i + 1)).map V.bl)) := fun {G2} s2 => by
          refine ⟨_, s2 _ _ eD, Nat.lt_of_le_of_lt (show _ ≤ 100 by rw [List.length_map, List.length_take, List.length_map]; omega) (by decide), fun b o ex => ?_, ?_⟩
          · rw [upd_ne (ne_of_none ex hD)]
            exact s2 _ _ (sm _ _ ex)
          · rw [tk, List.map_append]
            exact upd_same
        rw [large_is] at fin
        refine ⟨rfl, _, rfl, x, e, rfl, hxe.same sm, ge.2, fun G2 s2 => ⟨_, _, rfl, rfl, _, rfl, ite2 (fun c => ?_) (fun c => ?_)⟩⟩
        · have c2 : decide (80 < e.size) = true := decide_eq_true (by have := of_decide_eq_true c; omega)
          rw [c2, Bool.true_or] at fin
          exact c ▸ fin s2
        · have c2 : decide (80 < e.size) = false := decide_eq_false fun h => c (decide_eq_true (by omega))
          rw [c2, Bool.false_or] at fin
          refine ⟨_, rfl, x, e, rfl, (hxe.same sm).same s2, ge.2, fun G3 s3 => ⟨_, _, rfl, rfl, ?_⟩⟩
          have e1 : decide ((40 : Int) < ((e.dep : Nat) : Int)) = decide (40 < e.dep) := decide_eq_decide.mpr (by omega)
          rw [← e1] at fin
          exact fin (s2.trans s3)
      rintro G ⟨sm2, eD⟩
      rw [lx, List.take_of_length_le (by rw [List.length_map]; exact Nat.le_refl _)] at eD
      have ea : es.any largeE = (es.map largeE).any id := by rw [List.any_map]; rfl
      have sB := sA.trans sm2
      have lgS : largeS p.2 = (es.any largeE || decide (250 < (es.map fun e => e.size + 3).sum)) := by rw [← hes]; rfl
      refine ⟨D, _, rfl, SqL.of eD, _, rfl, ite2 (fun c => ?_) (fun c => ?_)⟩
      · have h := q _ sB
        rw [big (by rw [lgS, ea, c, Bool.true_or])] at h
        exact h
      have c' : (es.map largeE).any id = false := Bool.eq_false_iff.mpr c
      rw [ea, c', Bool.false_or] at lgS
      have eL2 := sm2 _ _ eL
      refine ⟨_, rfl, L, rfl, ⟨_, SqL.of eL2⟩, fun D2 hD2 => ?_⟩
      refine lc_list (K := K) (a := L) (xs := xs) (fun i Y => Same G Y ∧ Y D2 = some (.lst (((es.map fun e => ((e.size + 3 : Nat) : Int)).take i).map V.int))) ⟨same_upd hD2, upd_same⟩ (fun i Y _ h => SqL.of (h.1 _ _ eL2)) ?_ ?_
      · rintro i x Y hx ⟨smY, eD⟩
        obtain ⟨e, he, hxe⟩ := paired_at hp hx
        have tk : (es.map fun e => ((e.size + 3 : Nat) : Int)).take (i + 1) = (es.map fun e => ((e.size + 3 : Nat) : Int)).take i ++ [((e.size + 3 : Nat) : Int)] := by rw [List.take_add_one, List.getElem?_map, he]; rfl
        have hi : i < es.length := (List.getElem?_eq_some_iff.mp he).1
        refine ⟨rfl, _, rfl, x, e, rfl, hxe.same (sm2.trans smY), (ej e (List.mem_of_getElem? he)).b.2, fun G2 s3 => ?_⟩
        have eD2 := s3 _ _ eD
        refine ⟨_, _, rfl, rfl, _, eD2, Nat.lt_of_le_of_lt (show _ ≤ 100 by rw [List.length_map, List.length_take, List.length_map]; omega) (by decide), fun b o ex => ?_, ?_⟩
        · rw [upd_ne (ne_of_none ex hD2)]
          exact s3 _ _ (smY _ _ ex)
        · rw [tk, List.map_append]
          exact upd_same
      rintro Y ⟨smY, eD⟩
      rw [lx, List.take_of_length_le (by rw [List.length_map]; exact Nat.le_refl _)] at eD
      have e1 : (es.map fun e => ((e.size + 3 : Nat) : Int)).sum = (((es.map fun e => e.size + 3).sum : Nat) : Int) := by
        rw [← sum_cast, List.map_map]
        rfl
      have e2 : decide ((250 : Int) < (((es.map fun e => e.size + 3).sum : Nat) : Int)) = decide (250 < (es.map fun e => e.size + 3).sum) := decide_eq_decide.mpr (by omega)
      have sC := sB.trans smY
      refine ⟨D2, _, rfl, SqL.of eD, _, _, rfl, rfl, _, rfl, sel (fun c => ?_) (fun c => ?_)⟩
      · have c2 : decide (250 < (es.map fun e => e.size + 3).sum) = true := by rw [← e2, ← e1]; exact c
        rw [c2] at lgS
        have h := q _ sC
        rw [big lgS] at h
        exact h
      · have c2 : decide (250 < (es.map fun e => e.size + 3).sum) = false := by rw [← e2, ← e1]; exact c
        rw [c2] at lgS
        refine ⟨_, _, _, _, rfl, sC, fun r hr => ?_⟩
        have tkA : as.take (j + 1) = as.take j ++ [p] := by rw [List.take_add_one, hpx]; rfl
        rw [tkA] at hr
        rcases List.mem_append.mp hr with hr | hr
        · exact hall r hr
        · rw [List.mem_singleton.mp hr]
          exact lgS
    · have nm : p.2.det.what ≠ "map" := fun z => by rw [z] at eb; exact absurd eb (by decide +kernel)
      refine ⟨z0, fun L hL => ?_⟩
      have s1 := same_upd (o := .lst []) hL
      have eL : upd G0 L (.lst []) L = some (.lst []) := upd_same
      have e0 : exprsS p.2 = [] := by
        unfold exprsS
        cases hd : p.2.det with
        | filter e => exact absurd (by rw [hd]; rfl) nf
        | map e => exact absurd (by rw [hd]; rfl) nm
        | _ => rfl
      have hp : Paired (ExAt (upd G0 L (.lst []))) [] es := by rw [← hes, e0]; exact .nil
      generalize upd G0 L (.lst []) = H1 at s1 eL hp ⊢
      obtain ⟨xs, exs⟩ : ∃ xs : List V, xs = [] := ⟨_, rfl⟩
      rw [← exs] at eL hp
      have lx : xs.length = es.length := Paired.length hp
      have sA := sm.trans s1
      refine ⟨_, rfl, L, rfl, ⟨_, SqL.of eL⟩, fun D hD => ?_⟩
      refine lc_list (K := K) (a := L) (xs := xs) (fun i G => Same H1 G ∧ G D = some (.lst (((es.map largeE).take i).map V.bl))) ⟨same_upd hD, upd_same⟩ (fun i G _ h => SqL.of (h.1 _ _ eL)) ?_ ?_
      · rintro i x G hx ⟨sm, eD⟩
        obtain ⟨e, he, hxe⟩ := paired_at hp hx
        have em := List.mem_of_getElem? he
        have ge := (ej e em).b
        have tk : (es.map largeE).take (i + 1) = (es.map largeE).take i ++ [largeE e] := by rw [List.take_add_one, List.getElem?_map, he]; rfl
        have hi : i < es.length := (List.getElem?_eq_some_iff.mp he).1
        have fin : ∀ {G2 : Hp}, Same G G2 → ∃ acc, G2 D = some (.lst acc) ∧ acc.length < sizeLine ∧ Same H1 (upd G2 D (.lst (acc ++ [V.bl (largeE e)]))) ∧ upd G2 D (.lst (acc ++ [V.bl (largeE e)])) D = some (.lst (((es.map largeE).take (i + 1)).map V.bl)) := fun {G2} s2 => by
          refine ⟨_, s2 _ _ eD, Nat.lt_of_le_of_lt (show _ ≤ 100 by rw [List.length_map, List.length_take, List.length_map]; omega) (by decide), fun b o ex => ?_, ?_⟩
          · rw [upd_ne (ne_of_none ex hD)]
            exact s2 _ _ (sm _ _ ex)
          · rw [tk, List.map_append]
            exact upd_same
        rw [large_is] at fin
        refine ⟨rfl, _, rfl, x, e, rfl, hxe.same sm, ge.2, fun G2 s2 => ⟨_, _, rfl, rfl, _, rfl, ite2 (fun c => ?_) (fun c => ?_)⟩⟩
        · have c2 : decide (80 < e.size) = true := decide_eq_true (by have := of_decide_eq_true c; omega)
          rw [c2, Bool.true_or] at fin
          exact c ▸ fin s2
        · have c2 : decide (80 < e.size) = false := decide_eq_false fun h => c (decide_eq_true (by omega))
          rw [c2, Bool.false_or] at fin
          refine ⟨_, rfl, x, e, rfl, (hxe.same sm).same s2, ge.2, fun G3 s3 => ⟨_, _, rfl, rfl, ?_⟩⟩
          have e1 : decide ((40 : Int) < ((e.dep : Nat) : Int)) = decide (40 < e.dep) := decide_eq_decide.mpr (by omega)
          rw [← e1] at fin
          exact fin (s2.trans s3)
      rintro G ⟨sm2, eD⟩
      rw [lx, List.take_of_length_le (by rw [List.length_map]; exact Nat.le_refl _)] at eD
      have ea : es.any largeE = (es.map largeE).any id := by rw [List.any_map]; rfl
      have sB := sA.trans sm2
      have lgS : largeS p.2 = (es.any largeE || decide (250 < (es.map fun e => e.size + 3).sum)) := by rw [← hes]; rfl
      refine ⟨D, _, rfl, SqL.of eD, _, rfl, ite2 (fun c => ?_) (fun c => ?_)⟩
      · have h := q _ sB
        rw [big (by rw [lgS, ea, c, Bool.true_or])] at h
        exact h
      have c' : (es.map largeE).any id = false := Bool.eq_false_iff.mpr c
      rw [ea, c', Bool.false_or] at lgS
      have eL2 := sm2 _ _ eL
      refine ⟨_, rfl, L, rfl, ⟨_, SqL.of eL2⟩, fun D2 hD2 => ?_⟩
      refine lc_list (K := K) (a := L) (xs := xs) (fun i Y => Same G Y ∧ Y D2 = some (.lst (((es.map fun e => ((e.size + 3 : Nat) : Int)).take i).map V.int))) ⟨same_upd hD2, upd_same⟩ (fun i Y _ h => SqL.of (h.1 _ _ eL2)) ?_ ?_
      · rintro i x Y hx ⟨smY, eD⟩
        obtain ⟨e, he, hxe⟩ := paired_at hp hx
        have tk : (es.map fun e => ((e.size + 3 : Nat) : Int)).take (i + 1) = (es.map fun e => ((e.size + 3 : Nat) : Int)).take i ++ [((e.size + 3 : Nat) : Int)] := by rw [List.take_add_one, List.getElem?_map, he]; rfl
        have hi : i < es.length := (List.getElem?_eq_some_iff.mp he).1
        refine ⟨rfl, _, rfl, x, e, rfl, hxe.same (sm2.trans smY), (ej e (List.mem_of_getElem? he)).b.2, fun G2 s3 => ?_⟩
        have eD2 := s3 _ _ eD
        refine ⟨_, _, rfl, rfl, _, eD2, Nat.lt_of_le_of_lt (show _ ≤ 100 by rw [List.length_map, List.length_take, List.length_map]; omega) (by decide), fun b o ex => ?_, ?_⟩
        · rw [upd_ne (ne_of_none ex hD2)]
          exact s3 _ _ (smY _ _ ex)
        · rw [tk, List.map_append]
          exact upd_same
      rintro Y ⟨smY, eD⟩
      rw [lx, List.take_of_length_le (by rw [List.length_map]; exact Nat.le_refl _)] at eD
      have e1 : (es.map fun e => ((e.size + 3 : Nat) : Int)).sum = (((es.map fun e => e.size + 3).sum : Nat) : Int) := by
        rw [← sum_cast, List.map_map]
        rfl
      have e2 : decide ((250 : Int) < (((es.map fun e => e.size + 3).sum : Nat) : Int)) = decide (250 < (es.map fun e => e.size + 3).sum) := decide_eq_decide.mpr (by omega)
      have sC := sB.trans smY
      refine ⟨D2, _, rfl, SqL.of eD, _, _, rfl, rfl, _, rfl, sel (fun c => ?_) (fun c => ?_)⟩
      · have c2 : decide (250 < (es.map fun e => e.size + 3).sum) = true := by rw [← e2, ← e1]; exact c
        rw [c2] at lgS
        have h := q _ sC
        rw [big lgS] at h
        exact h
      · have c2 : decide (250 < (es.map fun e => e.size + 3).sum) = false := by rw [← e2, ← e1]; exact c
        rw [c2] at lgS
        refine ⟨_, _, _, _, rfl, sC, fun r hr => ?_⟩
        have tkA : as.take (j + 1) = as.take j ++ [p] := by rw [List.take_add_one, hpx]; rfl
        rw [tkA] at hr
        rcases List.mem_append.mp hr with hr | hr
        · exact hall r hr
        · rw [List.mem_singleton.mp hr]
          exact lgS
  · rintro σ G ⟨y1, y2, y3, y4, rfl, sm, hall⟩
    rw [List.length_map, List.take_length] at hall
    refine ⟨_, rfl, job, _, 0, _, rfl, rfl, SqT.of (sm _ _ h1), rfl, st, _, rfl, .inr (SqT.of (sm _ _ h2)), _, _, rfl, rfl, ?_⟩
    have h := q _ sm
    have e1 : largeJ (as.map (·.2)) = decide (150 < as.length) := by
      unfold largeJ
      have an0 : (as.map (·.2)).any largeS = false := by
        cases c : (as.map (·.2)).any largeS with
        | false => rfl
        | true =>
          obtain ⟨u, hu, h⟩ := List.any_eq_true.mp c
          obtain ⟨r, hr', rfl⟩ := List.mem_map.mp hu
          rw [hall r hr'] at h
          cases h
      rw [List.length_map, an0, Bool.or_false]
    have e2 : (!largeJ (as.map (·.2))) = decide ((((as.map fun p => V.ref p.1).length : Nat) : Int) ≤ 150) := by
      rw [e1, List.length_map, ← decide_not]
      exact decide_eq_decide.mpr (by omega)
    rw [e2] at h
    exact h
end
end Kx

set_option maxHeartbeats 8000000
namespace Kx
open PySem PySem.Spec PyProof.Rows L2
abbrev s_lmade : Stmt := topS 78
def rules10 : List Str := ["and", "past map", "past join", "past fold", "past union", "past unlike", "maps", "narrow", "same", "drop"]
theorem not10 {r : Str} (h : r ∈ rulesA) (n : r ∉ rules10) : r = "no" := by
  have e : rulesA = rules10 ++ (["no"] : List Str) := rfl
  rw [e] at h
  rcases List.mem_append.mp h with h | h
  · exact absurd h n
  · exact List.mem_singleton.mp h
theorem no_none {ss : List Stp} {an x : Str} : apF ss an "no" x = none := by
  unfold apF
  cases namedS ss x with
  | none => rfl
  | some s =>
    dsimp only
    rw [if_neg (by decide +kernel : ¬ ("no" : Str) = "same"), if_neg (by decide +kernel : ¬ ("no" : Str) = "drop")]
    have : madeF (knOf ss) ss "no" s = none := by
      unfold madeF
      cases s.det with
      | fold ks fs => exact if_neg (by decide +kernel)
      | filter e =>
        dsimp only
        cases namedS ss (s.ins.getD 0 "") with
        | none => rfl
        | some b =>
          dsimp only
          cases b.det <;> first | rfl | exact if_neg (by decide +kernel)
      | map ms =>
        dsimp only
        cases namedS ss (s.ins.getD 0 "") with
        | none => rfl
        | some b =>
          dsimp only
          cases b.det <;> first | rfl | exact if_neg (by decide +kernel)
      | _ => rfl
    rw [this]
    rfl
section
variable {P : Program} {w : World} {K : PySem.W.Frag} {mg : Str → Option Value} {base : Heap}
def spLMade : Sp := fun vs H Q _ => ∃ (job ru : Addr) (v : V) (as : List (Addr × Stp)) (an : Str) (n : Nat) (rw : Rw), vs = [.ref job, v, .ref ru] ∧ JG (as.map (·.2)) an n ∧ n ≤ 45 ∧ JobAt H job as an ∧ RowAt H v rw ∧ (∀ r x, rw = .pair r x → r ∈ rulesA) ∧ H ru = some (.tup (rules10.map V.str)) ∧ Res H an Q (byF (as.map (·.2)) an rw)
abbrev N_lmade : List Str := ["here", "row", "rules", "late"]
theorem sc_lmade : FnScope N_lmade ["here", "row", "rules"] (defScope s_lmade) := ⟨rfl, rfl, rfl, by decide +kernel, rfl, by decide +kernel, by decide +kernel⟩
theorem ok_lmade {f : Addr} {fd : FuncData} {k ka ks : Nat} (F : Fun K "_law_made" "_law_made" s_lmade f fd) (hka : ka ≤ k) (hks : ks ≤ k) (m_isinstance : mg "isinstance" = none) (m_tuple : mg "tuple" = none) (m_str : mg "str" = none) (m_len : mg "len" = none) (G_applied : Ready P w K mg base ka "applied" ["job", "rule", "name"] spApplied) (G_small : Ready P w K mg base ks "_law_is_small" ["job"] spSmall) : FnOk P w K mg base CX0 (k + 1) f fd ["here", "row", "rules"] spLMade := by
  refine F.ok sc_lmade (fun vs H Q E h => ?_) (fun cdv A outer s0 H vs Q E hr h => ?_)
  · obtain ⟨job, ru, v, as, an, n, rw, rfl, _⟩ := h
    rfl
  obtain ⟨job, ru, v, as, an, n, rw, rfl, g, hn, hj, hv, hrule, hru, q⟩ := h
  have nd := sc_lmade.nd
  have hrk : Room k _ := hr
  have hra : Room ka _ := hrk.mono hka
  have hrs : Room ks _ := hrk.mono hks
  refine ⟨_, pss_cons (ps_if (PW.pt (pw_or (pt_not (pt_val (pe_callB call_isi (by rfl) m_isinstance PyProof.Rows.boot_isinstance (pa_cons (pv 1) (pa_cons (pe_bltn (v := .ty "tuple") (by rfl) m_tuple PyProof.Rows.boot_tuple rfl) pa_nil))))) (pw_or (pt_cmpR op_ne (pe_callB call_len_seq (by rfl) m_len PySem.boot_len (pa_cons (pv 1) pa_nil)) pe_int (nomark _)) (pw_or (pt_cmpR op_notIn_seq (pe_ix ix_tup (pv 1) pe_int (fun _ _ => rfl)) (pv 2) (by rfl)) (pw_or1 (pt_not (pt_val (pe_callB call_isi (by rfl) m_isinstance PyProof.Rows.boot_isinstance (pa_cons (pe_ix ix_tup (pv 1) pe_int (fun _ _ => rfl)) (pa_cons (pe_bltn (v := .ty "str") (by rfl) m_str PyProof.Rows.boot_str rfl) pa_nil)))))))))) (pss_one (ps_ret pe_non)) (pss_nil))
      (pss_cons (ps_set (i := 3) nd rfl (.inl rfl) (pe_fn G_applied hra (pa_cons (pv 0) (pa_cons (pe_ix ix_tup (pv 1) pe_int (fun _ _ => rfl)) (pa_cons (pe_ix ix_tup (pv 1) pe_int (fun _ _ => rfl)) pa_nil)))))
      (pss_one (ps_ret (pe_ifExp (PW.pt (pw_and (pt_cmpR op_notN (pv 3) pe_non (nomark _)) (pw_and1 (pt_val (pe_fn G_small hrs (pa_cons (pv 3) pa_nil)))))) (pv 3) pe_non)))), ?_⟩
  have two : ∀ x : V, (!decide (V.int ((([x, x] : List V).length : Nat) : Int) = V.int 2)) = false := fun x => by
    show (!decide (V.int 2 = V.int 2)) = false
    rw [decide_eq_true rfl]
    rfl
  have q0 : byF (as.map (·.2)) an rw = none → Q .non H := fun e => q.1 e H (Same.refl H)
  cases rw with
  | pair r x =>
    obtain ⟨a, rfl, ha⟩ := hv
    refine ⟨_, rfl, _, _, _, _, true, rfl, .ty _, ty_T ha, kit_ty (by decide +kernel : kitB "tuple" "tuple" = some true), _, rfl, ifF' rfl ?_⟩
    refine ⟨_, rfl, a, _, rfl, .inr (SqT.of ha), rfl, _, rfl, ifF' (two .non) ?_⟩
    refine ⟨_, rfl, a, _, 0, .str r, rfl, rfl, SqT.of ha, rfl, _, rfl, ru, _, rfl, .inr (SqT.of hru), rfl, flat_strs rules10, _, rfl, ?_⟩
    rw [if_pos rfl, inV_str]
    refine sel (fun c => ?_) (fun c => ?_)
    · have nr : r ∉ rules10 := fun z => by rw [decide_eq_true z] at c; cases c
      refine q0 ?_
      rw [byF_pair, not10 (hrule r x rfl) nr, no_none]
      rfl
    refine ⟨_, rfl, a, _, 1, .str x, rfl, rfl, SqT.of ha, rfl, _, _, _, _, true, rfl, .ty _, .base (.str x), kit_ty (by decide +kernel : kitB "str" "str" = some true), _, rfl, ifF' rfl ?_⟩
    obtain ⟨kn, J⟩ := g.on (by omega) hj
    refine ⟨_, rfl, _, rfl, a, _, 0, .str r, rfl, rfl, SqT.of ha, rfl, _, rfl, a, _, 1, .str x, rfl, rfl, SqT.of ha, rfl, job, as, an, r, x, kn, rfl, hrule r x rfl, J, fun e H2 s2 => ?_, fun ss' e r2 as' H2 s2 hj2 ej => ?_⟩
    · refine ⟨_, rfl, rfl, _, rfl, ?_⟩
      exact ifF' (by show (!decide (V.non = V.non)) = false; rw [decide_eq_true rfl]; rfl) (q.1 (by rw [byF_pair, e]; rfl) H2 s2)
    · have B := ap_ok g hn e
      refine ⟨_, rfl, rfl, _, rfl, ?_⟩
      refine ifT' (by show (!decide (V.ref r2 = V.non)) = true; rw [decide_eq_false fun z => by cases z]; rfl) ?_
      refine ⟨_, rfl, r2, as', an, rfl, hj2, fun p hp => B.steps p.2 (by rw [← ej]; exact List.mem_map.mpr ⟨p, hp, rfl⟩), by have := B.len; rw [← ej, List.length_map] at this; omega, fun H3 s3 => ⟨_, rfl, sel (fun c => ?_) fun c => ?_⟩⟩
      · have c' : largeJ (as'.map (·.2)) = false := by
          cases z : largeJ (as'.map (·.2)) with
          | false => rfl
          | true => rw [z] at c; cases c
        refine ⟨_, rfl, q.2 ss' ?_ r2 as' H3 (s2.trans s3) (hj2.same s3) ej⟩
        rw [byF_pair, e]
        show (if largeJ ss' = true then none else some ss') = some ss'
        rw [← ej, c', if_neg Bool.false_ne_true]
      · have c' : largeJ (as'.map (·.2)) = true := by
          cases z : largeJ (as'.map (·.2)) with
          | true => rfl
          | false => rw [z] at c; cases c
        exact q.1 (by rw [byF_pair, e]; show (if largeJ ss' = true then none else some ss') = none; rw [← ej, if_pos c']) H3 (s2.trans s3)
  | mix r i =>
    obtain ⟨a, rfl, ha⟩ := hv
    refine ⟨_, rfl, _, _, _, _, true, rfl, .ty _, ty_T ha, kit_ty (by decide +kernel : kitB "tuple" "tuple" = some true), _, rfl, ifF' rfl ?_⟩
    refine ⟨_, rfl, a, _, rfl, .inr (SqT.of ha), rfl, _, rfl, ifF' (two .non) ?_⟩
    refine ⟨_, rfl, a, _, 0, .str r, rfl, rfl, SqT.of ha, rfl, _, rfl, ru, _, rfl, .inr (SqT.of hru), rfl, flat_strs rules10, _, rfl, ?_⟩
    rw [if_pos rfl, inV_str]
    refine sel (fun c => q0 rfl) (fun c => ?_)
    exact ⟨_, rfl, a, _, 1, .int i, rfl, rfl, SqT.of ha, rfl, _, _, _, _, false, rfl, .ty _, .base (.int i), kit_ty (by decide +kernel : kitB "int" "str" = some false), _, rfl, ifT' rfl (q0 rfl)⟩
  | one r =>
    obtain ⟨a, rfl, ha⟩ := hv
    refine ⟨_, rfl, _, _, _, _, true, rfl, .ty _, ty_T ha, kit_ty (by decide +kernel : kitB "tuple" "tuple" = some true), _, rfl, ifF' rfl ?_⟩
    exact ⟨_, rfl, a, _, rfl, .inr (SqT.of ha), rfl, _, rfl, ifT' (by show (!decide (V.int 1 = V.int 2)) = true; rw [decide_eq_false fun z => by injection z with z; cases z]; rfl) (q0 rfl)⟩
  | lst r n =>
    obtain ⟨a, rfl, ha⟩ := hv
    exact ⟨_, rfl, _, _, _, _, false, rfl, .ty _, ty_L ha, kit_ty (by decide +kernel : kitB "list" "tuple" = some false), _, rfl, ifT' rfl (q0 rfl)⟩
  | non =>
    cases hv
    exact ⟨_, rfl, _, _, _, _, false, rfl, .ty _, .base .non, kit_ty (by decide +kernel : kitB "NoneType" "tuple" = some false), _, rfl, ifT' rfl (q0 rfl)⟩
  | int i =>
    cases hv
    exact ⟨_, rfl, _, _, _, _, false, rfl, .ty _, .base (.int i), kit_ty (by decide +kernel : kitB "int" "tuple" = some false), _, rfl, ifT' rfl (q0 rfl)⟩
end
end Kx

set_option maxHeartbeats 8000000
namespace Kx
open PySem PySem.Spec PyProof.Rows L2
abbrev s_row : Stmt := topS 77
abbrev PR := Addr × Str × Str
def prD (p : PR) : PyData := .tuple [.str p.2.1, .str p.2.2]
def PrAt (H : Hp) (ps : List PR) : Prop := ∀ p ∈ ps, H p.1 = some (.tup [.str p.2.1, .str p.2.2])
theorem rules_sg : ∀ r ∈ rules10, Sg r := by
  show ∀ r ∈ rules10, PyData.canLay0 (.str r) = true
  decide +kernel
theorem pr_sh {ps : List PR} (h : ∀ p ∈ ps, Sg p.2.1 ∧ Sg p.2.2) : SeqAt.shaped (.list (ps.map prD)) = true := by
  have o : Ok 2 (.tuple (ps.map prD)) := dk_map (n := 1) fun p hp => dk_two (n := 0) (dk_str (h p hp).1) (dk_str (h p hp).2)
  exact o.shaped (by decide)
theorem pr_dp {K : PySem.W.Frag} {H : Hp} : ∀ {ps : List PR}, PrAt H ps → DpAll K H (ps.map fun p => .ref p.1) (ps.map prD)
  | [], _ => .nil
  | p :: ps, h => .cons (.tup (SqT.of (h p List.mem_cons_self)) (.cons (.str _) (.cons (.str _) .nil))) (pr_dp fun x hx => h x (List.mem_cons_of_mem _ hx))
section
variable {P : Program} {w : World} {K : PySem.W.Frag} {mg : Str → Option Value} {base : Heap}
def spRow : Sp := fun vs H Q _ => ∃ (d s job ru : Addr) (ns : List Int) (tl : List V) (n : Int) (as : List (Addr × Stp)) (an : Str) (m : Nat), vs = [.ref d, .ref job, .ref ru] ∧ DrawAt H d s ns tl n ∧ JG (as.map (·.2)) an m ∧ m ≤ 45 ∧ JobAt H job as an ∧ H ru = some (.tup (rules10.map V.str)) ∧ ∀ (v : V) (rw : Rw) (H' : Hp) (n' : Int), But d H H' → DrawAt H' d s ns tl n' → RowAt H' v rw → (∀ r x, rw = .pair r x → r ∈ rulesA) → Q v H'
abbrev N_row : List Str := ["draw", "here", "rules", "some", "rule", "step", "wrong"]
theorem sc_row : FnScope N_row ["draw", "here", "rules"] (defScope s_row) := ⟨rfl, rfl, rfl, by decide +kernel, rfl, by decide +kernel, by decide +kernel⟩
theorem ok_row {f : Addr} {fd : FuncData} {k ka : Nat} (F : Fun K "_law_row" "_law_row" s_row f fd) (hk : 4 ≤ k) (hka : ka ≤ k) (G_applied : Ready P w K mg base ka "applied" ["job", "rule", "name"] spApplied) (G_law_next : Ready P w K mg base 3 "_law_next" ["draw", "bound"] spNext) (G_law_pick : Ready P w K mg base 4 "_law_pick" ["draw", "things"] (spPick K)) : FnOk P w K mg base CX0 (k + 1) f fd ["draw", "here", "rules"] spRow := by
  refine F.ok sc_row (fun vs H Q E h => ?_) (fun cdv A outer s0 H vs Q E hr h => ?_)
  · obtain ⟨d, s, job, ru, ns, tl, n, as, an, m, rfl, _⟩ := h
    rfl
  obtain ⟨d, s, job, ru, ns, tl, n, as, an, m, rfl, D, g, hm, hj, hru, q⟩ := h
  have nd := sc_row.nd
  have hu64 : _ + 64 < cLine := hr.units
  have hrk : Room k _ := hr
  have hra : Room ka _ := hrk.mono hka
  have hr4 : Room 4 _ := hrk.mono hk
  have hr3 : Room 3 _ := hr4.mono (by decide)
  refine ⟨_, pss_cons (ps_set (i := 3) nd rfl (.inl rfl) (pe_lst pa_nil))
      (pss_cons (ps_for PassesOwn.never rfl (pi_tup (pv 2)) (pg_name (i := 4) nd rfl (.inr rfl)) (pss_one (ps_set (i := 3) nd rfl (.inl rfl) (pe_op op_cat (pv 3) (pe_lc (own := [("step", 5)]) (g := gName 5) (tt := tTest (tOp (fun x y H Q => y = .non ∧ Q (.bl (!decide (x = .non))) H) (tCall spApplied [] E0 (tCons (tVar 1) (tCons (tVar 4) (tCons (tOp (rIxT K) (tVar 5) (tC (.int 0))) tNil)))) (tC .non))) (te := tTup (tCons (tVar 4) (tCons (tOp (rIxT K) (tVar 5) (tC (.int 0))) tNil))) rfl nd (pi_tup (pe_ix ix_tup (pv 1) pe_int (fun _ _ => rfl))) (blkOk_by (N := N_row) (sc := defScope s_row) (by decide +kernel)) (fun _ _ _ _ _ => pg_name (i := 5) nd rfl (Or.inl rfl)) (fun _ _ _ _ _ => pts_one (pt_cmpR op_notN (pe_fn G_applied hra (pa_cons (pv 1) (pa_cons (pv 4) (pa_cons (pe_ix ix_tup (pv 5) pe_int (fun _ _ => rfl)) pa_nil)))) pe_non (nomark _))) (fun _ _ _ _ _ => (pe_tup (pa_cons (pv 4) (pa_cons (pe_ix ix_tup (pv 5) pe_int (fun _ _ => rfl)) pa_nil)))))))))
      (pss_cons (ps_if (PW.pt (pw_and (pt_cmpR (op_neD hu64) (pv 3) (pe_lst pa_nil) (nomark _)) (pw_and1 (pt_cmpR op_gt (pe_fn G_law_next hr3 (pa_cons (pv 0) (pa_cons pe_int pa_nil))) pe_int (nomark _))))) (pss_one (ps_ret (pe_fn G_law_pick hr4 (pa_cons (pv 0) (pa_cons (pv 3) pa_nil))))) (pss_nil))
      (pss_cons (ps_set (i := 6) nd rfl (.inl rfl) (pe_lst (pa_cons (pe_tup (pa_cons pe_str (pa_cons pe_str pa_nil))) (pa_cons (pe_tup (pa_cons pe_str (pa_cons (pe_ix ix_tup (pv 1) pe_int (fun _ _ => rfl)) pa_nil))) (pa_cons (pe_tup (pa_cons pe_str (pa_cons pe_str pa_nil))) (pa_cons (pe_tup (pa_cons pe_str (pa_cons pe_str pa_nil))) (pa_cons (pe_tup (pa_cons pe_str pa_nil)) (pa_cons (pe_lst (pa_cons pe_str (pa_cons pe_str pa_nil))) (pa_cons pe_non (pa_cons (pe_tup (pa_cons pe_str (pa_cons pe_int pa_nil))) (pa_cons pe_int pa_nil)))))))))))
      (pss_one (ps_ret (pe_fn G_law_pick hr4 (pa_cons (pv 0) (pa_cons (pv 6) pa_nil)))))))), ?_⟩
  have z0 : 0 ≤ sizeLine := by decide
  have z1 : 1 ≤ sizeLine := by decide
  have z2 : 2 ≤ sizeLine := by decide
  have z9 : 9 ≤ sizeLine := by decide
  obtain ⟨st, h1, h2, h3⟩ := id hj
  have jsg : ∀ p ∈ as, Sg p.2.name := fun p hp => (g.steps p.2 (List.mem_map.mpr ⟨p, hp, rfl⟩)).sn
  have gl := g.len
  rw [List.length_map] at gl
  refine ⟨z0, fun S hS => ?_⟩
  have sS := same_upd (o := .lst []) hS
  have eS : upd H S (.lst []) S = some (.lst []) := upd_same
  generalize upd H S (.lst []) = H1 at sS eS ⊢
  refine ⟨_, rfl, ru, rfl, ⟨_, SqT.of (sS _ _ hru)⟩, ?_⟩
  refine for_tup (K := K) (a := ru) (xs := rules10.map V.str) (fun i σ G => ∃ (S : Addr) (ps : List PR) (y4 y5 y6 : Option V), σ = [some (.ref d), some (.ref job), some (.ref ru), some (.ref S), y4, y5, y6] ∧ Same H G ∧ H S = none ∧ G S = some (.lst (ps.map fun p => .ref p.1)) ∧ PrAt G ps ∧ (∀ p ∈ ps, p.2.1 ∈ rules10 ∧ Sg p.2.2) ∧ ps.length ≤ i * 50) ⟨S, [], _, _, _, rfl, sS, hS, eS, (fun p hp => by cases hp), (fun p hp => by cases hp), Nat.zero_le _⟩ (fun i σ G _ ⟨_, _, _, _, _, _, sm, _⟩ => SqT.of (sm _ _ hru)) ?_ ?_
  · rintro i x σ G hx ⟨S, ps, y4, y5, y6, rfl, sm, nS, eS, hps, hin, hln⟩
    rw [List.getElem?_map] at hx
    obtain ⟨r, hr', rfl⟩ := Option.map_eq_some_iff.mp hx
    have hr10 := List.mem_of_getElem? hr'
    have hi10 : i < 10 := (List.getElem?_eq_some_iff.mp hr').1
    have hrA : r ∈ rulesA := List.mem_append_left (["no"] : List Str) hr10
    refine ⟨_, rfl, _, rfl, job, _, 0, _, rfl, rfl, SqT.of (sm _ _ h1), rfl, st, rfl, ⟨_, SqT.of (sm _ _ h2)⟩, fun L hL => ?_⟩
    refine lc_tup (K := K) (a := st) (xs := as.map fun p => .ref p.1) (fun j Y => Same G Y ∧ ∃ qs : List PR, Y L = some (.lst (qs.map fun p => .ref p.1)) ∧ PrAt Y qs ∧ (∀ p ∈ qs, p.2.1 ∈ rules10 ∧ Sg p.2.2) ∧ qs.length ≤ j) ⟨same_upd hL, [], upd_same, (fun p hp => by cases hp), (fun p hp => by cases hp), Nat.zero_le _⟩ (fun j Y _ h => SqT.of (h.1 _ _ (sm _ _ h2))) ?_ ?_
    · rintro j x Y hx ⟨smY, qs, eL, hqs, hqi, hql⟩
      rw [List.getElem?_map] at hx
      obtain ⟨p, hp, rfl⟩ := Option.map_eq_some_iff.mp hx
      have pm := List.mem_of_getElem? hp
      have hj50 : j < as.length := (List.getElem?_eq_some_iff.mp hp).1
      have sY := sm.trans smY
      obtain ⟨i1, d1, y1, y2, y3⟩ := (h3 p pm).same sY
      obtain ⟨kn, J⟩ := g.on (by omega) (hj.same sY)
      refine ⟨rfl, _, rfl, _, rfl, _, rfl, p.1, _, 0, .str p.2.name, rfl, rfl, SqT.of y1, rfl, job, as, an, r, p.2.name, kn, rfl, hrA, J, fun e H2 s2 => ?_, fun ss' e r2 as2 H2 s2 _ _ => ?_⟩
      · refine ⟨rfl, _, rfl, ifF' (by show (!decide (V.non = V.non)) = false; rw [decide_eq_true rfl]; rfl) ⟨smY.trans s2, qs, s2 _ _ eL, fun p hp => s2 _ _ (hqs p hp), hqi, Nat.le_succ_of_le hql⟩⟩
      · refine ⟨rfl, _, rfl, ifT' (by show (!decide (V.ref r2 = V.non)) = true; rw [decide_eq_false fun z => by cases z]; rfl) ?_⟩
        refine ⟨_, rfl, _, rfl, p.1, _, 0, .str p.2.name, rfl, rfl, SqT.of (s2 _ _ y1), rfl, z2, fun t ht => ?_⟩
        have u1 := same_upd (o := .tup [.str r, .str p.2.name]) ht
        have eL2 := u1 _ _ (s2 _ _ eL)
        have back : ∀ {c : Addr} {xs : List V}, (upd H2 t (.tup [.str r, .str p.2.name])) c = some (.tup xs) → (upd (upd H2 t (.tup [.str r, .str p.2.name])) L (.lst (qs.map (fun p => V.ref p.1) ++ [.ref t]))) c = some (.tup xs) := fun {c xs} e => by
          rw [upd_ne (fun z => by rw [z, eL2] at e; cases e)]
          exact e
        refine ⟨_, eL2, Nat.lt_of_le_of_lt (show _ ≤ 100 by rw [List.length_map]; omega) (by decide), fun b o ex => ?_, qs ++ [(t, r, p.2.name)], ?_, fun p' hp' => ?_, fun p' hp' => ?_, by rw [List.length_append]; exact Nat.succ_le_succ hql⟩
        · rw [upd_ne (ne_of_none ex hL)]
          exact u1 _ _ (s2 _ _ (smY _ _ ex))
        · rw [upd_same, List.map_append]
          rfl
        · rcases List.mem_append.mp hp' with hp' | hp'
          · exact back (u1 _ _ (s2 _ _ (hqs p' hp')))
          · rw [List.mem_singleton.mp hp']
            exact back upd_same
        · rcases List.mem_append.mp hp' with hp' | hp'
          · exact hqi p' hp'
          · rw [List.mem_singleton.mp hp']
            exact ⟨hr10, jsg p pm⟩
    · rintro Y ⟨smY, qs, eL, hqs, hqi, hql⟩
      rw [List.length_map] at hql
      have hln2 : ps.length ≤ 500 := by omega
      refine ⟨S, L, _, _, rfl, rfl, smY _ _ eS, eL, Nat.le_trans (show _ ≤ 1000 by rw [List.length_map, List.length_map]; omega) (by decide), fun S2 hS2 => ?_⟩
      have u1 := same_upd (o := .lst (ps.map (fun p => V.ref p.1) ++ qs.map fun p => V.ref p.1)) hS2
      refine ⟨S2, ps ++ qs, _, _, _, rfl, (sm.trans smY).trans u1, ?_, ?_, fun p hp => ?_, fun p hp => ?_, ?_⟩
      · exact none_back (sm.trans smY) hS2
      · rw [List.map_append]
        exact upd_same
      · rcases List.mem_append.mp hp with hp | hp
        · exact u1 _ _ (smY _ _ (hps p hp))
        · exact u1 _ _ (hqs p hp)
      · rcases List.mem_append.mp hp with hp | hp
        · exact hin p hp
        · exact hqi p hp
      · rw [List.length_append]
        omega
  · rintro σ G ⟨S, ps, y4, y5, y6, rfl, sm, nS, eS, hps, hin, hln⟩
    have sh0 : SeqAt.shaped (.list []) = true := by decide +kernel
    have DG := D.keep sm
    refine ⟨_, rfl, z0, fun B hB => ?_⟩
    have uB := same_upd (o := .lst []) hB
    have sB := sm.trans uB
    have nSd : S ≠ d := fun z => by rw [z, D.at_d] at nS; cases nS
    refine ⟨.list (ps.map prD), .list [], .lst (SqL.of (uB _ _ eS)) (pr_dp fun p hp => uB _ _ (hps p hp)), .lst (SqL.of upd_same) .nil, pr_sh (fun p hp => ⟨rules_sg _ (hin p hp).1, (hin p hp).2⟩), sh0, _, rfl, sel (fun ce => ?_) (fun ce => ?_)⟩
    · have hne : ps ≠ [] := fun z => by rw [z] at ce; exact absurd ce (by decide +kernel)
      refine ⟨_, rfl, d, s, ns, tl, n, 5, rfl, D.keep sB, by decide, fun r X r0 r1 bN DX => ?_⟩
      have bX := (same_but (d := d) sB).trans bN
      have eSX := bN _ _ nSd (uB _ _ eS)
      have hpX : PrAt X ps := fun p hp => bN _ _ (fun z => by
        have := sB _ _ D.at_d
        have h2 := uB _ _ (hps p hp)
        rw [z, this] at h2
        cases h2) (uB _ _ (hps p hp))
      refine ⟨_, _, rfl, rfl, _, rfl, sel (fun c => ?_) (fun c => ?_)⟩
      · refine ⟨_, rfl, _, rfl, d, s, S, ns, tl, _, ps.map fun p => .ref p.1, rfl, DX, nSd, .inl (SqL.of eSX), (fun z => hne (List.map_eq_nil_iff.mp z)), fun v H3 hv b3 D3 => ?_⟩
        obtain ⟨p, hp, rfl⟩ := List.mem_map.mp hv
        exact q _ (.pair p.2.1 p.2.2) H3 _ (bX.trans b3) D3 ⟨p.1, rfl, b3 _ _ (fun z => by
          have h2 := hpX p hp
          rw [z, DX.at_d] at h2
          cases h2) (hpX p hp)⟩ (fun r x e => by cases e; exact List.mem_append_left (["no"] : List Str) (hin p hp).1)
      · clear hpX
        have hjob : X job = some (.tup [.ref st, .str an]) := bX _ _ (fun z => by rw [z, D.at_d] at h1; cases h1) h1
        have dd := DX.at_d
        refine ⟨z2, fun t1 ht1 => ?_⟩
        have v1 := same_upd (o := .tup [.str "and", .str "a"]) ht1
        refine ⟨_, rfl, job, _, 1, .str an, rfl, rfl, SqT.of (v1 _ _ hjob), rfl, z2, fun t2 ht2 => ?_⟩
        have v2 := same_upd (o := .tup [.str "drop", .str an]) ht2
        refine ⟨z2, fun t3 ht3 => ?_⟩
        have v3 := same_upd (o := .tup [.str "narrow", .str "b"]) ht3
        refine ⟨z2, fun t4 ht4 => ?_⟩
        have v4 := same_upd (o := .tup [.str "no", .str "a"]) ht4
        refine ⟨z1, fun t5 ht5 => ?_⟩
        have v5 := same_upd (o := .tup [.str "and"]) ht5
        refine ⟨z2, fun l6 hl6 => ?_⟩
        have v6 := same_upd (o := .lst [.str "drop", .str "a"]) hl6
        refine ⟨z2, fun t7 ht7 => ?_⟩
        have v7 := same_upd (o := .tup [.str "drop", .int 3]) ht7
        refine ⟨z9, fun W hW => ?_⟩
        have v8 := same_upd (o := .lst [.ref t1, .ref t2, .ref t3, .ref t4, .ref t5, .ref l6, .non, .ref t7, .int 5]) hW
        have w2 := v1.trans v2
        have w3 := w2.trans v3
        have w4 := w3.trans v4
        have w5 := w4.trans v5
        have w6 := w5.trans v6
        have w7 := w6.trans v7
        have w8 := w7.trans v8
        have ne : ∀ {b : Addr} {Y : Hp}, Same X Y → Y b = none → b ≠ d := fun sy hb z => by
          rw [z, sy _ _ dd] at hb
          cases hb
        refine ⟨_, rfl, _, rfl, d, s, W, ns, tl, _, _, rfl, DX.keep w8, ne w7 hW, .inl (SqL.of upd_same), (fun z => by cases z), fun v H3 hv b3 D3 => ?_⟩
        have bZ := (bX.trans (same_but w8)).trans b3
        have f2 := v3.trans (v4.trans (v5.trans (v6.trans (v7.trans v8))))
        rcases List.mem_cons.mp hv with rfl | hv
        · exact q _ (.pair "and" "a") H3 _ bZ D3 ⟨t1, rfl, b3 _ _ (ne (Same.refl _) ht1) ((v2.trans f2) _ _ upd_same)⟩ (fun r x e => by cases e; decide +kernel)
        rcases List.mem_cons.mp hv with rfl | hv
        · exact q _ (.pair "drop" an) H3 _ bZ D3 ⟨t2, rfl, b3 _ _ (ne v1 ht2) (f2 _ _ upd_same)⟩ (fun r x e => by cases e; decide +kernel)
        rcases List.mem_cons.mp hv with rfl | hv
        · exact q _ (.pair "narrow" "b") H3 _ bZ D3 ⟨t3, rfl, b3 _ _ (ne w2 ht3) ((v4.trans (v5.trans (v6.trans (v7.trans v8)))) _ _ upd_same)⟩ (fun r x e => by cases e; decide +kernel)
        rcases List.mem_cons.mp hv with rfl | hv
        · exact q _ (.pair "no" "a") H3 _ bZ D3 ⟨t4, rfl, b3 _ _ (ne w3 ht4) ((v5.trans (v6.trans (v7.trans v8))) _ _ upd_same)⟩ (fun r x e => by cases e; decide +kernel)
        rcases List.mem_cons.mp hv with rfl | hv
        · exact q _ (.one "and") H3 _ bZ D3 ⟨t5, rfl, b3 _ _ (ne w4 ht5) ((v6.trans (v7.trans v8)) _ _ upd_same)⟩ (fun r x e => by cases e)
        rcases List.mem_cons.mp hv with rfl | hv
        · exact q _ (.lst "drop" "a") H3 _ bZ D3 ⟨l6, rfl, b3 _ _ (ne w5 hl6) ((v7.trans v8) _ _ upd_same)⟩ (fun r x e => by cases e)
        rcases List.mem_cons.mp hv with rfl | hv
        · exact q _ .non H3 _ bZ D3 rfl (fun r x e => by cases e)
        rcases List.mem_cons.mp hv with rfl | hv
        · exact q _ (.mix "drop" 3) H3 _ bZ D3 ⟨t7, rfl, b3 _ _ (ne w6 ht7) (v8 _ _ upd_same)⟩ (fun r x e => by cases e)
        rw [List.mem_singleton.mp hv]
        exact q _ (.int 5) H3 _ bZ D3 rfl (fun r x e => by cases e)
    · have bX := same_but (d := d) sB
      have DX := D.keep sB
      generalize upd G B (.lst []) = X at bX DX ⊢
      have hjob : X job = some (.tup [.ref st, .str an]) := bX _ _ (fun z => by rw [z, D.at_d] at h1; cases h1) h1
      have dd := DX.at_d
      refine ⟨z2, fun t1 ht1 => ?_⟩
      have v1 := same_upd (o := .tup [.str "and", .str "a"]) ht1
      refine ⟨_, rfl, job, _, 1, .str an, rfl, rfl, SqT.of (v1 _ _ hjob), rfl, z2, fun t2 ht2 => ?_⟩
      have v2 := same_upd (o := .tup [.str "drop", .str an]) ht2
      refine ⟨z2, fun t3 ht3 => ?_⟩
      have v3 := same_upd (o := .tup [.str "narrow", .str "b"]) ht3
      refine ⟨z2, fun t4 ht4 => ?_⟩
      have v4 := same_upd (o := .tup [.str "no", .str "a"]) ht4
      refine ⟨z1, fun t5 ht5 => ?_⟩
      have v5 := same_upd (o := .tup [.str "and"]) ht5
      refine ⟨z2, fun l6 hl6 => ?_⟩
      have v6 := same_upd (o := .lst [.str "drop", .str "a"]) hl6
      refine ⟨z2, fun t7 ht7 => ?_⟩
      have v7 := same_upd (o := .tup [.str "drop", .int 3]) ht7
      refine ⟨z9, fun W hW => ?_⟩
      have v8 := same_upd (o := .lst [.ref t1, .ref t2, .ref t3, .ref t4, .ref t5, .ref l6, .non, .ref t7, .int 5]) hW
      have w2 := v1.trans v2
      have w3 := w2.trans v3
      have w4 := w3.trans v4
      have w5 := w4.trans v5
      have w6 := w5.trans v6
      have w7 := w6.trans v7
      have w8 := w7.trans v8
      have ne : ∀ {b : Addr} {Y : Hp}, Same X Y → Y b = none → b ≠ d := fun sy hb z => by
        rw [z, sy _ _ dd] at hb
        cases hb
      refine ⟨_, rfl, _, rfl, d, s, W, ns, tl, _, _, rfl, DX.keep w8, ne w7 hW, .inl (SqL.of upd_same), (fun z => by cases z), fun v H3 hv b3 D3 => ?_⟩
      have bZ := (bX.trans (same_but w8)).trans b3
      have f2 := v3.trans (v4.trans (v5.trans (v6.trans (v7.trans v8))))
      rcases List.mem_cons.mp hv with rfl | hv
      · exact q _ (.pair "and" "a") H3 _ bZ D3 ⟨t1, rfl, b3 _ _ (ne (Same.refl _) ht1) ((v2.trans f2) _ _ upd_same)⟩ (fun r x e => by cases e; decide +kernel)
      rcases List.mem_cons.mp hv with rfl | hv
      · exact q _ (.pair "drop" an) H3 _ bZ D3 ⟨t2, rfl, b3 _ _ (ne v1 ht2) (f2 _ _ upd_same)⟩ (fun r x e => by cases e; decide +kernel)
      rcases List.mem_cons.mp hv with rfl | hv
      · exact q _ (.pair "narrow" "b") H3 _ bZ D3 ⟨t3, rfl, b3 _ _ (ne w2 ht3) ((v4.trans (v5.trans (v6.trans (v7.trans v8)))) _ _ upd_same)⟩ (fun r x e => by cases e; decide +kernel)
      rcases List.mem_cons.mp hv with rfl | hv
      · exact q _ (.pair "no" "a") H3 _ bZ D3 ⟨t4, rfl, b3 _ _ (ne w3 ht4) ((v5.trans (v6.trans (v7.trans v8))) _ _ upd_same)⟩ (fun r x e => by cases e; decide +kernel)
      rcases List.mem_cons.mp hv with rfl | hv
      · exact q _ (.one "and") H3 _ bZ D3 ⟨t5, rfl, b3 _ _ (ne w4 ht5) ((v6.trans (v7.trans v8)) _ _ upd_same)⟩ (fun r x e => by cases e)
      rcases List.mem_cons.mp hv with rfl | hv
      · exact q _ (.lst "drop" "a") H3 _ bZ D3 ⟨l6, rfl, b3 _ _ (ne w5 hl6) ((v7.trans v8) _ _ upd_same)⟩ (fun r x e => by cases e)
      rcases List.mem_cons.mp hv with rfl | hv
      · exact q _ .non H3 _ bZ D3 rfl (fun r x e => by cases e)
      rcases List.mem_cons.mp hv with rfl | hv
      · exact q _ (.mix "drop" 3) H3 _ bZ D3 ⟨t7, rfl, b3 _ _ (ne w6 ht7) (v8 _ _ upd_same)⟩ (fun r x e => by cases e)
      rw [List.mem_singleton.mp hv]
      exact q _ (.int 5) H3 _ bZ D3 rfl (fun r x e => by cases e)
end
end Kx

namespace Kx
open PySem PySem.Spec PyProof.Rows L2
theorem lateK_true (op : Str) : lateK op true = true := by
  unfold lateK
  split <;> rfl
def joinOk (c e : List NC) (ks : List NC) : Bool := ks.all fun k => (kfN c k.1).isSome && decide (kfN e k.1 = kfN c k.1)
theorem ndC_good {cs : List NC} (h : (cs.map (·.1)).Nodup) : ndC cs = some cs := if_pos h
theorem kind_some {c : Str → Option Bool} {e : Ex} {b : Bool} (k : Kind c e b) : kindE c e = some b := by
  induction k with
  | num h => rfl
  | quo h => rfl
  | col h => exact h
  | arith h ha hb iha ihb =>
    show twoK _ (kindE c _) (kindE c _) = _
    rw [iha, ihb]
    rfl
  | @text op a b h ha hb iha ihb =>
    show twoK _ (kindE c _) (kindE c _) = _
    rw [iha, ihb]
    show (if false = false then (if (false = true ∨ op ∈ cmps) then some true else none) else none) = _
    rw [if_pos rfl, if_pos (.inr (cmpsT_sub _ h))]
  | nt ha ih =>
    show oneK true (kindE c _) = _
    rw [ih]
    rfl
  | mn ha ih =>
    show oneK true (kindE c _) = _
    rw [ih]
    rfl
  | ln ha ih =>
    show oneK false (kindE c _) = _
    rw [ih]
    rfl
theorem kind_ops {c : Str → Option Bool} {e : Ex} {b : Bool} (k : Kind c e b) : OpsOk e := by
  induction k with
  | num h => trivial
  | quo h => trivial
  | col h => trivial
  | arith h ha hb iha ihb =>
    refine ⟨?_, iha, ihb⟩
    rcases h with h | h | h | h
    · exact .inr (List.mem_append_left _ h)
    · exact .inl h
    · rw [h]
      exact .inr (by decide +kernel)
    · rw [h]
      exact .inr (by decide +kernel)
  | text h ha hb iha ihb => exact ⟨.inl (cmpsT_sub _ h), iha, ihb⟩
  | nt ha ih => exact ih
  | mn ha ih => exact ih
  | ln ha ih => exact ih
theorem known_mem : ∀ {kn : List (Str × List NC)}, (kn.map (·.1)).Nodup → ∀ {e : Str × List NC}, e ∈ kn → known kn e.1 = e.2
  | [], _, e, h => absurd h List.not_mem_nil
  | x :: kn, hn, e, h => by
    unfold known
    rw [List.find?_cons]
    by_cases hx : x.1 = e.1
    · have hxe : x = e := by
        rcases List.mem_cons.mp h with rfl | h
        · rfl
        · exact absurd (by show x.1 ∈ _; rw [hx]; exact List.mem_map.mpr ⟨e, h, rfl⟩) (List.nodup_cons.mp hn).1
      rw [decide_eq_true hx, hxe]
      rfl
    · rw [decide_eq_false hx]
      have hl : e ∈ kn := by
        rcases List.mem_cons.mp h with rfl | h
        · exact absurd rfl hx
        · exact h
      exact known_mem (List.nodup_cons.mp hn).2 hl
theorem all_big : ∀ x ∈ allNames, x ∈ bigN := fun x h => List.mem_append_left _ h
theorem nms_big : ∀ x ∈ stepNms, x ∈ bigN := by decide +kernel
theorem nodup_inj {cs : List NC} (h : (cs.map (·.1)).Nodup) {a b : NC} (ha : a ∈ cs) (hb : b ∈ cs) (e : a.1 = b.1) : a = b := by
  have h1 := kfN_of h ha
  have h2 := kfN_of h hb
  rw [e, h2] at h1
  obtain ⟨a1, a2⟩ := a
  obtain ⟨b1, b2⟩ := b
  cases Option.some.inj h1
  cases e
  rfl
theorem filt_names {f k : List NC} (hf : (f.map (·.1)).Nodup) (hk : ∀ x ∈ k, x ∈ f) : f.filter (fun c => decide (c ∉ k)) = f.filter fun c => decide (c.1 ∉ k.map (·.1)) := by
  refine List.filter_congr fun c hc => ?_
  refine decide_eq_decide.mpr (not_congr ⟨fun h => List.mem_map.mpr ⟨c, h, rfl⟩, fun h => ?_⟩)
  obtain ⟨x, hx, e⟩ := List.mem_map.mp h
  rw [← nodup_inj hf (hk x hx) hc e]
  exact hx
theorem step_ok {kn : List (Str × List NC)} {ins : List Str} {det : Det} {cs : List NC} {nm : Str} (hn : (kn.map (·.1)).Nodup) (hcs : ∀ e ∈ kn, (e.2.map (·.1)).Nodup) (O : StepOk kn ins det cs) (nd : (cs.map (·.1)).Nodup) (hnm : nm ∉ kn.map (·.1)) : stepC kn ⟨nm, ins, det⟩ = some cs := by
  have mem : ∀ {x : Str} {c : List NC}, (x, c) ∈ kn → x ∈ kn.map (·.1) := fun h => List.mem_map.mpr ⟨_, h, rfl⟩
  have kno : ∀ {x : Str} {c : List NC}, (x, c) ∈ kn → known kn x = c := fun h => known_mem hn h
  have go : ∀ {r : Option (List NC)}, (∀ x ∈ ins, x ∈ kn.map (·.1)) → colsD (ins.map (known kn)) det = r → stepC kn ⟨nm, ins, det⟩ = r := fun h1 h2 => by
    unfold stepC
    rw [if_neg hnm, if_neg (fun z => by
      obtain ⟨x, hx, hy⟩ := z
      exact hy (h1 x hx))]
    exact h2
  have one : ∀ {x : Str} {c : List NC}, (x, c) ∈ kn → ∀ y ∈ [x], y ∈ kn.map (·.1) := fun h y hy => by
    rw [List.mem_singleton.mp hy]
    exact mem h
  have two : ∀ {x y : Str} {c e : List NC}, (x, c) ∈ kn → (y, e) ∈ kn → ∀ z ∈ [x, y], z ∈ kn.map (·.1) := fun h h' z hz => by
    rcases List.mem_cons.mp hz with rfl | hz
    · exact mem h
    · rw [List.mem_singleton.mp hz]
      exact mem h'
  cases O with
  | @filter one' _ e h k d =>
    refine go (one h) ?_
    show (if kindE (kfN (known kn one')) e = some true then some (known kn one') else none) = _
    rw [kno h, if_pos (kind_some k)]
  | @map one' c ms h k nd' ne l =>
    refine go (one h) ?_
    show (if ms.all (fun m => (kindE (kfN (known kn one')) m.1).isSome) = true then ndC (ms.map fun m => (m.2.2, (kindE (kfN (known kn one')) m.1).getD true)) else none) = _
    rw [kno h, if_pos (List.all_eq_true.mpr fun m hm => by rw [kind_some (k m hm).1]; rfl)]
    have e : (ms.map fun m => (m.2.2, (kindE (kfN c) m.1).getD true)) = ms.map fun m => (m.2.2, m.2.1) := List.map_congr_left fun m hm => by
      rw [kind_some (k m hm).1]
      rfl
    rw [e]
    exact ndC_good nd
  | @fold one' c ks fs h hk hf nd' ne l =>
    refine go (one h) ?_
    show (if (ks.all (fun k => (kfN (known kn one') k.1).isSome) && fs.all fun m => (foldK (kfN (known kn one')) m).isSome) = true then ndC ((ks.map fun k => (k.1, (kfN (known kn one') k.1).getD true)) ++ fs.map fun m => (m.2.2.2, (foldK (kfN (known kn one')) m).getD true)) else none) = _
    rw [kno h]
    have ek : ∀ k ∈ ks, kfN c k.1 = some k.2 := fun k hk' => kfN_of (hcs _ h) (hk k hk')
    have ef : ∀ m ∈ fs, foldK (kfN c) m = some (lateK m.1 m.2.2.1) := fun m hm => by
      obtain ⟨h6, ho⟩ := hf m hm
      obtain ⟨m1, m2, m3, m4⟩ := m
      unfold foldK
      cases m2 with
      | none =>
        obtain ⟨a, b⟩ := ho
        rw [if_pos a]
        dsimp only at a b ⊢
        rw [b, lateK_true]
      | some e =>
        obtain ⟨a, b, _, g⟩ := ho
        rw [if_neg a]
        dsimp only at a b g ⊢
        rw [kind_some b]
        dsimp only
        refine if_neg fun z => ?_
        have : m3 = true := g fun y => by
          have hs := z.1
          simp only [List.mem_cons, List.not_mem_nil, or_false] at hs y
          rcases hs with rfl | rfl
          · rcases y with y | y | y <;> exact absurd y (by decide +kernel)
          · rcases y with y | y | y <;> exact absurd y (by decide +kernel)
        rw [z.2] at this
        cases this
    rw [if_pos (Bool.and_eq_true_iff.mpr ⟨List.all_eq_true.mpr fun k hk' => by rw [ek k hk']; rfl, List.all_eq_true.mpr fun m hm => by rw [ef m hm]; rfl⟩)]
    have e1 : (ks.map fun k => (k.1, (kfN c k.1).getD true)) = ks := by
      conv => rhs; rw [← List.map_id ks]
      exact List.map_congr_left fun k hk' => by rw [ek k hk']; rfl
    have e2 : (fs.map fun m => (m.2.2.2, (foldK (kfN c) m).getD true)) = fs.map fun m => (m.2.2.2, lateK m.1 m.2.2.1) := List.map_congr_left fun m hm => by rw [ef m hm]; rfl
    rw [e1, e2]
    exact ndC_good nd
  | @join one' other f s ks h1 h2 ne hk nd' =>
    refine go (two h1 h2) ?_
    show (if joinOk (known kn one') (known kn other) ks = true then ndC ((ks.map fun k => (k.1, (kfN (known kn one') k.1).getD true)) ++ ((known kn one').filter (fun c => decide (c.1 ∉ ks.map (·.1))) ++ (known kn other).filter fun c => decide (c.1 ∉ ks.map (·.1)))) else none) = _
    rw [kno h1, kno h2]
    have ek : ∀ k ∈ ks, kfN f k.1 = some k.2 := fun k hk' => kfN_of (hcs _ h1) (hk k hk').1
    have ek2 : ∀ k ∈ ks, kfN s k.1 = some k.2 := fun k hk' => kfN_of (hcs _ h2) (hk k hk').2
    rw [if_pos (show joinOk f s ks = true from List.all_eq_true.mpr fun k hk' => by
      show ((kfN f k.1).isSome && decide (kfN s k.1 = kfN f k.1)) = true
      rw [ek k hk', ek2 k hk', decide_eq_true rfl]
      rfl)]
    have e1 : (ks.map fun k => (k.1, (kfN f k.1).getD true)) = ks := by
      conv => rhs; rw [← List.map_id ks]
      exact List.map_congr_left fun k hk' => by rw [ek k hk']; rfl
    rw [e1, ← filt_names (hcs _ h1) fun x hx => (hk x hx).1, ← filt_names (hcs _ h2) fun x hx => (hk x hx).2]
    exact ndC_good nd
  | @union one' other c h1 h2 =>
    refine go (two h1 h2) ?_
    show (if known kn one' = known kn other then some (known kn one') else none) = _
    rw [kno h1, kno h2, if_pos rfl]
  | @unlike one' c h =>
    refine go (one h) ?_
    show some (known kn one') = _
    rw [kno h]
  | @sort one' c ws m h ne hw l m1 m5 =>
    refine go (one h) ?_
    show (if ws.all (fun x => (kfN (known kn one') x.1).isSome) = true then some (known kn one') else none) = _
    rw [kno h, if_pos (List.all_eq_true.mpr fun x hx => by
      obtain ⟨k, hk⟩ := (hw x hx).1
      rw [show kfN cs x.1 = some k from kfN_of (hcs _ h) hk]
      rfl)]

/-! ### a drawn job is good -/
theorem ops_ok : (∀ z ∈ sums ++ cmps ++ cmpsT ++ (["and", "or"] : List Str), PyData.strOk z = true) := by decide +kernel
theorem kind_lay {cs : List NC} (hc : ∀ c ∈ cs, c.1 ∈ allNames) {e : Ex} {b : Bool} (h : Kind (kfN cs) e b) : Ok e.dep (exD e) := by
  have w : ∀ z ∈ (["number", "quoted", "column", "two", "not", "minus", "length"] : List Str), PyData.strOk z = true := by decide +kernel
  induction h with
  | num h => exact dk_two (n := 0) (dk_str (w _ (by decide +kernel))) dk_int
  | quo h => exact dk_two (n := 0) (dk_str (w _ (by decide +kernel))) (dk_str ((show ∀ z ∈ (["a", "b", "bb", ""] : List Str), PyData.strOk z = true by decide +kernel) _ h))
  | col h => exact dk_two (n := 0) (dk_str (w _ (by decide +kernel))) (dk_str (by
      have hm := kf_mem (cs := cs) (by rw [h]; rfl)
      obtain ⟨c, h1, h2⟩ := List.mem_map.mp hm
      rw [← h2]
      exact big_ok _ (all_big _ (hc c h1))))
  | arith h _ _ ha hb =>
    refine dk_four (dk_str (w _ (by decide +kernel))) (dk_str (ops_ok _ ?_)) (ha.mono (Nat.le_max_left _ _)) (hb.mono (Nat.le_max_right _ _))
    simp only [List.mem_append]
    rcases h with h | h | h | h
    · exact .inl (.inl (.inl h))
    · exact .inl (.inl (.inr h))
    · exact .inr (by rw [h]; exact List.mem_cons_self)
    · exact .inr (by rw [h]; exact List.mem_cons_of_mem _ List.mem_cons_self)
  | text h _ _ ha hb =>
    refine dk_four (dk_str (w _ (by decide +kernel))) (dk_str (ops_ok _ ?_)) (ha.mono (Nat.le_max_left _ _)) (hb.mono (Nat.le_max_right _ _))
    simp only [List.mem_append]
    exact .inl (.inr h)
  | nt _ ha => exact dk_two (dk_str (w _ (by decide +kernel))) ha
  | mn _ ha => exact dk_two (dk_str (w _ (by decide +kernel))) ha
  | ln _ ha => exact dk_two (dk_str (w _ (by decide +kernel))) ha
theorem size_dep : ∀ e : Ex, e.size + 1 ≤ 2 ^ e.dep
  | .num _ => by show 2 ≤ 2 ^ 1; decide
  | .quo _ => by show 2 ≤ 2 ^ 1; decide
  | .col _ => by show 2 ≤ 2 ^ 1; decide
  | .two op a b => by
    have h1 := size_dep a
    have h2 := size_dep b
    have p1 := Nat.pow_le_pow_right (n := 2) (by decide) (Nat.le_max_left a.dep b.dep)
    have p2 := Nat.pow_le_pow_right (n := 2) (by decide) (Nat.le_max_right a.dep b.dep)
    show a.size + b.size + 1 + 1 ≤ 2 ^ (max a.dep b.dep + 1)
    rw [Nat.pow_succ]
    omega
  | .nt a => by have h1 := size_dep a; show a.size + 1 + 1 ≤ 2 ^ (a.dep + 1); rw [Nat.pow_succ]; omega
  | .mn a => by have h1 := size_dep a; show a.size + 1 + 1 ≤ 2 ^ (a.dep + 1); rw [Nat.pow_succ]; omega
  | .ln a => by have h1 := size_dep a; show a.size + 1 + 1 ≤ 2 ^ (a.dep + 1); rw [Nat.pow_succ]; omega
theorem kind_G {cs : List NC} (hc : ∀ c ∈ cs, c.1 ∈ allNames) {e : Ex} {b : Bool} (h : Kind (kfN cs) e b) (hd : e.dep ≤ 4) : G Bs e := by
  have h1 := size_dep e
  have h2 := Nat.pow_le_pow_right (n := 2) (by decide) hd
  exact ⟨kind_ops h, (kind_lay hc h).1, by show e.size ≤ 80; omega, by show e.dep ≤ 40; omega⟩
theorem folds_sg : ∀ z ∈ folds6, Sg z := by
  show ∀ z ∈ folds6, PyData.canLay0 (.str z) = true
  decide +kernel
theorem step_jg {kn : List (Str × List NC)} {ins : List Str} {det : Det} {cs : List NC} {nm : Str} (hN : ∀ x ∈ kn.map (·.1), x ∈ bigN) (hC : ∀ e ∈ kn, ∀ c ∈ e.2, c.1 ∈ allNames) (O : StepOk kn ins det cs) (inn : ∀ c ∈ cs, c.1 ∈ allNames) (hnm : nm ∈ bigN) : StpJ Bs ⟨nm, ins, det⟩ := by
  have mem : ∀ {x : Str} {c : List NC}, (x, c) ∈ kn → Sg x := fun h => big_ok _ (hN _ (List.mem_map.mpr ⟨_, h, rfl⟩))
  have one : ∀ {x : Str} {c : List NC}, (x, c) ∈ kn → ∀ y ∈ [x], Sg y := fun h y hy => by
    rw [List.mem_singleton.mp hy]
    exact mem h
  have two : ∀ {x y : Str} {c e : List NC}, (x, c) ∈ kn → (y, e) ∈ kn → ∀ z ∈ [x, y], Sg z := fun h h' z hz => by
    rcases List.mem_cons.mp hz with rfl | hz
    · exact mem h
    · rw [List.mem_singleton.mp hz]
      exact mem h'
  have sgA : ∀ {x : Str}, x ∈ allNames → Sg x := fun h => big_ok _ (all_big _ h)
  have sn : Sg nm := big_ok _ hnm
  cases O with
  | filter h k d => exact ⟨kind_G (hC _ h) k d, trivial, rfl, sn, one h⟩
  | @map one' c ms h k nd' ne l =>
    have hm' : ∀ m ∈ ms, m.2.2 ∈ allNames := fun m hm => inn _ (List.mem_map.mpr ⟨m, hm, rfl⟩)
    exact ⟨⟨by omega, fun m hm => ⟨kind_G (hC _ h) (k m hm).1 (k m hm).2, sgA (hm' m hm)⟩⟩, fun m hm => all_big _ (hm' m hm), rfl, sn, one h⟩
  | @fold one' c ks fs h hk hf nd' ne l =>
    have lk : ks.length ≤ 24 := by
      have h := few_names (List.nodup_append.mp nd').1 fun x hx => by
        obtain ⟨k, hk', rfl⟩ := List.mem_map.mp hx
        exact inn _ (List.mem_append_left _ hk')
      rw [List.length_map] at h
      exact h
    have hm' : ∀ m ∈ fs, m.2.2.2 ∈ allNames := fun m hm => inn (m.2.2.2, lateK m.1 m.2.2.1) (List.mem_append_right _ (List.mem_map.mpr ⟨m, hm, rfl⟩))
    refine ⟨⟨by omega, by omega, fun k hk' => sgA (hC _ h k (hk k hk')), fun m hm => ⟨folds_sg _ (hf m hm).1, sgA (hm' m hm), fun hn => ?_, fun e he => ?_⟩⟩, fun m hm => all_big _ (hm' m hm), rfl, sn, one h⟩
    · obtain ⟨_, ho⟩ := hf m hm
      cases e : m.2.1 with
      | none => rw [e] at ho; exact absurd ho.1 hn
      | some e' => exact ⟨e', rfl⟩
    · obtain ⟨_, ho⟩ := hf m hm
      rw [he] at ho
      exact kind_G (hC _ h) ho.2.1 (Nat.le_succ_of_le ho.2.2.1)
  | @join one' other f s ks h1 h2 ne hk nd' =>
    have lk : ks.length ≤ 24 := by
      have hh : (ks.map (·.1)).Nodup := by
        unfold joinC at nd'
        rw [List.map_append] at nd'
        exact (List.nodup_append.mp nd').1
      have h := few_names hh fun x hx => by
        obtain ⟨k, hk', rfl⟩ := List.mem_map.mp hx
        exact inn _ (List.mem_append_left _ hk')
      rw [List.length_map] at h
      exact h
    exact ⟨⟨by omega, fun k hk' => sgA (hC _ h1 k (hk k hk').1)⟩, trivial, rfl, sn, two h1 h2⟩
  | union h1 h2 => exact ⟨trivial, trivial, rfl, sn, two h1 h2⟩
  | unlike h => exact ⟨trivial, trivial, rfl, sn, one h⟩
  | @sort one' c ws m h ne hw l m1 m5 =>
    refine ⟨⟨by omega, fun x hx => ?_⟩, trivial, rfl, sn, one h⟩
    obtain ⟨⟨k, hk⟩, h2⟩ := hw x hx
    refine ⟨sgA (hC _ h _ hk), ?_⟩
    rcases h2 with e | e <;> rw [e] <;> (show PyData.canLay0 (.str _) = true; decide +kernel)
theorem drawn_jg {ss : List Stp} {kn : List (Str × List NC)} (J : JobOk ss kn) : runC [] ss = .ok kn ∧ (kn.map (·.1)).Nodup ∧ (∀ e ∈ kn, (e.2.map (·.1)).Nodup) ∧ (∀ e ∈ kn, ∀ c ∈ e.2, c.1 ∈ allNames) ∧ ss.length = kn.length ∧ ((∀ e ∈ kn, e.1 ∈ stepNms) → ∀ s ∈ ss, StpJ Bs s) := by
  induction J with
  | base =>
    refine ⟨by rfl, by decide +kernel, by decide +kernel, by decide +kernel, rfl, fun _ s hs => ?_⟩
    rcases List.mem_cons.mp hs with rfl | hs
    · exact ⟨⟨by show (3 : Nat) ≤ 100; decide, by show ∀ c ∈ colsA, PyData.canLay0 (.str c.1) = true; decide +kernel⟩, by show ∀ c ∈ colsA, c.1 ∈ bigN; decide +kernel, rfl, by show PyData.canLay0 (.str "a") = true; decide +kernel, fun x hx => by cases hx⟩
    · rw [List.mem_singleton.mp hs]
      exact ⟨⟨by show (2 : Nat) ≤ 100; decide, by show ∀ c ∈ colsB, PyData.canLay0 (.str c.1) = true; decide +kernel⟩, by show ∀ c ∈ colsB, c.1 ∈ bigN; decide +kernel, rfl, by show PyData.canLay0 (.str "b") = true; decide +kernel, fun x hx => by cases hx⟩
  | @step ss kn nm ins det cs h n k nd inn ne ih =>
    obtain ⟨h1, h2, h3, h4, h5, h6⟩ := ih
    refine ⟨?_, ?_, fun e he => ?_, fun e he => ?_, by rw [List.length_append, List.length_append, h5]; rfl, fun hb s hs => ?_⟩
    · rw [runC_append, h1]
      show (match stepC kn ⟨nm, ins, det⟩ with | none => Except.error nm | some cs => Except.ok (kn ++ [(nm, cs)])) = _
      rw [step_ok h2 h3 k nd n]
    · rw [List.map_append]
      exact List.nodup_append.mpr ⟨h2, by simp, fun u hu v hv e => n (by
        have : v = nm := List.mem_singleton.mp hv
        rw [← this, ← e]
        exact hu)⟩
    · rcases List.mem_append.mp he with he | he
      · exact h3 e he
      · rw [List.mem_singleton.mp he]
        exact nd
    · rcases List.mem_append.mp he with he | he
      · exact h4 e he
      · rw [List.mem_singleton.mp he]
        exact inn
    · have hb' := fun e he => hb e (List.mem_append_left _ he)
      rcases List.mem_append.mp hs with hs | hs
      · exact h6 hb' s hs
      · rw [List.mem_singleton.mp hs]
        exact step_jg (fun x hx => by
          obtain ⟨e, he, rfl⟩ := List.mem_map.mp hx
          exact nms_big _ (hb' e he)) h4 k inn (nms_big _ (hb (nm, cs) (List.mem_append_right _ (List.mem_singleton.mpr rfl))))
theorem job_jg {ss : List Stp} {kn : List (Str × List NC)} {an : Str} (J : JobOk ss kn) (hb : ∀ e ∈ kn, e.1 ∈ stepNms) (ha : an ∈ kn.map (·.1)) : JG ss an 10 := by
  obtain ⟨h1, h2, _, _, h5, h6⟩ := drawn_jg J
  refine ⟨⟨kn, h1, ha⟩, h6 hb, ?_, ?_⟩
  · have h := sub_len h2 (m := stepNms) fun x hx => by
      obtain ⟨e, he, rfl⟩ := List.mem_map.mp hx
      exact hb e he
    rw [List.length_map] at h
    rw [h5]
    exact h
  · obtain ⟨e, he, rfl⟩ := List.mem_map.mp ha
    exact big_ok _ (nms_big _ (hb e he))
end Kx

namespace Kx
open PySem PySem.Spec PyProof.Rows L2
/-! ### the law's turns and the judge -/
theorem judge_snoc {an : Str} : ∀ (rs : List Rw) (i : Nat) (ss : List Stp) (r : Rw), judgeF an i (rs ++ [r]) ss = (match judgeF an i rs ss with
    | .error k => .error k
    | .ok h => match byF h an r with
      | none => .error (i + rs.length)
      | some h' => .ok h')
  | [], i, ss, r => by
    show (match byF ss an r with | none => Except.error i | some ss' => judgeF an (i + 1) [] ss') = _
    rfl
  | x :: rs, i, ss, r => by
    show (match byF ss an x with | none => Except.error i | some ss' => judgeF an (i + 1) (rs ++ [r]) ss') = match (match byF ss an x with | none => Except.error i | some ss' => judgeF an (i + 1) rs ss') with
      | .error k => .error k
      | .ok h => match byF h an r with
        | none => .error (i + (rs.length + 1))
        | some h' => .ok h'
    cases byF ss an x with
    | none => rfl
    | some s2 =>
      dsimp only
      rw [judge_snoc rs (i + 1) s2 r, show i + 1 + rs.length = i + (rs.length + 1) by omega]
/-- what the law has after some turns: the job, the place of the first wrong row -/
def TurnsAt (an : Str) (ss : List Stp) (rs : List Rw) (here : List Stp) (due : Option Nat) : Prop := match due with
  | none => judgeF an 0 rs ss = .ok here
  | some k => judgeF an 0 rs ss = .error k
theorem turns_snoc {an : Str} {ss here : List Stp} {rs : List Rw} {due : Option Nat} (h : TurnsAt an ss rs here due) (r : Rw) : TurnsAt an ss (rs ++ [r]) ((byF here an r).getD here) (match due with
    | some k => some k
    | none => match byF here an r with
      | none => some rs.length
      | some _ => none) := by
  unfold TurnsAt at h
  cases due with
  | some k =>
    dsimp only at h
    show judgeF an 0 (rs ++ [r]) ss = .error k
    rw [judge_snoc, h]
  | none =>
    dsimp only at h
    cases e : byF here an r with
    | none =>
      show judgeF an 0 (rs ++ [r]) ss = .error rs.length
      rw [judge_snoc, h]
      dsimp only
      rw [e, Nat.zero_add]
    | some h2 =>
      show judgeF an 0 (rs ++ [r]) ss = .ok h2
      rw [judge_snoc, h]
      dsimp only
      rw [e]
/-! ### what stays through a change of one list -/
theorem RowAt.but {H H' : Hp} {c : Addr} {v : V} (b : But c H H') {l : List V} (hc : H c = some (.lst l)) (hl : ∀ x y : Str, l ≠ [.str x, .str y]) : ∀ {r : Rw}, RowAt H v r → RowAt H' v r
  | .pair _ _, ⟨a, h1, h2⟩ => ⟨a, h1, b _ _ (fun z => by rw [z, hc] at h2; cases h2) h2⟩
  | .one _, ⟨a, h1, h2⟩ => ⟨a, h1, b _ _ (fun z => by rw [z, hc] at h2; cases h2) h2⟩
  | .lst _ _, ⟨a, h1, h2⟩ => ⟨a, h1, b _ _ (fun z => by
      rw [z, hc] at h2
      exact hl _ _ (HO.lst.inj (Option.some.inj h2))) h2⟩
  | .non, h => h
  | .mix _ _, ⟨a, h1, h2⟩ => ⟨a, h1, b _ _ (fun z => by rw [z, hc] at h2; cases h2) h2⟩
  | .int _, h => h
theorem RowAt.no_str {H : Hp} {x : Str} : ∀ {r : Rw}, ¬ RowAt H (.str x) r
  | .pair _ _, ⟨a, h1, h2⟩ => by cases h1
  | .one _, ⟨a, h1, h2⟩ => by cases h1
  | .lst _ _, ⟨a, h1, h2⟩ => by cases h1
  | .non, h => by cases h
  | .mix _ _, ⟨a, h1, h2⟩ => by cases h1
  | .int _, h => by cases h
theorem JobAt.but {H H' : Hp} {c job : Addr} {as : List (Addr × Stp)} {an : Str} (b : But c H H') {l : List V} (hc : H c = some (.lst l)) (h : JobAt H job as an) : JobAt H' job as an := by
  obtain ⟨st, h1, h2, h3⟩ := h
  have k : ∀ (a : Addr) (o : HO), H a = some o → (∀ xs, o ≠ .lst xs) → H' a = some o := fun a o e n => b a o (fun z => by
    rw [z, hc] at e
    exact n _ (Option.some.inj e).symm) e
  exact ⟨st, k _ _ h1 (fun xs z => by cases z), k _ _ h2 (fun xs z => by cases z), fun p hp => (h3 p hp).lists k⟩
theorem JG.le {ss : List Stp} {an : Str} {n m : Nat} (g : JG ss an n) (h : n ≤ m) : JG ss an m := ⟨g.typed, g.steps, Nat.le_trans g.len h, g.sa⟩
end Kx

set_option maxHeartbeats 8000000
namespace Kx
open PySem PySem.Spec PyProof.Rows L2
/-! ### jobs as data -/
mutual
theorem eqv_me : ∀ d : PyData, nb d = true → PyData.eqv d d = true
  | .none, _ => by simp [PyData.eqv]
  | .bool _, h => by simp [nb] at h
  | .dict _, h => by simp [nb] at h
  | .int _, _ => by simp [PyData.eqv]
  | .str _, _ => by simp [PyData.eqv]
  | .list xs, h => by
    simp only [PyData.eqv]
    exact eqvAll_me xs (by simpa [nb] using h)
  | .tuple xs, h => by
    simp only [PyData.eqv]
    exact eqvAll_me xs (by simpa [nb] using h)
theorem eqvAll_me : ∀ xs : List PyData, nbAll xs = true → PyData.eqvAll xs xs = true
  | [], _ => by simp [PyData.eqvAll]
  | x :: xs, h => by
    simp only [nbAll, Bool.and_eq_true] at h
    simp only [PyData.eqvAll, Bool.and_eq_true]
    exact ⟨eqv_me x h.1, eqvAll_me xs h.2⟩
end
def jobDt (ss : List Stp) (an : Str) : PyData := .tuple [.tuple (ss.map stpD), .str an]
theorem nb_stp (s : Stp) : nb (stpD s) = true := by
  refine nb_tup ?_
  simp only [nbAll, Bool.and_eq_true]
  exact ⟨by simp [nb], by simp [nb], nb_strs _, nb_det _, trivial⟩
theorem nb_jobDt (ss : List Stp) (an : Str) : nb (jobDt ss an) = true := by
  refine nb_tup ?_
  simp only [nbAll, Bool.and_eq_true]
  exact ⟨nb_tup (nb_map fun s _ => nb_stp s), by simp [nb], trivial⟩
theorem stp_okD {s : Stp} (h : StpJ Bs s) : Ok 44 (stpD s) := dk_tup fun d hd => by
  rcases List.mem_cons.mp hd with rfl | hd
  · exact dk_str h.sn
  rcases List.mem_cons.mp hd with rfl | hd
  · exact dk_str (what_sg _)
  rcases List.mem_cons.mp hd with rfl | hd
  · exact (dk_map (n := 42) (g := PyData.str) fun x hx => dk_str (h.si x hx))
  · rw [List.mem_singleton.mp hd]
    exact det_okD h.det
theorem jobDt_ok {ss : List Stp} {an : Str} {n : Nat} (g : JG ss an n) : SeqAt.shaped (jobDt ss an) = true := (dk_two (n := 45) (dk_map (n := 44) (g := stpD) fun s hs => stp_okD (g.steps s hs)) (dk_str g.sa)).shaped (by decide)
section
variable {K : PySem.W.Frag} {H : Hp}
theorem stp_dp {a : Addr} {s : Stp} (h : StpAt H a s) : Dp K H (.ref a) (stpD s) := by
  obtain ⟨inp, dv, x1, x2, x3⟩ := id h
  exact .tup (SqT.of x1) (.cons (.str _) (.cons (.str _) (.cons (.tup (SqT.of x2) (dp_strs _)) (.cons (det_dp x3) .nil))))
theorem jobDt_dp {job : Addr} {as : List (Addr × Stp)} {an : Str} (h : JobAt H job as an) : Dp K H (.ref job) (jobDt (as.map (·.2)) an) := by
  obtain ⟨st, h1, h2, h3⟩ := id h
  exact .tup (SqT.of h1) (.cons (.tup (SqT.of h2) (dp_map fun p hp => stp_dp (h3 p hp))) (.cons (.str _) .nil))
end
abbrev s_law : Stmt := topS 79
abbrev N_law : List Str := ["script", "draw", "rules", "job", "here", "paper", "due", "at", "row", "late"]
theorem sc_law : FnScope N_law ["script"] (defScope s_law) := ⟨rfl, rfl, rfl, by decide +kernel, rfl, by decide +kernel, by decide +kernel⟩
theorem cut_law (xs : List Int) (lo hi : Option Int) : ∃ ns : List Int, cutV (xs.map V.int) lo hi = ns.map V.int := by
  unfold cutV
  rw [← List.map_drop, ← List.map_take]
  exact ⟨_, rfl⟩
section
variable {P : Program} {w : World} {K : PySem.W.Frag} {mg : Str → Option Value} {base : Heap}
def spLaw (K : PySem.W.Frag) : Sp := fun vs H Q _ => ∃ (sc : Addr) (ns : List Int), vs = [.ref sc] ∧ SqL K H sc (ns.map V.int) ∧ ∀ H', Q (.bl true) H'
theorem ok_law {f : Addr} {fd : FuncData} {k : Nat} (F : Fun K "law" "law" s_law f fd) (hk : 200 ≤ k) (m_range : mg "range" = none) (m_tuple : mg "tuple" = none) (G_job : Ready P w K mg base 10 "_law_job" ["draw", "many"] spJob) (G_row : Ready P w K mg base 150 "_law_row" ["draw", "here", "rules"] spRow) (G_made : Ready P w K mg base 150 "_law_made" ["here", "row", "rules"] spLMade) (G_told : Ready P w K mg base 150 "_law_told" ["job", "paper"] spTold) : FnOk P w K mg base CX0 (k + 1) f fd ["script"] (spLaw K) := by
  refine F.ok sc_law (fun vs H Q E h => ?_) (fun cdv A outer s0 H vs Q E hr h => ?_)
  · obtain ⟨sc, ns, rfl, _⟩ := h
    rfl
  obtain ⟨sc, ns, rfl, hs, q⟩ := h
  have nd := sc_law.nd
  have hu64 : _ + 64 < cLine := hr.units
  have hrk : Room k _ := hr
  have hr150 : Room 150 _ := hrk.mono (by omega)
  have hr10 : Room 10 _ := hrk.mono (by omega)
  refine ⟨_, pss_cons (ps_set (i := 1) nd rfl (.inl rfl) (pe_lst (pa_cons (pe_slice sl_list (pv 0) po_none (po_some pe_int)) (pa_cons pe_int (pa_cons pe_int pa_nil)))))
      (pss_cons (ps_set (i := 2) nd rfl (.inl rfl) (pe_tup (pa_cons pe_str (pa_cons pe_str (pa_cons pe_str (pa_cons pe_str (pa_cons pe_str (pa_cons pe_str (pa_cons pe_str (pa_cons pe_str (pa_cons pe_str (pa_cons pe_str pa_nil))))))))))))
      (pss_cons (ps_set (i := 3) nd rfl (.inl rfl) (pe_fn G_job hr10 (pa_cons (pv 1) (pa_cons pe_int pa_nil))))
      (pss_cons (ps_par3 (i := 4) (j := 5) (l := 6) rfl nd rfl rfl rfl (by decide) (by decide) (by decide) rfl rfl rfl (pa_cons (pv 3) (pa_cons (pe_lst pa_nil) (pa_cons pe_non pa_nil))) rfl)
      (pss_cons (ps_for PassesOwn.never rfl (pi_range1 rfl m_range (pa_cons pe_int pa_nil)) (pg_name (i := 7) nd rfl (.inl rfl)) (pss_cons (ps_set (i := 8) nd rfl (.inl rfl) (pe_fn G_row hr150 (pa_cons (pv 1) (pa_cons (pv 4) (pa_cons (pv 2) pa_nil)))))
      (pss_cons (ps_expr (pe_bm PySem.F.plainAttrs_list PySem.F.slot_list_append PySem.F.type_list_append mt_append (pv 5) (pa_cons (pv 8) pa_nil)))
      (pss_cons (ps_set (i := 9) nd rfl (.inl rfl) (pe_fn G_made hr150 (pa_cons (pv 4) (pa_cons (pv 8) (pa_cons (pv 2) pa_nil)))))
      (pss_cons (ps_set (i := 6) nd rfl (.inl rfl) (pe_ifExp (PW.pt (pw_and (pt_cmpR op_isN (pv 9) pe_non (nomark _)) (pw_and1 (pt_cmpR op_isN (pv 6) pe_non (nomark _))))) (pv 7) (pv 6)))
      (pss_one (ps_set (i := 4) nd rfl (.inl rfl) (pe_ifExp (pt_cmpR op_isN (pv 9) pe_non (nomark _)) (pv 4) (pv 9)))))))))
      (pss_one (ps_ret (pe_and (pe_cmpR (op_eqD hu64) (pe_fn G_told hr150 (pa_cons (pv 3) (pa_cons (pe_callTy call_tuple_of (by rfl) m_tuple PyProof.Rows.boot_tuple (pa_cons (pv 5) pa_nil)) pa_nil))) (pe_ifExp (pt_cmpR op_isN (pv 6) pe_non (nomark _)) (pv 4) (pv 6)) (nomark _)) (pe_one (pe_cmpR (op_eqD hu64) (pe_fn G_told hr150 (pa_cons (pv 3) (pa_cons (pe_tup pa_nil) pa_nil))) (pv 3) (nomark _)))))))))), ?_⟩
  have z0 : 0 ≤ sizeLine := by decide
  have z3 : 3 ≤ sizeLine := by decide
  have z10 : 10 ≤ sizeLine := by decide
  obtain ⟨xs, exs⟩ := cut_law ns none (some 63)
  refine ⟨_, rfl, _, rfl, sc, _, rfl, hs, fun s ns0 => ⟨z3, fun d nd0 => ?_⟩⟩
  rw [exs] at nd0 ⊢
  have D0 : DrawAt (upd (upd H s (.lst (xs.map V.int))) d (.lst [.ref s, .int 0, .int 0])) d s xs [] 0 := ⟨upd_same, by rw [upd_ne (ne_of_none upd_same nd0)]; exact upd_same, Int.le_refl 0⟩
  generalize upd (upd H s (.lst (xs.map V.int))) d (.lst [.ref s, .int 0, .int 0]) = H0 at D0 ⊢
  refine ⟨z10, fun ru hru => ?_⟩
  have s1 := same_upd (o := .tup [.str "and", .str "past map", .str "past join", .str "past fold", .str "past union", .str "past unlike", .str "maps", .str "narrow", .str "same", .str "drop"]) hru
  have eru : upd H0 ru (.tup [.str "and", .str "past map", .str "past join", .str "past fold", .str "past union", .str "past unlike", .str "maps", .str "narrow", .str "same", .str "drop"]) ru = some (.tup (rules10.map V.str)) := upd_same
  have D1 := D0.keep s1
  have ne_d : ∀ {Y : Hp} {b : Addr}, (∃ xs, Y d = some (.lst xs)) → (∃ xs, Y b = some (.tup xs)) → b ≠ d := fun ⟨_, h1⟩ ⟨_, h2⟩ z => by rw [z, h1] at h2; cases h2
  have nru : ru ≠ d := ne_d ⟨_, D1.at_d⟩ ⟨_, eru⟩
  generalize upd H0 ru (.tup [.str "and", .str "past map", .str "past join", .str "past fold", .str "past union", .str "past unlike", .str "maps", .str "narrow", .str "same", .str "drop"]) = H1 at s1 eru D1 ⊢
  refine ⟨_, rfl, d, s, xs, [], 0, 6, rfl, D1, .inl rfl, by decide, by decide, fun job st g as kn last n' H2 h1 h2 h3 hJ hlast hlen hnms b1 D2 => ?_⟩
  have hj : JobAt H2 job as last := ⟨st, h1, h2, h3⟩
  have jg := job_jg hJ hnms hlast
  have eru2 := b1 _ _ nru eru
  refine ⟨_, rfl, z0, fun pa hpa => ⟨_, _, _, rfl, ?_⟩⟩
  have s3 := same_upd (o := .lst []) hpa
  have epa : upd H2 pa (.lst []) pa = some (.lst []) := upd_same
  have hj3 := hj.same s3
  have D3 := D2.keep s3
  have eru3 := s3 _ _ eru2
  have nps : s ≠ pa := fun z => by
    have h := D2.at_s
    rw [z, hpa] at h
    cases h
  have npd : pa ≠ d := fun z => by rw [z, D2.at_d] at hpa; cases hpa
  generalize upd H2 pa (.lst []) = H3 at s3 epa hj3 D3 eru3 ⊢
  let dv : Option Nat → V := fun o => match o with
    | none => .non
    | some k => .int (k : Nat)
  refine ⟨5, rfl, by decide, by decide, for_range (n := 5) (fun i σ G => ∃ (n : Int) (jb : Addr) (as' : List (Addr × Stp)) (due : Option Nat) (rvs : List V) (rows : List Rw) (y7 y8 y9 : Option V), σ = [some (.ref sc), some (.ref d), some (.ref ru), some (.ref job), some (.ref jb), some (.ref pa), some (dv due), y7, y8, y9] ∧ DrawAt G d s xs [.ref g] n ∧ G ru = some (.tup (rules10.map V.str)) ∧ JobAt G job as last ∧ JobAt G jb as' last ∧ JG (as'.map fun p : Addr × Stp => p.2) last (10 + 2 * i) ∧ G pa = some (.lst rvs) ∧ rvs.length = i ∧ rows.length = i ∧ (∀ (k : Nat) (v : V) (r : Rw), rvs[k]? = some v → rows[k]? = some r → RowAt G v r) ∧ (∀ a x, Rw.pair a x ∈ rows → a ∈ rulesA) ∧ TurnsAt last (as.map fun p : Addr × Stp => p.2) rows (as'.map fun p : Addr × Stp => p.2) due)
    ⟨_, job, as, none, [], [], _, _, _, rfl, D3, eru3, hj3, hj3, jg, epa, rfl, rfl, (fun k v r e => by cases e), (fun a x h => by cases h), rfl⟩ ?_ ?_⟩
  · rintro i σ G hi ⟨n, jb, as', due, rvs, rows, y7, y8, y9, rfl, D, er, hjob, hjb, gj, ep, lr, lw, hrow, hrule, T⟩
    refine ⟨_, rfl, _, rfl, _, rfl, d, s, jb, ru, xs, [.ref g], n, as', last, 10 + 2 * i, rfl, D, gj, by omega, hjb, er, fun v rw G1 n1 b1 DG1 hv hr1 => ?_⟩
    have ep1 := b1 _ _ npd ep
    have er1 := b1 _ _ nru er
    have hjob1 := hjob.but b1 D.at_d
    have hjb1 := hjb.but b1 D.at_d
    have hrow1 := fun k v r h1 h2 => (hrow k v r h1 h2).but b1 D.at_d (fun x y z => by cases z)
    have hl1 : ∀ x y : Str, rvs ≠ [.str x, .str y] := fun x y z => by
      have hl0 : 0 < rows.length := by rw [lw, ← lr, z]; exact (by decide : 0 < 2)
      have h2 : rows[0]? = some (rows[0]'hl0) := List.getElem?_eq_getElem hl0
      exact RowAt.no_str (hrow1 0 (.str x) _ (by rw [z]; rfl) h2)
    refine ⟨_, rfl, .inl ⟨rfl, _, SqL.of ep1⟩, _, rfl, pa, _, _, rfl, rfl, ep1, Nat.lt_of_le_of_lt (show _ ≤ 5 by omega) (by decide), ?_⟩
    have b2 : But pa G1 (upd G1 pa (.lst (rvs ++ [v]))) := fun a o h e => by rw [upd_ne h]; exact e
    have ep2 : upd G1 pa (.lst (rvs ++ [v])) pa = some (.lst (rvs ++ [v])) := upd_same
    generalize upd G1 pa (.lst (rvs ++ [v])) = G2 at b2 ep2 ⊢
    have er2 := b2 _ _ (fun z => by rw [z, ep1] at er1; cases er1) er1
    have hjob2 := hjob1.but b2 ep1
    have hjb2 := hjb1.but b2 ep1
    have hv2 := hv.but b2 ep1 hl1
    have D2' : DrawAt G2 d s xs [.ref g] n1 := ⟨b2 _ _ npd.symm DG1.at_d, b2 _ _ nps DG1.at_s, DG1.n0⟩
    have hrow2 : ∀ (k : Nat) (v' : V) (r : Rw), (rvs ++ [v])[k]? = some v' → (rows ++ [rw])[k]? = some r → RowAt G2 v' r := fun k v' r h1 h2 => by
      by_cases c : k < rvs.length
      · rw [List.getElem?_append_left c] at h1
        rw [List.getElem?_append_left (by omega)] at h2
        exact (hrow1 k v' r h1 h2).but b2 ep1 hl1
      · have hk : k = rvs.length := by
          have := (List.getElem?_eq_some_iff.mp h1).1
          rw [List.length_append, List.length_singleton] at this
          omega
        rw [hk, List.getElem?_concat_length] at h1
        rw [hk, lr, ← lw, List.getElem?_concat_length] at h2
        cases h1
        cases h2
        exact hv2
    have hrule2 : ∀ a x, Rw.pair a x ∈ rows ++ [rw] → a ∈ rulesA := fun a x h => by
      rcases List.mem_append.mp h with h | h
      · exact hrule a x h
      · exact hr1 a x (List.mem_singleton.mp h).symm
    have T2 := turns_snoc T rw
    refine ⟨_, rfl, _, rfl, _, rfl, jb, ru, v, as', last, 10 + 2 * i, rw, rfl, gj, by omega, hjb2, hv2, hr1, er2, fun e H4 s4 => ?_, fun ss' e r as2 H4 s4 hj4 ej => ?_⟩
    · rw [e] at T2
      refine ⟨_, rfl, rfl, _, rfl, ifT' (decide_eq_true rfl) ⟨_, rfl, rfl, _, rfl, ?_⟩⟩
      cases due with
      | none =>
        refine ifT' (decide_eq_true rfl) ⟨_, rfl, ?_⟩
        refine ⟨_, rfl, rfl, _, rfl, ifT' (decide_eq_true rfl) ⟨_, rfl, ?_⟩⟩
        have T3 : TurnsAt last (as.map fun p : Addr × Stp => p.2) (rows ++ [rw]) (as'.map fun p : Addr × Stp => p.2) (some i) := by
          have := T2
          rw [show rows.length = i from lw] at this
          exact this
        have ei : V.int (0 + (i : Nat)) = dv (some i) := by show V.int (0 + (i : Nat)) = V.int (i : Nat); rw [Int.zero_add]
        rw [ei]
        exact ⟨n1, jb, as', some i, _, rows ++ [rw], _, _, _, rfl, D2'.keep s4, s4 _ _ er2, hjob2.same s4, hjb2.same s4, gj.le (by omega), s4 _ _ ep2, by rw [List.length_append, lr]; rfl, by rw [List.length_append, lw]; rfl, fun k v' r h1 h2 => (hrow2 k v' r h1 h2).same s4, hrule2, T3⟩
      | some k' =>
        refine ifF' (decide_eq_false fun z => by cases z) ⟨_, rfl, ?_⟩
        refine ⟨_, rfl, rfl, _, rfl, ifT' (decide_eq_true rfl) ⟨_, rfl, ?_⟩⟩
        exact ⟨n1, jb, as', some k', _, rows ++ [rw], _, _, _, rfl, D2'.keep s4, s4 _ _ er2, hjob2.same s4, hjb2.same s4, gj.le (by omega), s4 _ _ ep2, by rw [List.length_append, lr]; rfl, by rw [List.length_append, lw]; rfl, fun k v' r h1 h2 => (hrow2 k v' r h1 h2).same s4, hrule2, T2⟩
    · rw [e] at T2
      refine ⟨_, rfl, rfl, _, rfl, ifF' (decide_eq_false fun z => by cases z) ⟨_, rfl, ?_⟩⟩
      refine ⟨_, rfl, rfl, _, rfl, ifF' (decide_eq_false fun z => by cases z) ⟨_, rfl, ?_⟩⟩
      have g2 := by_good gj (by omega) e
      have T3 : TurnsAt last (as.map fun p : Addr × Stp => p.2) (rows ++ [rw]) (as2.map fun p : Addr × Stp => p.2) due := by
        rw [ej]
        cases due <;> exact T2
      exact ⟨n1, r, as2, due, _, rows ++ [rw], _, _, _, rfl, D2'.keep s4, s4 _ _ er2, hjob2.same s4, hj4, by rw [ej]; exact g2, s4 _ _ ep2, by rw [List.length_append, lr]; rfl, by rw [List.length_append, lw]; rfl, fun k v' r h1 h2 => (hrow2 k v' r h1 h2).same s4, hrule2, T3⟩
  · rintro σ G ⟨n, jb, as', due, rvs, rows, y7, y8, y9, rfl, D, er, hjob, hjb, gj, ep, lr, lw, hrow, hrule, T⟩
    have eself : PyData.eqv (jobDt (as.map fun p : Addr × Stp => p.2) last) (jobDt (as.map fun p : Addr × Stp => p.2) last) = true := eqv_me _ (nb_jobDt _ _)
    have eself' : PyData.eqv (jobDt (as'.map fun p : Addr × Stp => p.2) last) (jobDt (as'.map fun p : Addr × Stp => p.2) last) = true := eqv_me _ (nb_jobDt _ _)
    have okj := jobDt_ok jg
    have okj' := jobDt_ok gj
    refine ⟨_, rfl, _, rfl, pa, rvs, rfl, .inl ⟨SqL.of ep, fun t ht => ?_⟩⟩
    have s5 := same_upd (o := .tup rvs) ht
    refine ⟨job, t, as, last, 10, rvs, rows, rfl, jg, by omega, hjob.same s5, upd_same, lr.trans lw.symm, fun k v r h1 h2 => (hrow k v r h1 h2).same s5, hrule, fun k ek H5 s6 => ?_, fun ss' es r as2 H5 s6 hj5 ej => ?_⟩
    · cases due with
      | none =>
        have T' : judgeF last 0 rows (as.map fun p : Addr × Stp => p.2) = .ok _ := T
        rw [T'] at ek
        cases ek
      | some k' =>
        have T' : judgeF last 0 rows (as.map fun p : Addr × Stp => p.2) = .error k' := T
        rw [T'] at ek
        cases ek
        refine ⟨_, rfl, rfl, _, rfl, ifF' (decide_eq_false fun z => by cases z) ⟨_, rfl, ?_⟩⟩
        refine ⟨.int _, .int _, .int _, .int _, rfl, rfl, ?_⟩
        refine ⟨_, rfl, ifT' (by simp [PyData.eqv]) ?_⟩
        refine ⟨_, rfl, z0, fun u hu => ?_⟩
        have s7 := same_upd (o := .tup []) hu
        have hj7 := ((hjob.same s5).same s6).same s7
        refine ⟨job, u, as, last, 10, [], [], rfl, jg, by decide, hj7, upd_same, rfl, (fun k v r e => by cases e), (fun a x h => by cases h), (fun k ek => by cases ek), fun ss2 es2 r2 as3 H8 s8 hj8 ej8 => ?_⟩
        cases es2
        refine ⟨_, rfl, jobDt _ _, jobDt _ _, jobDt_dp hj8, jobDt_dp (hj7.same s8), by rw [ej8]; exact okj, okj, ?_⟩
        rw [ej8, eself]
        exact q _
    · cases due with
      | none =>
        have T' : judgeF last 0 rows (as.map fun p : Addr × Stp => p.2) = .ok _ := T
        rw [T'] at es
        cases es
        refine ⟨_, rfl, rfl, _, rfl, ifT' (decide_eq_true rfl) ⟨_, rfl, ?_⟩⟩
        refine ⟨jobDt _ _, jobDt _ _, jobDt_dp hj5, jobDt_dp ((hjb.same s5).same s6), ?_, okj', ?_⟩
        · rw [ej]
          exact okj'
        refine ⟨_, rfl, ifT' (by rw [ej]; exact eself') ?_⟩
        refine ⟨_, rfl, z0, fun u hu => ?_⟩
        have s7 := same_upd (o := .tup []) hu
        have hj7 := ((hjob.same s5).same s6).same s7
        refine ⟨job, u, as, last, 10, [], [], rfl, jg, by decide, hj7, upd_same, rfl, (fun k v r e => by cases e), (fun a x h => by cases h), (fun k ek => by cases ek), fun ss2 es2 r2 as3 H8 s8 hj8 ej8 => ?_⟩
        cases es2
        refine ⟨_, rfl, jobDt _ _, jobDt _ _, jobDt_dp hj8, jobDt_dp (hj7.same s8), by rw [ej8]; exact okj, okj, ?_⟩
        rw [ej8, eself]
        exact q _
      | some k' =>
        have T' : judgeF last 0 rows (as.map fun p : Addr × Stp => p.2) = .error k' := T
        rw [T'] at es
        cases es
end
end Kx

namespace Kx
open PySem PySem.Spec PyProof.Rows L2
abbrev sLaw : Stmt := s_law
section
variable {P : Program} {w : World} {K : PySem.W.Frag} {mg : Str → Option Value} {base : Heap} {f : Addr} {fd : FuncData} {k : Nat}
theorem no_def {sp : Sp} {ps : List Str} (h : ∀ vs H Q E, ¬ sp vs H Q E) : FnOk P w K mg base CX0 k f fd ps sp :=
  ⟨fun vs H Q E z => absurd z (h vs H Q E), fun A outer s H args us vs Q E _ _ _ _ z => absurd z (h vs H Q E)⟩
theorem no_kind : FnOk P w K mg base CX0 k f fd ["told", "kinds"] (spKind 0) := no_def fun vs H Q E ⟨_, _, _, e, _, _, _, h, _⟩ => absurd e.dep_pos (by omega)
theorem no_used : FnOk P w K mg base CX0 k f fd ["told"] (spUsed 0) := no_def fun vs H Q E ⟨_, e, _, _, h, _⟩ => absurd e.dep_pos (by omega)
theorem no_with : FnOk P w K mg base CX0 k f fd ["told", "meanings"] (spWith 0) := no_def fun vs H Q E ⟨_, e, _, _, _, _, _, h, _⟩ => absurd e.dep_pos (by omega)
theorem no_size : FnOk P w K mg base CX0 k f fd ["told"] (spLSize 0) := no_def fun vs H Q E ⟨_, e, _, _, h, _⟩ => absurd e.dep_pos (by omega)
theorem no_depth : FnOk P w K mg base CX0 k f fd ["told"] (spLDepth 0) := no_def fun vs H Q E ⟨_, e, _, _, h, _⟩ => absurd e.dep_pos (by omega)
theorem no_int : FnOk P w K mg base CX0 k f fd ["draw", "columns", "deep"] (spInt 0) := no_def fun vs H Q E ⟨_, _, _, _, _, _, _, _, _, _, _, _, _, h0, h1, _⟩ => by omega
end
/-- an error of the class at S is what «except S» names -/
theorem exm_own {K : PySem.W.Frag} {S : Addr} (h1 : PySem.W.subIn K (.ref S) (.type "BaseException") = some true) (h2 : PySem.W.isClsIn K S = true) (h3 : PySem.W.typeIn K (.ref S) = some (.type "type")) (h4 : PySem.W.subIn K (.ref S) (.ref S) = some true) : PySem.W.exmOne K (.ref S) (.ref S) = some true := by
  have sub : (PySem.W.subIn K (.ref S) (.type "BaseException") == some true) = true := by rw [h1] <;> rfl
  have cls : ((PySem.W.clsIn K S).isSome && PySem.W.typeIn K (.ref S) == some (.type "type")) = true := by
    rw [show (PySem.W.clsIn K S).isSome = true from h2, h3] <;> rfl
  show (if (PySem.W.subIn K (.ref S) (.type "BaseException") == some true) = true then (if ((PySem.W.clsIn K S).isSome && PySem.W.typeIn K (.ref S) == some (.type "type")) = true then PySem.W.subIn K (.ref S) (.ref S) else none) else none) = some true
  rw [if_pos sub, if_pos cls, h4]
theorem all_mk {l : PySem.W.OpenLaw} {w : World} {K : PySem.W.Frag} {h : Heap} {mg : Str → Option Value} {fa : Addr} (X : K.In h) (G : h.Ns mainGlobals mg) (hfa : mg "law" = some (.ref fa))
    {f1 f2 f3 f4 f5 f6 f7 f8 f9 f10 f11 f12 f13 f14 f15 f16 f17 f18 f19 f20 f21 f22 f23 f24 f25 f26 f27 f28 f29 f30 f31 f32 f33 f34 f35 f36 f37 f38 f39 f40 f41 f42 f43 f44 f45 f46 f47 f48 f49 f50 f51 f52 f53 f54 f55 f56 f57 f58 f59 f60 f61 f62 : Addr} {od1 an1 od2 an2 od3 an3 od4 an4 od5 an5 od6 an6 od7 an7 od8 an8 od9 an9 od10 an10 od11 an11 od12 an12 od13 an13 od14 an14 od15 an15 od16 an16 od17 an17 od18 an18 od19 an19 od20 an20 od21 an21 od22 an22 od23 an23 od24 an24 od25 an25 od26 an26 od27 an27 od28 an28 od29 an29 od30 an30 od31 an31 od32 an32 od33 an33 od34 an34 od35 an35 od36 an36 od37 an37 od38 an38 od39 an39 od40 an40 od41 an41 od42 an42 od43 an43 od44 an44 od45 an45 od46 an46 od47 an47 od48 an48 od49 an49 od50 an50 od51 an51 od52 an52 od53 an53 od54 an54 od55 an55 od56 an56 od57 an57 od58 an58 od59 an59 od60 an60 od61 an61 od62 an62 : Option Addr} {sl1 sl2 sl3 sl4 sl5 sl6 sl7 sl8 sl9 sl10 sl11 sl12 sl13 sl14 sl15 sl16 sl17 sl18 sl19 sl20 sl21 sl22 sl23 sl24 sl25 sl26 sl27 sl28 sl29 sl30 sl31 sl32 sl33 sl34 sl35 sl36 sl37 sl38 sl39 sl40 sl41 sl42 sl43 sl44 sl45 sl46 sl47 sl48 sl49 sl50 sl51 sl52 sl53 sl54 sl55 sl56 sl57 sl58 sl59 sl60 sl61 sl62 : Array (Option Value)} {oc1 kV1 dc1 pm1 cd1 ct1 oc2 kV2 dc2 pm2 cd2 ct2 oc3 kV3 dc3 pm3 cd3 ct3 oc4 kV4 dc4 pm4 cd4 ct4 oc5 kV5 dc5 pm5 cd5 ct5 oc6 kV6 dc6 pm6 cd6 ct6 oc7 kV7 dc7 pm7 cd7 ct7 oc8 kV8 dc8 pm8 cd8 ct8 oc9 kV9 dc9 pm9 cd9 ct9 oc10 kV10 dc10 pm10 cd10 ct10 oc11 kV11 dc11 pm11 cd11 ct11 oc12 kV12 dc12 pm12 cd12 ct12 oc13 kV13 dc13 pm13 cd13 ct13 oc14 kV14 dc14 pm14 cd14 ct14 oc15 kV15 dc15 pm15 cd15 ct15 oc16 kV16 dc16 pm16 cd16 ct16 oc17 kV17 dc17 pm17 cd17 ct17 oc18 kV18 dc18 pm18 cd18 ct18 oc19 kV19 dc19 pm19 cd19 ct19 oc20 kV20 dc20 pm20 cd20 ct20 oc21 kV21 dc21 pm21 cd21 ct21 oc22 kV22 dc22 pm22 cd22 ct22 oc23 kV23 dc23 pm23 cd23 ct23 oc24 kV24 dc24 pm24 cd24 ct24 oc25 kV25 dc25 pm25 cd25 ct25 oc26 kV26 dc26 pm26 cd26 ct26 oc27 kV27 dc27 pm27 cd27 ct27 oc28 kV28 dc28 pm28 cd28 ct28 oc29 kV29 dc29 pm29 cd29 ct29 oc30 kV30 dc30 pm30 cd30 ct30 oc31 kV31 dc31 pm31 cd31 ct31 oc32 kV32 dc32 pm32 cd32 ct32 oc33 kV33 dc33 pm33 cd33 ct33 oc34 kV34 dc34 pm34 cd34 ct34 oc35 kV35 dc35 pm35 cd35 ct35 oc36 kV36 dc36 pm36 cd36 ct36 oc37 kV37 dc37 pm37 cd37 ct37 oc38 kV38 dc38 pm38 cd38 ct38 oc39 kV39 dc39 pm39 cd39 ct39 oc40 kV40 dc40 pm40 cd40 ct40 oc41 kV41 dc41 pm41 cd41 ct41 oc42 kV42 dc42 pm42 cd42 ct42 oc43 kV43 dc43 pm43 cd43 ct43 oc44 kV44 dc44 pm44 cd44 ct44 oc45 kV45 dc45 pm45 cd45 ct45 oc46 kV46 dc46 pm46 cd46 ct46 oc47 kV47 dc47 pm47 cd47 ct47 oc48 kV48 dc48 pm48 cd48 ct48 oc49 kV49 dc49 pm49 cd49 ct49 oc50 kV50 dc50 pm50 cd50 ct50 oc51 kV51 dc51 pm51 cd51 ct51 oc52 kV52 dc52 pm52 cd52 ct52 oc53 kV53 dc53 pm53 cd53 ct53 oc54 kV54 dc54 pm54 cd54 ct54 oc55 kV55 dc55 pm55 cd55 ct55 oc56 kV56 dc56 pm56 cd56 ct56 oc57 kV57 dc57 pm57 cd57 ct57 oc58 kV58 dc58 pm58 cd58 ct58 oc59 kV59 dc59 pm59 cd59 ct59 oc60 kV60 dc60 pm60 cd60 ct60 oc61 kV61 dc61 pm61 cd61 ct61 oc62 kV62 dc62 pm62 cd62 ct62 : Value} {u1 u2 u3 u4 : Tok} {C fI N BE dl dc : Addr} {nm qn : Str} {bs : List Value} {sn : List Str} {sub : List Value} {ab : Bool} {col : Option Bool} {dd odI anI : Option Addr} {n0 n1 n2 n3 n5 : Option Value} {slI : Array (Option Value)} {ocI dcI pmI cdI ctI : Value} {es es2 : Array DictEntry} {nn nn2 : Nat} {uCmp w1 w2 w3 w4 w5 w6 w7 w8 w9 w10 w11 w12 w13 : Tok} {CB fB NB BEB dp : Addr} {nmB qnB : Str} {bsB : List Value} {snB : List Str} {subB : List Value} {abB : Bool} {colB : Option Bool} {ddB odB anB : Option Addr} {nB0 nB1 nB2 nB3 nB5 : Option Value} {slB : Array (Option Value)} {ocB dcB pmB cdB ctB : Value} {esP : Array DictEntry} {nP : Nat} {v1 v2 v3 v4 v5 : Tok}
    (a1 : PySem.W.nsIn K mainGlobals "parts_of" = some (some (.ref f1))) (l1 : K.lookup f1 = some ⟨oc1, od1, .func (PySem.W.fnOf "parts_of" "parts_of" (defArgs s_parts_of) (defBody s_parts_of) (defScope s_parts_of) .none kV1 dc1 pm1 an1 cd1 ct1), sl1⟩) (c1 : PySem.W.codeIn K cd1 "parts_of" = true) (k1 : PySem.W.keepIn K (.ref f1) = true)
    (a2 : PySem.W.nsIn K mainGlobals "rows_of_parts" = some (some (.ref f2))) (l2 : K.lookup f2 = some ⟨oc2, od2, .func (PySem.W.fnOf "rows_of_parts" "rows_of_parts" (defArgs s_rows_of_parts) (defBody s_rows_of_parts) (defScope s_rows_of_parts) .none kV2 dc2 pm2 an2 cd2 ct2), sl2⟩) (c2 : PySem.W.codeIn K cd2 "rows_of_parts" = true) (k2 : PySem.W.keepIn K (.ref f2) = true)
    (a3 : PySem.W.nsIn K mainGlobals "how_many" = some (some (.ref f3))) (l3 : K.lookup f3 = some ⟨oc3, od3, .func (PySem.W.fnOf "how_many" "how_many" (defArgs s_how_many) (defBody s_how_many) (defScope s_how_many) .none kV3 dc3 pm3 an3 cd3 ct3), sl3⟩) (c3 : PySem.W.codeIn K cd3 "how_many" = true) (k3 : PySem.W.keepIn K (.ref f3) = true)
    (a4 : PySem.W.nsIn K mainGlobals "how_deep" = some (some (.ref f4))) (l4 : K.lookup f4 = some ⟨oc4, od4, .func (PySem.W.fnOf "how_deep" "how_deep" (defArgs s_how_deep) (defBody s_how_deep) (defScope s_how_deep) .none kV4 dc4 pm4 an4 cd4 ct4), sl4⟩) (c4 : PySem.W.codeIn K cd4 "how_deep" = true) (k4 : PySem.W.keepIn K (.ref f4) = true)
    (a5 : PySem.W.nsIn K mainGlobals "is_large" = some (some (.ref f5))) (l5 : K.lookup f5 = some ⟨oc5, od5, .func (PySem.W.fnOf "is_large" "is_large" (defArgs s_is_large) (defBody s_is_large) (defScope s_is_large) .none kV5 dc5 pm5 an5 cd5 ct5), sl5⟩) (c5 : PySem.W.codeIn K cd5 "is_large" = true) (k5 : PySem.W.keepIn K (.ref f5) = true)
    (a6 : PySem.W.nsIn K mainGlobals "columns_used" = some (some (.ref f6))) (l6 : K.lookup f6 = some ⟨oc6, od6, .func (PySem.W.fnOf "columns_used" "columns_used" (defArgs s_columns_used) (defBody s_columns_used) (defScope s_columns_used) .none kV6 dc6 pm6 an6 cd6 ct6), sl6⟩) (c6 : PySem.W.codeIn K cd6 "columns_used" = true) (k6 : PySem.W.keepIn K (.ref f6) = true)
    (a7 : PySem.W.nsIn K mainGlobals "with_columns" = some (some (.ref f7))) (l7 : K.lookup f7 = some ⟨oc7, od7, .func (PySem.W.fnOf "with_columns" "with_columns" (defArgs s_with_columns) (defBody s_with_columns) (defScope s_with_columns) .none kV7 dc7 pm7 an7 cd7 ct7), sl7⟩) (c7 : PySem.W.codeIn K cd7 "with_columns" = true) (k7 : PySem.W.keepIn K (.ref f7) = true)
    (a8 : PySem.W.nsIn K mainGlobals "kind_of_two" = some (some (.ref f8))) (l8 : K.lookup f8 = some ⟨oc8, od8, .func (PySem.W.fnOf "kind_of_two" "kind_of_two" (defArgs s_two) (defBody s_two) (defScope s_two) .none kV8 dc8 pm8 an8 cd8 ct8), sl8⟩) (c8 : PySem.W.codeIn K cd8 "kind_of_two" = true) (k8 : PySem.W.keepIn K (.ref f8) = true)
    (a9 : PySem.W.nsIn K mainGlobals "kind_of" = some (some (.ref f9))) (l9 : K.lookup f9 = some ⟨oc9, od9, .func (PySem.W.fnOf "kind_of" "kind_of" (defArgs s_kind) (defBody s_kind) (defScope s_kind) .none kV9 dc9 pm9 an9 cd9 ct9), sl9⟩) (c9 : PySem.W.codeIn K cd9 "kind_of" = true) (k9 : PySem.W.keepIn K (.ref f9) = true)
    (a10 : PySem.W.nsIn K mainGlobals "check_there" = some (some (.ref f10))) (l10 : K.lookup f10 = some ⟨oc10, od10, .func (PySem.W.fnOf "check_there" "check_there" (defArgs s_check_there) (defBody s_check_there) (defScope s_check_there) .none kV10 dc10 pm10 an10 cd10 ct10), sl10⟩) (c10 : PySem.W.codeIn K cd10 "check_there" = true) (k10 : PySem.W.keepIn K (.ref f10) = true)
    (a11 : PySem.W.nsIn K mainGlobals "unlike_columns" = some (some (.ref f11))) (l11 : K.lookup f11 = some ⟨oc11, od11, .func (PySem.W.fnOf "unlike_columns" "unlike_columns" (defArgs s_unlike_columns) (defBody s_unlike_columns) (defScope s_unlike_columns) .none kV11 dc11 pm11 an11 cd11 ct11), sl11⟩) (c11 : PySem.W.codeIn K cd11 "unlike_columns" = true) (k11 : PySem.W.keepIn K (.ref f11) = true)
    (a12 : PySem.W.nsIn K mainGlobals "columns_of_read" = some (some (.ref f12))) (l12 : K.lookup f12 = some ⟨oc12, od12, .func (PySem.W.fnOf "columns_of_read" "columns_of_read" (defArgs s_columns_of_read) (defBody s_columns_of_read) (defScope s_columns_of_read) .none kV12 dc12 pm12 an12 cd12 ct12), sl12⟩) (c12 : PySem.W.codeIn K cd12 "columns_of_read" = true) (k12 : PySem.W.keepIn K (.ref f12) = true)
    (a13 : PySem.W.nsIn K mainGlobals "columns_of_filter" = some (some (.ref f13))) (l13 : K.lookup f13 = some ⟨oc13, od13, .func (PySem.W.fnOf "columns_of_filter" "columns_of_filter" (defArgs s_columns_of_filter) (defBody s_columns_of_filter) (defScope s_columns_of_filter) .none kV13 dc13 pm13 an13 cd13 ct13), sl13⟩) (c13 : PySem.W.codeIn K cd13 "columns_of_filter" = true) (k13 : PySem.W.keepIn K (.ref f13) = true)
    (a14 : PySem.W.nsIn K mainGlobals "columns_of_map" = some (some (.ref f14))) (l14 : K.lookup f14 = some ⟨oc14, od14, .func (PySem.W.fnOf "columns_of_map" "columns_of_map" (defArgs s_columns_of_map) (defBody s_columns_of_map) (defScope s_columns_of_map) .none kV14 dc14 pm14 an14 cd14 ct14), sl14⟩) (c14 : PySem.W.codeIn K cd14 "columns_of_map" = true) (k14 : PySem.W.keepIn K (.ref f14) = true)
    (a15 : PySem.W.nsIn K mainGlobals "kind_of_fold" = some (some (.ref f15))) (l15 : K.lookup f15 = some ⟨oc15, od15, .func (PySem.W.fnOf "kind_of_fold" "kind_of_fold" (defArgs s_kind_of_fold) (defBody s_kind_of_fold) (defScope s_kind_of_fold) .none kV15 dc15 pm15 an15 cd15 ct15), sl15⟩) (c15 : PySem.W.codeIn K cd15 "kind_of_fold" = true) (k15 : PySem.W.keepIn K (.ref f15) = true)
    (a16 : PySem.W.nsIn K mainGlobals "columns_of_fold" = some (some (.ref f16))) (l16 : K.lookup f16 = some ⟨oc16, od16, .func (PySem.W.fnOf "columns_of_fold" "columns_of_fold" (defArgs s_columns_of_fold) (defBody s_columns_of_fold) (defScope s_columns_of_fold) .none kV16 dc16 pm16 an16 cd16 ct16), sl16⟩) (c16 : PySem.W.codeIn K cd16 "columns_of_fold" = true) (k16 : PySem.W.keepIn K (.ref f16) = true)
    (a17 : PySem.W.nsIn K mainGlobals "columns_of_join" = some (some (.ref f17))) (l17 : K.lookup f17 = some ⟨oc17, od17, .func (PySem.W.fnOf "columns_of_join" "columns_of_join" (defArgs s_columns_of_join) (defBody s_columns_of_join) (defScope s_columns_of_join) .none kV17 dc17 pm17 an17 cd17 ct17), sl17⟩) (c17 : PySem.W.codeIn K cd17 "columns_of_join" = true) (k17 : PySem.W.keepIn K (.ref f17) = true)
    (a18 : PySem.W.nsIn K mainGlobals "columns_of_union" = some (some (.ref f18))) (l18 : K.lookup f18 = some ⟨oc18, od18, .func (PySem.W.fnOf "columns_of_union" "columns_of_union" (defArgs s_columns_of_union) (defBody s_columns_of_union) (defScope s_columns_of_union) .none kV18 dc18 pm18 an18 cd18 ct18), sl18⟩) (c18 : PySem.W.codeIn K cd18 "columns_of_union" = true) (k18 : PySem.W.keepIn K (.ref f18) = true)
    (a19 : PySem.W.nsIn K mainGlobals "columns_of_unlike" = some (some (.ref f19))) (l19 : K.lookup f19 = some ⟨oc19, od19, .func (PySem.W.fnOf "columns_of_unlike" "columns_of_unlike" (defArgs s_columns_of_unlike) (defBody s_columns_of_unlike) (defScope s_columns_of_unlike) .none kV19 dc19 pm19 an19 cd19 ct19), sl19⟩) (c19 : PySem.W.codeIn K cd19 "columns_of_unlike" = true) (k19 : PySem.W.keepIn K (.ref f19) = true)
    (a20 : PySem.W.nsIn K mainGlobals "columns_of_sort" = some (some (.ref f20))) (l20 : K.lookup f20 = some ⟨oc20, od20, .func (PySem.W.fnOf "columns_of_sort" "columns_of_sort" (defArgs s_columns_of_sort) (defBody s_columns_of_sort) (defScope s_columns_of_sort) .none kV20 dc20 pm20 an20 cd20 ct20), sl20⟩) (c20 : PySem.W.codeIn K cd20 "columns_of_sort" = true) (k20 : PySem.W.keepIn K (.ref f20) = true)
    (a21 : PySem.W.nsIn K mainGlobals "columns_of" = some (some (.ref f21))) (l21 : K.lookup f21 = some ⟨oc21, od21, .func (PySem.W.fnOf "columns_of" "columns_of" (defArgs s_columns_of) (defBody s_columns_of) (defScope s_columns_of) .none kV21 dc21 pm21 an21 cd21 ct21), sl21⟩) (c21 : PySem.W.codeIn K cd21 "columns_of" = true) (k21 : PySem.W.keepIn K (.ref f21) = true)
    (a22 : PySem.W.nsIn K mainGlobals "step_named" = some (some (.ref f22))) (l22 : K.lookup f22 = some ⟨oc22, od22, .func (PySem.W.fnOf "step_named" "step_named" (defArgs s_step_named) (defBody s_step_named) (defScope s_step_named) .none kV22 dc22 pm22 an22 cd22 ct22), sl22⟩) (c22 : PySem.W.codeIn K cd22 "step_named" = true) (k22 : PySem.W.keepIn K (.ref f22) = true)
    (a23 : PySem.W.nsIn K mainGlobals "is_used" = some (some (.ref f23))) (l23 : K.lookup f23 = some ⟨oc23, od23, .func (PySem.W.fnOf "is_used" "is_used" (defArgs s_is_used) (defBody s_is_used) (defScope s_is_used) .none kV23 dc23 pm23 an23 cd23 ct23), sl23⟩) (c23 : PySem.W.codeIn K cd23 "is_used" = true) (k23 : PySem.W.keepIn K (.ref f23) = true)
    (a24 : PySem.W.nsIn K mainGlobals "free_names" = some (some (.ref f24))) (l24 : K.lookup f24 = some ⟨oc24, od24, .func (PySem.W.fnOf "free_names" "free_names" (defArgs s_free_names) (defBody s_free_names) (defScope s_free_names) .none kV24 dc24 pm24 an24 cd24 ct24), sl24⟩) (c24 : PySem.W.codeIn K cd24 "free_names" = true) (k24 : PySem.W.keepIn K (.ref f24) = true)
    (a25 : PySem.W.nsIn K mainGlobals "map_meanings" = some (some (.ref f25))) (l25 : K.lookup f25 = some ⟨oc25, od25, .func (PySem.W.fnOf "map_meanings" "map_meanings" (defArgs s_map_meanings) (defBody s_map_meanings) (defScope s_map_meanings) .none kV25 dc25 pm25 an25 cd25 ct25), sl25⟩) (c25 : PySem.W.codeIn K cd25 "map_meanings" = true) (k25 : PySem.W.keepIn K (.ref f25) = true)
    (a26 : PySem.W.nsIn K mainGlobals "one_filter" = some (some (.ref f26))) (l26 : K.lookup f26 = some ⟨oc26, od26, .func (PySem.W.fnOf "one_filter" "one_filter" (defArgs s_one_filter) (defBody s_one_filter) (defScope s_one_filter) .none kV26 dc26 pm26 an26 cd26 ct26), sl26⟩) (c26 : PySem.W.codeIn K cd26 "one_filter" = true) (k26 : PySem.W.keepIn K (.ref f26) = true)
    (a27 : PySem.W.nsIn K mainGlobals "one_map" = some (some (.ref f27))) (l27 : K.lookup f27 = some ⟨oc27, od27, .func (PySem.W.fnOf "one_map" "one_map" (defArgs s_one_map) (defBody s_one_map) (defScope s_one_map) .none kV27 dc27 pm27 an27 cd27 ct27), sl27⟩) (c27 : PySem.W.codeIn K cd27 "one_map" = true) (k27 : PySem.W.keepIn K (.ref f27) = true)
    (a28 : PySem.W.nsIn K mainGlobals "has_all" = some (some (.ref f28))) (l28 : K.lookup f28 = some ⟨oc28, od28, .func (PySem.W.fnOf "has_all" "has_all" (defArgs s_has_all) (defBody s_has_all) (defScope s_has_all) .none kV28 dc28 pm28 an28 cd28 ct28), sl28⟩) (c28 : PySem.W.codeIn K cd28 "has_all" = true) (k28 : PySem.W.keepIn K (.ref f28) = true)
    (a29 : PySem.W.nsIn K mainGlobals "filter_past" = some (some (.ref f29))) (l29 : K.lookup f29 = some ⟨oc29, od29, .func (PySem.W.fnOf "filter_past" "filter_past" (defArgs s_filter_past) (defBody s_filter_past) (defScope s_filter_past) .none kV29 dc29 pm29 an29 cd29 ct29), sl29⟩) (c29 : PySem.W.codeIn K cd29 "filter_past" = true) (k29 : PySem.W.keepIn K (.ref f29) = true)
    (a30 : PySem.W.nsIn K mainGlobals "narrowed" = some (some (.ref f30))) (l30 : K.lookup f30 = some ⟨oc30, od30, .func (PySem.W.fnOf "narrowed" "narrowed" (defArgs s_narrowed) (defBody s_narrowed) (defScope s_narrowed) .none kV30 dc30 pm30 an30 cd30 ct30), sl30⟩) (c30 : PySem.W.codeIn K cd30 "narrowed" = true) (k30 : PySem.W.keepIn K (.ref f30) = true)
    (a31 : PySem.W.nsIn K mainGlobals "made_of" = some (some (.ref f31))) (l31 : K.lookup f31 = some ⟨oc31, od31, .func (PySem.W.fnOf "made_of" "made_of" (defArgs s_made_of) (defBody s_made_of) (defScope s_made_of) .none kV31 dc31 pm31 an31 cd31 ct31), sl31⟩) (c31 : PySem.W.codeIn K cd31 "made_of" = true) (k31 : PySem.W.keepIn K (.ref f31) = true)
    (a32 : PySem.W.nsIn K mainGlobals "first_alike" = some (some (.ref f32))) (l32 : K.lookup f32 = some ⟨oc32, od32, .func (PySem.W.fnOf "first_alike" "first_alike" (defArgs s_first_alike) (defBody s_first_alike) (defScope s_first_alike) .none kV32 dc32 pm32 an32 cd32 ct32), sl32⟩) (c32 : PySem.W.codeIn K cd32 "first_alike" = true) (k32 : PySem.W.keepIn K (.ref f32) = true)
    (a33 : PySem.W.nsIn K mainGlobals "with_input" = some (some (.ref f33))) (l33 : K.lookup f33 = some ⟨oc33, od33, .func (PySem.W.fnOf "with_input" "with_input" (defArgs s_with_input) (defBody s_with_input) (defScope s_with_input) .none kV33 dc33 pm33 an33 cd33 ct33), sl33⟩) (c33 : PySem.W.codeIn K cd33 "with_input" = true) (k33 : PySem.W.keepIn K (.ref f33) = true)
    (a34 : PySem.W.nsIn K mainGlobals "without_use" = some (some (.ref f34))) (l34 : K.lookup f34 = some ⟨oc34, od34, .func (PySem.W.fnOf "without_use" "without_use" (defArgs s_without_use) (defBody s_without_use) (defScope s_without_use) .none kV34 dc34 pm34 an34 cd34 ct34), sl34⟩) (c34 : PySem.W.codeIn K cd34 "without_use" = true) (k34 : PySem.W.keepIn K (.ref f34) = true)
    (a35 : PySem.W.nsIn K mainGlobals "in_place" = some (some (.ref f35))) (l35 : K.lookup f35 = some ⟨oc35, od35, .func (PySem.W.fnOf "in_place" "in_place" (defArgs s_in_place) (defBody s_in_place) (defScope s_in_place) .none kV35 dc35 pm35 an35 cd35 ct35), sl35⟩) (c35 : PySem.W.codeIn K cd35 "in_place" = true) (k35 : PySem.W.keepIn K (.ref f35) = true)
    (a36 : PySem.W.nsIn K mainGlobals "without_step" = some (some (.ref f36))) (l36 : K.lookup f36 = some ⟨oc36, od36, .func (PySem.W.fnOf "without_step" "without_step" (defArgs s_without_step) (defBody s_without_step) (defScope s_without_step) .none kV36 dc36 pm36 an36 cd36 ct36), sl36⟩) (c36 : PySem.W.codeIn K cd36 "without_step" = true) (k36 : PySem.W.keepIn K (.ref f36) = true)
    (a37 : PySem.W.nsIn K mainGlobals "applied" = some (some (.ref f37))) (l37 : K.lookup f37 = some ⟨oc37, od37, .func (PySem.W.fnOf "applied" "applied" (defArgs s_applied) (defBody s_applied) (defScope s_applied) .none kV37 dc37 pm37 an37 cd37 ct37), sl37⟩) (c37 : PySem.W.codeIn K cd37 "applied" = true) (k37 : PySem.W.keepIn K (.ref f37) = true)
    (a38 : PySem.W.nsIn K mainGlobals "expressions_of" = some (some (.ref f38))) (l38 : K.lookup f38 = some ⟨oc38, od38, .func (PySem.W.fnOf "expressions_of" "expressions_of" (defArgs s_exprs) (defBody s_exprs) (defScope s_exprs) .none kV38 dc38 pm38 an38 cd38 ct38), sl38⟩) (c38 : PySem.W.codeIn K cd38 "expressions_of" = true) (k38 : PySem.W.keepIn K (.ref f38) = true)
    (a39 : PySem.W.nsIn K mainGlobals "is_large_step" = some (some (.ref f39))) (l39 : K.lookup f39 = some ⟨oc39, od39, .func (PySem.W.fnOf "is_large_step" "is_large_step" (defArgs s_large_step) (defBody s_large_step) (defScope s_large_step) .none kV39 dc39 pm39 an39 cd39 ct39), sl39⟩) (c39 : PySem.W.codeIn K cd39 "is_large_step" = true) (k39 : PySem.W.keepIn K (.ref f39) = true)
    (a40 : PySem.W.nsIn K mainGlobals "is_large_job" = some (some (.ref f40))) (l40 : K.lookup f40 = some ⟨oc40, od40, .func (PySem.W.fnOf "is_large_job" "is_large_job" (defArgs s_large_job) (defBody s_large_job) (defScope s_large_job) .none kV40 dc40 pm40 an40 cd40 ct40), sl40⟩) (c40 : PySem.W.codeIn K cd40 "is_large_job" = true) (k40 : PySem.W.keepIn K (.ref f40) = true)
    (a41 : PySem.W.nsIn K mainGlobals "is_pair" = some (some (.ref f41))) (l41 : K.lookup f41 = some ⟨oc41, od41, .func (PySem.W.fnOf "is_pair" "is_pair" (defArgs s_is_pair) (defBody s_is_pair) (defScope s_is_pair) .none kV41 dc41 pm41 an41 cd41 ct41), sl41⟩) (c41 : PySem.W.codeIn K cd41 "is_pair" = true) (k41 : PySem.W.keepIn K (.ref f41) = true)
    (a42 : PySem.W.nsIn K mainGlobals "made_by" = some (some (.ref f42))) (l42 : K.lookup f42 = some ⟨oc42, od42, .func (PySem.W.fnOf "made_by" "made_by" (defArgs s_made_by) (defBody s_made_by) (defScope s_made_by) .none kV42 dc42 pm42 an42 cd42 ct42), sl42⟩) (c42 : PySem.W.codeIn K cd42 "made_by" = true) (k42 : PySem.W.keepIn K (.ref f42) = true)
    (a43 : PySem.W.nsIn K mainGlobals "judged" = some (some (.ref f43))) (l43 : K.lookup f43 = some ⟨oc43, od43, .func (PySem.W.fnOf "judged" "judged" (defArgs s_judged) (defBody s_judged) (defScope s_judged) .none kV43 dc43 pm43 an43 cd43 ct43), sl43⟩) (c43 : PySem.W.codeIn K cd43 "judged" = true) (k43 : PySem.W.keepIn K (.ref f43) = true)
    (a44 : PySem.W.nsIn K mainGlobals "_law_cell_at" = some (some (.ref f44))) (l44 : K.lookup f44 = some ⟨oc44, od44, .func (PySem.W.fnOf "_law_cell_at" "_law_cell_at" (defArgs sCell) (defBody sCell) (defScope sCell) .none kV44 dc44 pm44 an44 cd44 ct44), sl44⟩) (c44 : PySem.W.codeIn K cd44 "_law_cell_at" = true) (k44 : PySem.W.keepIn K (.ref f44) = true)
    (a45 : PySem.W.nsIn K mainGlobals "_law_draw" = some (some (.ref f45))) (l45 : K.lookup f45 = some ⟨oc45, od45, .func (PySem.W.fnOf "_law_draw" "_law_draw" (defArgs sDraw) (defBody sDraw) (defScope sDraw) .none kV45 dc45 pm45 an45 cd45 ct45), sl45⟩) (c45 : PySem.W.codeIn K cd45 "_law_draw" = true) (k45 : PySem.W.keepIn K (.ref f45) = true)
    (a46 : PySem.W.nsIn K mainGlobals "_law_number" = some (some (.ref f46))) (l46 : K.lookup f46 = some ⟨oc46, od46, .func (PySem.W.fnOf "_law_number" "_law_number" (defArgs sNumb) (defBody sNumb) (defScope sNumb) .none kV46 dc46 pm46 an46 cd46 ct46), sl46⟩) (c46 : PySem.W.codeIn K cd46 "_law_number" = true) (k46 : PySem.W.keepIn K (.ref f46) = true)
    (a47 : PySem.W.nsIn K mainGlobals "_law_next" = some (some (.ref f47))) (l47 : K.lookup f47 = some ⟨oc47, od47, .func (PySem.W.fnOf "_law_next" "_law_next" (defArgs sNext) (defBody sNext) (defScope sNext) .none kV47 dc47 pm47 an47 cd47 ct47), sl47⟩) (c47 : PySem.W.codeIn K cd47 "_law_next" = true) (k47 : PySem.W.keepIn K (.ref f47) = true)
    (a48 : PySem.W.nsIn K mainGlobals "_law_pick" = some (some (.ref f48))) (l48 : K.lookup f48 = some ⟨oc48, od48, .func (PySem.W.fnOf "_law_pick" "_law_pick" (defArgs sPick) (defBody sPick) (defScope sPick) .none kV48 dc48 pm48 an48 cd48 ct48), sl48⟩) (c48 : PySem.W.codeIn K cd48 "_law_pick" = true) (k48 : PySem.W.keepIn K (.ref f48) = true)
    (a49 : PySem.W.nsIn K mainGlobals "_law_int" = some (some (.ref f49))) (l49 : K.lookup f49 = some ⟨oc49, od49, .func (PySem.W.fnOf "_law_int" "_law_int" (defArgs sInt) (defBody sInt) (defScope sInt) .none kV49 dc49 pm49 an49 cd49 ct49), sl49⟩) (c49 : PySem.W.codeIn K cd49 "_law_int" = true) (k49 : PySem.W.keepIn K (.ref f49) = true)
    (a50 : PySem.W.nsIn K mainGlobals "_law_map" = some (some (.ref f50))) (l50 : K.lookup f50 = some ⟨oc50, od50, .func (PySem.W.fnOf "_law_map" "_law_map" (defArgs s_law_map) (defBody s_law_map) (defScope s_law_map) .none kV50 dc50 pm50 an50 cd50 ct50), sl50⟩) (c50 : PySem.W.codeIn K cd50 "_law_map" = true) (k50 : PySem.W.keepIn K (.ref f50) = true)
    (a51 : PySem.W.nsIn K mainGlobals "_law_fold" = some (some (.ref f51))) (l51 : K.lookup f51 = some ⟨oc51, od51, .func (PySem.W.fnOf "_law_fold" "_law_fold" (defArgs s_law_fold) (defBody s_law_fold) (defScope s_law_fold) .none kV51 dc51 pm51 an51 cd51 ct51), sl51⟩) (c51 : PySem.W.codeIn K cd51 "_law_fold" = true) (k51 : PySem.W.keepIn K (.ref f51) = true)
    (a52 : PySem.W.nsIn K mainGlobals "_law_join" = some (some (.ref f52))) (l52 : K.lookup f52 = some ⟨oc52, od52, .func (PySem.W.fnOf "_law_join" "_law_join" (defArgs s_law_join) (defBody s_law_join) (defScope s_law_join) .none kV52 dc52 pm52 an52 cd52 ct52), sl52⟩) (c52 : PySem.W.codeIn K cd52 "_law_join" = true) (k52 : PySem.W.keepIn K (.ref f52) = true)
    (a53 : PySem.W.nsIn K mainGlobals "_law_most" = some (some (.ref f53))) (l53 : K.lookup f53 = some ⟨oc53, od53, .func (PySem.W.fnOf "_law_most" "_law_most" (defArgs s_law_most) (defBody s_law_most) (defScope s_law_most) .none kV53 dc53 pm53 an53 cd53 ct53), sl53⟩) (c53 : PySem.W.codeIn K cd53 "_law_most" = true) (k53 : PySem.W.keepIn K (.ref f53) = true)
    (a54 : PySem.W.nsIn K mainGlobals "_law_step" = some (some (.ref f54))) (l54 : K.lookup f54 = some ⟨oc54, od54, .func (PySem.W.fnOf "_law_step" "_law_step" (defArgs s_law_step) (defBody s_law_step) (defScope s_law_step) .none kV54 dc54 pm54 an54 cd54 ct54), sl54⟩) (c54 : PySem.W.codeIn K cd54 "_law_step" = true) (k54 : PySem.W.keepIn K (.ref f54) = true)
    (a55 : PySem.W.nsIn K mainGlobals "_law_job" = some (some (.ref f55))) (l55 : K.lookup f55 = some ⟨oc55, od55, .func (PySem.W.fnOf "_law_job" "_law_job" (defArgs s_law_job) (defBody s_law_job) (defScope s_law_job) .none kV55 dc55 pm55 an55 cd55 ct55), sl55⟩) (c55 : PySem.W.codeIn K cd55 "_law_job" = true) (k55 : PySem.W.keepIn K (.ref f55) = true)
    (a56 : PySem.W.nsIn K mainGlobals "_law_told" = some (some (.ref f56))) (l56 : K.lookup f56 = some ⟨oc56, od56, .func (PySem.W.fnOf "_law_told" "_law_told" (defArgs s_told) (defBody s_told) (defScope s_told) .none kV56 dc56 pm56 an56 cd56 ct56), sl56⟩) (c56 : PySem.W.codeIn K cd56 "_law_told" = true) (k56 : PySem.W.keepIn K (.ref f56) = true)
    (a57 : PySem.W.nsIn K mainGlobals "_law_size" = some (some (.ref f57))) (l57 : K.lookup f57 = some ⟨oc57, od57, .func (PySem.W.fnOf "_law_size" "_law_size" (defArgs s_size) (defBody s_size) (defScope s_size) .none kV57 dc57 pm57 an57 cd57 ct57), sl57⟩) (c57 : PySem.W.codeIn K cd57 "_law_size" = true) (k57 : PySem.W.keepIn K (.ref f57) = true)
    (a58 : PySem.W.nsIn K mainGlobals "_law_depth" = some (some (.ref f58))) (l58 : K.lookup f58 = some ⟨oc58, od58, .func (PySem.W.fnOf "_law_depth" "_law_depth" (defArgs s_depth) (defBody s_depth) (defScope s_depth) .none kV58 dc58 pm58 an58 cd58 ct58), sl58⟩) (c58 : PySem.W.codeIn K cd58 "_law_depth" = true) (k58 : PySem.W.keepIn K (.ref f58) = true)
    (a59 : PySem.W.nsIn K mainGlobals "_law_is_small" = some (some (.ref f59))) (l59 : K.lookup f59 = some ⟨oc59, od59, .func (PySem.W.fnOf "_law_is_small" "_law_is_small" (defArgs s_small) (defBody s_small) (defScope s_small) .none kV59 dc59 pm59 an59 cd59 ct59), sl59⟩) (c59 : PySem.W.codeIn K cd59 "_law_is_small" = true) (k59 : PySem.W.keepIn K (.ref f59) = true)
    (a60 : PySem.W.nsIn K mainGlobals "_law_row" = some (some (.ref f60))) (l60 : K.lookup f60 = some ⟨oc60, od60, .func (PySem.W.fnOf "_law_row" "_law_row" (defArgs s_row) (defBody s_row) (defScope s_row) .none kV60 dc60 pm60 an60 cd60 ct60), sl60⟩) (c60 : PySem.W.codeIn K cd60 "_law_row" = true) (k60 : PySem.W.keepIn K (.ref f60) = true)
    (a61 : PySem.W.nsIn K mainGlobals "_law_made" = some (some (.ref f61))) (l61 : K.lookup f61 = some ⟨oc61, od61, .func (PySem.W.fnOf "_law_made" "_law_made" (defArgs s_lmade) (defBody s_lmade) (defScope s_lmade) .none kV61 dc61 pm61 an61 cd61 ct61), sl61⟩) (c61 : PySem.W.codeIn K cd61 "_law_made" = true) (k61 : PySem.W.keepIn K (.ref f61) = true)
    (a62 : PySem.W.nsIn K mainGlobals "law" = some (some (.ref f62))) (l62 : K.lookup f62 = some ⟨oc62, od62, .func (PySem.W.fnOf "law" "law" (defArgs sLaw) (defBody sLaw) (defScope sLaw) .none kV62 dc62 pm62 an62 cd62 ct62), sl62⟩) (c62 : PySem.W.codeIn K cd62 "law" = true) (k62 : PySem.W.keepIn K (.ref f62) = true)
    (z1 : PySem.W.nsIn K mainGlobals "len" = some none)
    (z2 : PySem.W.nsIn K mainGlobals "int" = some none)
    (z3 : PySem.W.nsIn K mainGlobals "range" = some none)
    (z4 : PySem.W.nsIn K mainGlobals "sum" = some none)
    (z5 : PySem.W.nsIn K mainGlobals "min" = some none)
    (z6 : PySem.W.nsIn K mainGlobals "max" = some none)
    (z7 : PySem.W.nsIn K mainGlobals "str" = some none)
    (z8 : PySem.W.nsIn K mainGlobals "tuple" = some none)
    (z9 : PySem.W.nsIn K mainGlobals "list" = some none)
    (z10 : PySem.W.nsIn K mainGlobals "dict" = some none)
    (z11 : PySem.W.nsIn K mainGlobals "all" = some none)
    (z12 : PySem.W.nsIn K mainGlobals "any" = some none)
    (z13 : PySem.W.nsIn K mainGlobals "set" = some none)
    (z14 : PySem.W.nsIn K mainGlobals "sorted" = some none)
    (z15 : PySem.W.nsIn K mainGlobals "isinstance" = some none)
    (z16 : PySem.W.nsIn K mainGlobals "enumerate" = some none)
    (z17 : PySem.W.nsIn K mainGlobals "zip" = some none)
    (g1 : PySem.W.nsIn K mainGlobals "MOST_IN_ONE" = some (some (.int (80) u1)))
    (g2 : PySem.W.nsIn K mainGlobals "MOST_WITHIN" = some (some (.int (40) u2)))
    (g3 : PySem.W.nsIn K mainGlobals "MOST_STEPS" = some (some (.int (150) u3)))
    (g4 : PySem.W.nsIn K mainGlobals "MOST_IN_ALL" = some (some (.int (250) u4)))
    (aC : PySem.W.nsIn K mainGlobals "BadJob" = some (some (.ref C)))
    (xL : K.lookup C = some (excClassObj nm qn C N bs [.ref BE, .type "Exception", .type "BaseException", .type "object"] true sn sub ab col dd n0 n1 n2 n3 n5 "Exception.__new__"))
    (sa : PySem.W.findIn K (.ref C) "__setattr__" = some (some (.builtin "object.__setattr__"))) (gat : PySem.W.findIn K (.ref C) "__getattribute__" = some (some (.builtin "BaseException.__getattribute__"))) (gg : PySem.W.findIn K (.ref C) "__getattr__" = some none) (nb : PySem.W.findIn K (.ref C) "name" = some none) (nw : PySem.W.findIn K (.ref C) "why" = some none)
    (ai : PySem.W.findIn K (.ref C) "__init__" = some (some (.ref fI))) (ti : PySem.W.typeIn K (.ref fI) = some (.type "function"))
    (li : K.lookup fI = some ⟨ocI, odI, .func (PySem.W.fnOf "__init__" "BadJob.__init__" (PySem.BadY.iA ⟨6, 17, 6, 21⟩ ⟨6, 23, 6, 27⟩ ⟨6, 29, 6, 32⟩) (PySem.BadY.iB ⟨7, 8, 7, 12⟩ ⟨7, 8, 7, 17⟩ ⟨7, 20, 7, 24⟩ ⟨7, 8, 7, 24⟩ ⟨8, 8, 8, 12⟩ ⟨8, 8, 8, 16⟩ ⟨8, 19, 8, 22⟩ ⟨8, 8, 8, 22⟩) PySem.BadY.iS .none .none dcI pmI anI cdI ctI), slI⟩) (ci : PySem.W.codeIn K cdI "BadJob.__init__" = true)
    (kC : PySem.W.keepIn K (.ref C) = true) (eC : PySem.W.subIn K (.ref C) (.type "BaseException") = some true) (tyC : PySem.W.typeIn K (.ref C) = some (.type "type")) (hC : PySem.W.hasDictIn K C = true) (iC : PySem.W.isClsIn K C = true) (sC : PySem.W.subIn K (.ref C) (.ref C) = some true)
    (gCmp : PySem.W.nsIn K mainGlobals "COMPARISON" = some (some (.int 4 uCmp))) (gD : PySem.W.nsIn K mainGlobals "LEVELS" = some (some (.ref dl))) (lD : K.lookup dl = some ⟨.type "dict", none, .dict es nn, #[]⟩) (o1 : PySem.W.nsIn K dl "or" = some (some (.int 1 w1))) (o2 : PySem.W.nsIn K dl "and" = some (some (.int 2 w2))) (o3 : PySem.W.nsIn K dl "=" = some (some (.int 4 w3))) (o4 : PySem.W.nsIn K dl "!=" = some (some (.int 4 w4))) (o5 : PySem.W.nsIn K dl "<" = some (some (.int 4 w5))) (o6 : PySem.W.nsIn K dl "<=" = some (some (.int 4 w6))) (o7 : PySem.W.nsIn K dl ">" = some (some (.int 4 w7))) (o8 : PySem.W.nsIn K dl ">=" = some (some (.int 4 w8))) (o9 : PySem.W.nsIn K dl "+" = some (some (.int 5 w9))) (o10 : PySem.W.nsIn K dl "-" = some (some (.int 5 w10))) (o11 : PySem.W.nsIn K dl "*" = some (some (.int 6 w11))) (o12 : PySem.W.nsIn K dl "/" = some (some (.int 6 w12))) (o13 : PySem.W.nsIn K dl "mod" = some (some (.int 6 w13))) (gK : PySem.W.KeysLit w.params es.toList)
    (gC2 : PySem.W.nsIn K mainGlobals "CHECKERS" = some (some (.ref dc))) (lC : K.lookup dc = some ⟨.type "dict", none, .dict es2 nn2, #[]⟩) (p1 : PySem.W.nsIn K dc "read" = some (some (.ref f12))) (p2 : PySem.W.nsIn K dc "filter" = some (some (.ref f13))) (p3 : PySem.W.nsIn K dc "map" = some (some (.ref f14))) (p4 : PySem.W.nsIn K dc "fold" = some (some (.ref f16))) (p5 : PySem.W.nsIn K dc "join" = some (some (.ref f17))) (p6 : PySem.W.nsIn K dc "union" = some (some (.ref f18))) (p7 : PySem.W.nsIn K dc "unlike" = some (some (.ref f19))) (p8 : PySem.W.nsIn K dc "sort" = some (some (.ref f20))) (gK2 : PySem.W.KeysLit w.params es2.toList)
    (aCB : PySem.W.nsIn K mainGlobals "BadPaper" = some (some (.ref CB)))
    (xLB : K.lookup CB = some (excClassObj nmB qnB CB NB bsB [.ref BEB, .type "Exception", .type "BaseException", .type "object"] true snB subB abB colB ddB nB0 nB1 nB2 nB3 nB5 "Exception.__new__"))
    (saB : PySem.W.findIn K (.ref CB) "__setattr__" = some (some (.builtin "object.__setattr__"))) (gatB : PySem.W.findIn K (.ref CB) "__getattribute__" = some (some (.builtin "BaseException.__getattribute__"))) (ggB : PySem.W.findIn K (.ref CB) "__getattr__" = some none) (nbB : PySem.W.findIn K (.ref CB) "at" = some none)
    (aiB : PySem.W.findIn K (.ref CB) "__init__" = some (some (.ref fB))) (tiB : PySem.W.typeIn K (.ref fB) = some (.type "function"))
    (liB : K.lookup fB = some ⟨ocB, odB, .func (PySem.W.fnOf "__init__" "BadPaper.__init__" (PySem.BadP.iA ⟨11, 17, 11, 21⟩ ⟨11, 23, 11, 25⟩) (PySem.BadP.iB ⟨12, 8, 12, 12⟩ ⟨12, 8, 12, 15⟩ ⟨12, 18, 12, 20⟩ ⟨12, 8, 12, 20⟩) PySem.BadP.iS .none .none dcB pmB anB cdB ctB), slB⟩) (ciB : PySem.W.codeIn K cdB "BadPaper.__init__" = true)
    (kCB : PySem.W.keepIn K (.ref CB) = true) (eCB : PySem.W.subIn K (.ref CB) (.type "BaseException") = some true) (tyCB : PySem.W.typeIn K (.ref CB) = some (.type "type")) (hCB : PySem.W.hasDictIn K CB = true) (iCB : PySem.W.isClsIn K CB = true) (sCB : PySem.W.subIn K (.ref CB) (.ref CB) = some true)
    (gP : PySem.W.nsIn K mainGlobals "PAST" = some (some (.ref dp))) (lP : K.lookup dp = some ⟨.type "dict", none, .dict esP nP, #[]⟩) (q1 : PySem.W.nsIn K dp "past map" = some (some (.str "map" v1))) (q2 : PySem.W.nsIn K dp "past join" = some (some (.str "join" v2))) (q3 : PySem.W.nsIn K dp "past fold" = some (some (.str "fold" v3))) (q4 : PySem.W.nsIn K dp "past union" = some (some (.str "union" v4))) (q5 : PySem.W.nsIn K dp "past unlike" = some (some (.str "unlike" v5))) (r1 : PySem.W.nsIn K dp "and" = some none) (r2 : PySem.W.nsIn K dp "maps" = some none) (r3 : PySem.W.nsIn K dp "narrow" = some none) (r4 : PySem.W.nsIn K dp "same" = some none) (r5 : PySem.W.nsIn K dp "drop" = some none) (r6 : PySem.W.nsIn K dp "no" = some none) (gKP : PySem.W.KeysLit w.params esP.toList) (lwP : (dp == sysModules) = false) :
    ∃ fd : FuncData, (∀ (s : Shared) (v : Value), BindsTo s fd ⟨[v], []⟩ [("script", v)]) ∧ ∀ base : Heap, K.In base → base.Ns mainGlobals mg → FnOk l.prog w K mg base CX0 201 fa fd ["script"] (spLaw K) := by
  have e := hfa.symm.trans (PySem.W.mg_of X G a62)
  cases e
  have F1 := fun_mk (st := s_parts_of) l1 c1 k1
  have b1 := F1.binds (ps := ["told"]) fun _ _ _ _ _ _ us hl => match us, hl with | [_], _ => rfl
  have m1 := PySem.W.mg_of X G a1
  have F2 := fun_mk (st := s_rows_of_parts) l2 c2 k2
  have b2 := F2.binds (ps := ["told"]) fun _ _ _ _ _ _ us hl => match us, hl with | [_], _ => rfl
  have m2 := PySem.W.mg_of X G a2
  have F3 := fun_mk (st := s_how_many) l3 c3 k3
  have b3 := F3.binds (ps := ["told"]) fun _ _ _ _ _ _ us hl => match us, hl with | [_], _ => rfl
  have m3 := PySem.W.mg_of X G a3
  have F4 := fun_mk (st := s_how_deep) l4 c4 k4
  have b4 := F4.binds (ps := ["told"]) fun _ _ _ _ _ _ us hl => match us, hl with | [_], _ => rfl
  have m4 := PySem.W.mg_of X G a4
  have F5 := fun_mk (st := s_is_large) l5 c5 k5
  have b5 := F5.binds (ps := ["told"]) fun _ _ _ _ _ _ us hl => match us, hl with | [_], _ => rfl
  have m5 := PySem.W.mg_of X G a5
  have F6 := fun_mk (st := s_columns_used) l6 c6 k6
  have b6 := F6.binds (ps := ["told"]) fun _ _ _ _ _ _ us hl => match us, hl with | [_], _ => rfl
  have m6 := PySem.W.mg_of X G a6
  have F7 := fun_mk (st := s_with_columns) l7 c7 k7
  have b7 := F7.binds (ps := ["told", "meanings"]) fun _ _ _ _ _ _ us hl => match us, hl with | [_, _], _ => rfl
  have m7 := PySem.W.mg_of X G a7
  have F8 := fun_mk (st := s_two) l8 c8 k8
  have b8 := F8.binds (ps := ["op", "one", "other"]) fun _ _ _ _ _ _ us hl => match us, hl with | [_, _, _], _ => rfl
  have m8 := PySem.W.mg_of X G a8
  have F9 := fun_mk (st := s_kind) l9 c9 k9
  have b9 := F9.binds (ps := ["told", "kinds"]) fun _ _ _ _ _ _ us hl => match us, hl with | [_, _], _ => rfl
  have m9 := PySem.W.mg_of X G a9
  have F10 := fun_mk (st := s_check_there) l10 c10 k10
  have b10 := F10.binds (ps := ["name", "words", "kinds"]) fun _ _ _ _ _ _ us hl => match us, hl with | [_, _, _], _ => rfl
  have m10 := PySem.W.mg_of X G a10
  have F11 := fun_mk (st := s_unlike_columns) l11 c11 k11
  have b11 := F11.binds (ps := ["name", "columns"]) fun _ _ _ _ _ _ us hl => match us, hl with | [_, _], _ => rfl
  have m11 := PySem.W.mg_of X G a11
  have F12 := fun_mk (st := s_columns_of_read) l12 c12 k12
  have b12 := F12.binds (ps := ["name", "given", "details"]) fun _ _ _ _ _ _ us hl => match us, hl with | [_, _, _], _ => rfl
  have m12 := PySem.W.mg_of X G a12
  have F13 := fun_mk (st := s_columns_of_filter) l13 c13 k13
  have b13 := F13.binds (ps := ["name", "given", "details"]) fun _ _ _ _ _ _ us hl => match us, hl with | [_, _, _], _ => rfl
  have m13 := PySem.W.mg_of X G a13
  have F14 := fun_mk (st := s_columns_of_map) l14 c14 k14
  have b14 := F14.binds (ps := ["name", "given", "details"]) fun _ _ _ _ _ _ us hl => match us, hl with | [_, _, _], _ => rfl
  have m14 := PySem.W.mg_of X G a14
  have F15 := fun_mk (st := s_kind_of_fold) l15 c15 k15
  have b15 := F15.binds (ps := ["name", "fold", "told", "kinds"]) fun _ _ _ _ _ _ us hl => match us, hl with | [_, _, _, _], _ => rfl
  have m15 := PySem.W.mg_of X G a15
  have F16 := fun_mk (st := s_columns_of_fold) l16 c16 k16
  have b16 := F16.binds (ps := ["name", "given", "details"]) fun _ _ _ _ _ _ us hl => match us, hl with | [_, _, _], _ => rfl
  have m16 := PySem.W.mg_of X G a16
  have F17 := fun_mk (st := s_columns_of_join) l17 c17 k17
  have b17 := F17.binds (ps := ["name", "given", "details"]) fun _ _ _ _ _ _ us hl => match us, hl with | [_, _, _], _ => rfl
  have m17 := PySem.W.mg_of X G a17
  have F18 := fun_mk (st := s_columns_of_union) l18 c18 k18
  have b18 := F18.binds (ps := ["name", "given", "details"]) fun _ _ _ _ _ _ us hl => match us, hl with | [_, _, _], _ => rfl
  have m18 := PySem.W.mg_of X G a18
  have F19 := fun_mk (st := s_columns_of_unlike) l19 c19 k19
  have b19 := F19.binds (ps := ["name", "given", "details"]) fun _ _ _ _ _ _ us hl => match us, hl with | [_, _, _], _ => rfl
  have m19 := PySem.W.mg_of X G a19
  have F20 := fun_mk (st := s_columns_of_sort) l20 c20 k20
  have b20 := F20.binds (ps := ["name", "given", "details"]) fun _ _ _ _ _ _ us hl => match us, hl with | [_, _, _], _ => rfl
  have m20 := PySem.W.mg_of X G a20
  have F21 := fun_mk (st := s_columns_of) l21 c21 k21
  have b21 := F21.binds (ps := ["job"]) fun _ _ _ _ _ _ us hl => match us, hl with | [_], _ => rfl
  have m21 := PySem.W.mg_of X G a21
  have F22 := fun_mk (st := s_step_named) l22 c22 k22
  have b22 := F22.binds (ps := ["job", "name"]) fun _ _ _ _ _ _ us hl => match us, hl with | [_, _], _ => rfl
  have m22 := PySem.W.mg_of X G a22
  have F23 := fun_mk (st := s_is_used) l23 c23 k23
  have b23 := F23.binds (ps := ["job", "name"]) fun _ _ _ _ _ _ us hl => match us, hl with | [_, _], _ => rfl
  have m23 := PySem.W.mg_of X G a23
  have F24 := fun_mk (st := s_free_names) l24 c24 k24
  have b24 := F24.binds (ps := ["job", "many"]) fun _ _ _ _ _ _ us hl => match us, hl with | [_, _], _ => rfl
  have m24 := PySem.W.mg_of X G a24
  have F25 := fun_mk (st := s_map_meanings) l25 c25 k25
  have b25 := F25.binds (ps := ["details"]) fun _ _ _ _ _ _ us hl => match us, hl with | [_], _ => rfl
  have m25 := PySem.W.mg_of X G a25
  have F26 := fun_mk (st := s_one_filter) l26 c26 k26
  have b26 := F26.binds (ps := ["step", "below"]) fun _ _ _ _ _ _ us hl => match us, hl with | [_, _], _ => rfl
  have m26 := PySem.W.mg_of X G a26
  have F27 := fun_mk (st := s_one_map) l27 c27 k27
  have b27 := F27.binds (ps := ["step", "below"]) fun _ _ _ _ _ _ us hl => match us, hl with | [_, _], _ => rfl
  have m27 := PySem.W.mg_of X G a27
  have F28 := fun_mk (st := s_has_all) l28 c28 k28
  have b28 := F28.binds (ps := ["names", "places"]) fun _ _ _ _ _ _ us hl => match us, hl with | [_, _], _ => rfl
  have m28 := PySem.W.mg_of X G a28
  have F29 := fun_mk (st := s_filter_past) l29 c29 k29
  have b29 := F29.binds (ps := ["job", "step", "below"]) fun _ _ _ _ _ _ us hl => match us, hl with | [_, _, _], _ => rfl
  have m29 := PySem.W.mg_of X G a29
  have F30 := fun_mk (st := s_narrowed) l30 c30 k30
  have b30 := F30.binds (ps := ["job", "step"]) fun _ _ _ _ _ _ us hl => match us, hl with | [_, _], _ => rfl
  have m30 := PySem.W.mg_of X G a30
  have F31 := fun_mk (st := s_made_of) l31 c31 k31
  have b31 := F31.binds (ps := ["job", "rule", "step"]) fun _ _ _ _ _ _ us hl => match us, hl with | [_, _, _], _ => rfl
  have m31 := PySem.W.mg_of X G a31
  have F32 := fun_mk (st := s_first_alike) l32 c32 k32
  have b32 := F32.binds (ps := ["job", "step"]) fun _ _ _ _ _ _ us hl => match us, hl with | [_, _], _ => rfl
  have m32 := PySem.W.mg_of X G a32
  have F33 := fun_mk (st := s_with_input) l33 c33 k33
  have b33 := F33.binds (ps := ["step", "old", "new"]) fun _ _ _ _ _ _ us hl => match us, hl with | [_, _, _], _ => rfl
  have m33 := PySem.W.mg_of X G a33
  have F34 := fun_mk (st := s_without_use) l34 c34 k34
  have b34 := F34.binds (ps := ["job", "step"]) fun _ _ _ _ _ _ us hl => match us, hl with | [_, _], _ => rfl
  have m34 := PySem.W.mg_of X G a34
  have F35 := fun_mk (st := s_in_place) l35 c35 k35
  have b35 := F35.binds (ps := ["job", "name", "made"]) fun _ _ _ _ _ _ us hl => match us, hl with | [_, _, _], _ => rfl
  have m35 := PySem.W.mg_of X G a35
  have F36 := fun_mk (st := s_without_step) l36 c36 k36
  have b36 := F36.binds (ps := ["job", "name"]) fun _ _ _ _ _ _ us hl => match us, hl with | [_, _], _ => rfl
  have m36 := PySem.W.mg_of X G a36
  have F37 := fun_mk (st := s_applied) l37 c37 k37
  have b37 := F37.binds (ps := ["job", "rule", "name"]) fun _ _ _ _ _ _ us hl => match us, hl with | [_, _, _], _ => rfl
  have m37 := PySem.W.mg_of X G a37
  have F38 := fun_mk (st := s_exprs) l38 c38 k38
  have b38 := F38.binds (ps := ["step"]) fun _ _ _ _ _ _ us hl => match us, hl with | [_], _ => rfl
  have m38 := PySem.W.mg_of X G a38
  have F39 := fun_mk (st := s_large_step) l39 c39 k39
  have b39 := F39.binds (ps := ["step"]) fun _ _ _ _ _ _ us hl => match us, hl with | [_], _ => rfl
  have m39 := PySem.W.mg_of X G a39
  have F40 := fun_mk (st := s_large_job) l40 c40 k40
  have b40 := F40.binds (ps := ["job"]) fun _ _ _ _ _ _ us hl => match us, hl with | [_], _ => rfl
  have m40 := PySem.W.mg_of X G a40
  have F41 := fun_mk (st := s_is_pair) l41 c41 k41
  have b41 := F41.binds (ps := ["row"]) fun _ _ _ _ _ _ us hl => match us, hl with | [_], _ => rfl
  have m41 := PySem.W.mg_of X G a41
  have F42 := fun_mk (st := s_made_by) l42 c42 k42
  have b42 := F42.binds (ps := ["job", "row"]) fun _ _ _ _ _ _ us hl => match us, hl with | [_, _], _ => rfl
  have m42 := PySem.W.mg_of X G a42
  have F43 := fun_mk (st := s_judged) l43 c43 k43
  have b43 := F43.binds (ps := ["job", "paper"]) fun _ _ _ _ _ _ us hl => match us, hl with | [_, _], _ => rfl
  have m43 := PySem.W.mg_of X G a43
  have F44 := fun_mk (st := sCell) l44 c44 k44
  have b44 := F44.binds (ps := ["script", "k"]) fun _ _ _ _ _ _ us hl => match us, hl with | [_, _], _ => rfl
  have m44 := PySem.W.mg_of X G a44
  have F45 := fun_mk (st := sDraw) l45 c45 k45
  have b45 := F45.binds (ps := ["cell", "k", "bound"]) fun _ _ _ _ _ _ us hl => match us, hl with | [_, _, _], _ => rfl
  have m45 := PySem.W.mg_of X G a45
  have F46 := fun_mk (st := sNumb) l46 c46 k46
  have b46 := F46.binds (ps := ["cell", "k", "bound"]) fun _ _ _ _ _ _ us hl => match us, hl with | [_, _, _], _ => rfl
  have m46 := PySem.W.mg_of X G a46
  have F47 := fun_mk (st := sNext) l47 c47 k47
  have b47 := F47.binds (ps := ["draw", "bound"]) fun _ _ _ _ _ _ us hl => match us, hl with | [_, _], _ => rfl
  have m47 := PySem.W.mg_of X G a47
  have F48 := fun_mk (st := sPick) l48 c48 k48
  have b48 := F48.binds (ps := ["draw", "things"]) fun _ _ _ _ _ _ us hl => match us, hl with | [_, _], _ => rfl
  have m48 := PySem.W.mg_of X G a48
  have F49 := fun_mk (st := sInt) l49 c49 k49
  have b49 := F49.binds (ps := ["draw", "columns", "deep"]) fun _ _ _ _ _ _ us hl => match us, hl with | [_, _, _], _ => rfl
  have m49 := PySem.W.mg_of X G a49
  have F50 := fun_mk (st := s_law_map) l50 c50 k50
  have b50 := F50.binds (ps := ["draw", "columns", "at"]) fun _ _ _ _ _ _ us hl => match us, hl with | [_, _, _], _ => rfl
  have m50 := PySem.W.mg_of X G a50
  have F51 := fun_mk (st := s_law_fold) l51 c51 k51
  have b51 := F51.binds (ps := ["draw", "columns"]) fun _ _ _ _ _ _ us hl => match us, hl with | [_, _], _ => rfl
  have m51 := PySem.W.mg_of X G a51
  have F52 := fun_mk (st := s_law_join) l52 c52 k52
  have b52 := F52.binds (ps := ["draw", "known", "one"]) fun _ _ _ _ _ _ us hl => match us, hl with | [_, _, _], _ => rfl
  have m52 := PySem.W.mg_of X G a52
  have F53 := fun_mk (st := s_law_most) l53 c53 k53
  have b53 := F53.binds (ps := ["draw", "step"]) fun _ _ _ _ _ _ us hl => match us, hl with | [_, _], _ => rfl
  have m53 := PySem.W.mg_of X G a53
  have F54 := fun_mk (st := s_law_step) l54 c54 k54
  have b54 := F54.binds (ps := ["draw", "known", "name", "one"]) fun _ _ _ _ _ _ us hl => match us, hl with | [_, _, _, _], _ => rfl
  have m54 := PySem.W.mg_of X G a54
  have F55 := fun_mk (st := s_law_job) l55 c55 k55
  have b55 := F55.binds (ps := ["draw", "many"]) fun _ _ _ _ _ _ us hl => match us, hl with | [_, _], _ => rfl
  have m55 := PySem.W.mg_of X G a55
  have F56 := fun_mk (st := s_told) l56 c56 k56
  have b56 := F56.binds (ps := ["job", "paper"]) fun _ _ _ _ _ _ us hl => match us, hl with | [_, _], _ => rfl
  have m56 := PySem.W.mg_of X G a56
  have F57 := fun_mk (st := s_size) l57 c57 k57
  have b57 := F57.binds (ps := ["told"]) fun _ _ _ _ _ _ us hl => match us, hl with | [_], _ => rfl
  have m57 := PySem.W.mg_of X G a57
  have F58 := fun_mk (st := s_depth) l58 c58 k58
  have b58 := F58.binds (ps := ["told"]) fun _ _ _ _ _ _ us hl => match us, hl with | [_], _ => rfl
  have m58 := PySem.W.mg_of X G a58
  have F59 := fun_mk (st := s_small) l59 c59 k59
  have b59 := F59.binds (ps := ["job"]) fun _ _ _ _ _ _ us hl => match us, hl with | [_], _ => rfl
  have m59 := PySem.W.mg_of X G a59
  have F60 := fun_mk (st := s_row) l60 c60 k60
  have b60 := F60.binds (ps := ["draw", "here", "rules"]) fun _ _ _ _ _ _ us hl => match us, hl with | [_, _, _], _ => rfl
  have m60 := PySem.W.mg_of X G a60
  have F61 := fun_mk (st := s_lmade) l61 c61 k61
  have b61 := F61.binds (ps := ["here", "row", "rules"]) fun _ _ _ _ _ _ us hl => match us, hl with | [_, _, _], _ => rfl
  have m61 := PySem.W.mg_of X G a61
  have F62 := fun_mk (st := sLaw) l62 c62 k62
  have m_len := PySem.W.mg_none_of X G z1
  have m_int := PySem.W.mg_none_of X G z2
  have m_range := PySem.W.mg_none_of X G z3
  have m_sum := PySem.W.mg_none_of X G z4
  have m_min := PySem.W.mg_none_of X G z5
  have m_max := PySem.W.mg_none_of X G z6
  have m_str := PySem.W.mg_none_of X G z7
  have m_tuple := PySem.W.mg_none_of X G z8
  have m_list := PySem.W.mg_none_of X G z9
  have m_dict := PySem.W.mg_none_of X G z10
  have m_all := PySem.W.mg_none_of X G z11
  have m_any := PySem.W.mg_none_of X G z12
  have m_set := PySem.W.mg_none_of X G z13
  have m_sorted := PySem.W.mg_none_of X G z14
  have m_isinstance := PySem.W.mg_none_of X G z15
  have m_enumerate := PySem.W.mg_none_of X G z16
  have m_zip := PySem.W.mg_none_of X G z17
  have m_MOST_IN_ONE := PySem.W.mg_of X G g1
  have m_MOST_WITHIN := PySem.W.mg_of X G g2
  have m_MOST_STEPS := PySem.W.mg_of X G g3
  have m_MOST_IN_ALL := PySem.W.mg_of X G g4
  have bad : PySem.BadY.BadTxt K mg C fI :=
    { gC := PySem.W.mg_of X G aC, cls := ⟨nm, qn, N, bs, _, sn, sub, ab, col, dd, n0, n1, n2, n3, n5, xL, rfl⟩, sa := sa, ga := gat, gg := gg, noN := nb, noW := nw, iC := ai, tC := ti, kC := kC, exC := eC, tyC := tyC, hdC := hC, te := exm_own eC iC tyC sC,
      fn := ⟨_, _, _, _, _, _, _, _, _, _, _, _, _, _, _, _, _, _, _, li, ci⟩ }
  have Lev : Lv K w mg := by
    refine ⟨⟨dl, PySem.W.mg_of X G gD, fun op h => ?_, fun op h => ?_⟩, _, PySem.W.mg_of X G gCmp⟩
    · have h' : op ∈ (["=", "!=", "<", "<=", ">", ">="] : List Str) := h
      simp only [List.mem_cons, List.not_mem_nil, or_false] at h'
      rcases h' with rfl | rfl | rfl | rfl | rfl | rfl
      · exact ⟨_, _, _, lD, gK, o3, _, rfl⟩
      · exact ⟨_, _, _, lD, gK, o4, _, rfl⟩
      · exact ⟨_, _, _, lD, gK, o5, _, rfl⟩
      · exact ⟨_, _, _, lD, gK, o6, _, rfl⟩
      · exact ⟨_, _, _, lD, gK, o7, _, rfl⟩
      · exact ⟨_, _, _, lD, gK, o8, _, rfl⟩
    · have h' : op ∈ (["+", "-", "*", "/", "mod", "and", "or"] : List Str) := h
      simp only [List.mem_cons, List.not_mem_nil, or_false] at h'
      rcases h' with rfl | rfl | rfl | rfl | rfl | rfl | rfl
      · exact ⟨5, by decide, _, _, _, lD, gK, o9, _, rfl⟩
      · exact ⟨5, by decide, _, _, _, lD, gK, o10, _, rfl⟩
      · exact ⟨6, by decide, _, _, _, lD, gK, o11, _, rfl⟩
      · exact ⟨6, by decide, _, _, _, lD, gK, o12, _, rfl⟩
      · exact ⟨6, by decide, _, _, _, lD, gK, o13, _, rfl⟩
      · exact ⟨2, by decide, _, _, _, lD, gK, o2, _, rfl⟩
      · exact ⟨1, by decide, _, _, _, lD, gK, o1, _, rfl⟩
  have badP : PySem.BadP.BadTxt K mg CB fB :=
    { gC := PySem.W.mg_of X G aCB, cls := ⟨nmB, qnB, NB, bsB, _, snB, subB, abB, colB, ddB, nB0, nB1, nB2, nB3, nB5, xLB, rfl⟩, sa := saB, ga := gatB, gg := ggB, noN := nbB, iC := aiB, tC := tiB, kC := kCB, exC := eCB, tyC := tyCB, hdC := hCB, te := exm_own eCB iCB tyCB sCB,
      fn := ⟨_, _, _, _, _, _, _, _, _, _, _, _, _, _, liB, ciB⟩ }
  have PD : PastD K w mg := by
    refine ⟨⟨dp, esP, nP, PySem.W.mg_of X G gP, ⟨lP, gKP, lwP⟩, fun z hz => ?_⟩⟩
    have hz' : z ∈ (["and", "past map", "past join", "past fold", "past union", "past unlike", "maps", "narrow", "same", "drop", "no"] : List Str) := hz
    simp only [List.mem_cons, List.not_mem_nil, or_false] at hz'
    rcases hz' with rfl | rfl | rfl | rfl | rfl | rfl | rfl | rfl | rfl | rfl | rfl
    · exact .inr ⟨r1, by decide +kernel⟩
    · exact .inl ⟨_, .str "map", q1, ⟨_, rfl⟩, by decide +kernel⟩
    · exact .inl ⟨_, .str "join", q2, ⟨_, rfl⟩, by decide +kernel⟩
    · exact .inl ⟨_, .str "fold", q3, ⟨_, rfl⟩, by decide +kernel⟩
    · exact .inl ⟨_, .str "union", q4, ⟨_, rfl⟩, by decide +kernel⟩
    · exact .inl ⟨_, .str "unlike", q5, ⟨_, rfl⟩, by decide +kernel⟩
    · exact .inr ⟨r2, by decide +kernel⟩
    · exact .inr ⟨r3, by decide +kernel⟩
    · exact .inr ⟨r4, by decide +kernel⟩
    · exact .inr ⟨r5, by decide +kernel⟩
    · exact .inr ⟨r6, by decide +kernel⟩
  refine ⟨PySem.W.fnOf "law" "law" (defArgs sLaw) (defBody sLaw) (defScope sLaw) .none kV62 dc62 pm62 an62 cd62 ct62, fun s v => .of_eq rfl, fun base _ _ => ?_⟩
  have R_parts : Ready l.prog w K mg base 1 "parts_of" ["told"] spParts := ⟨⟨f1, _, ok_parts F1, b1, m1, k1⟩⟩
  have R_rows : Ready l.prog w K mg base 2 "rows_of_parts" ["told"] spRows := ⟨⟨f2, _, ok_rows F2 m_len R_parts, b2, m2, k2⟩⟩
  have R_many : Ready l.prog w K mg base 3 "how_many" ["told"] spMany := ⟨⟨f3, _, ok_many F3 m_len m_sum R_rows, b3, m3, k3⟩⟩
  have R_deep : Ready l.prog w K mg base 3 "how_deep" ["told"] spDeep := ⟨⟨f4, _, ok_deep F4 m_len R_rows, b4, m4, k4⟩⟩
  have R_large : Ready l.prog w K mg base 4 "is_large" ["told"] spLarge := ⟨⟨f5, _, ok_large F5 ⟨_, m_MOST_IN_ONE⟩ ⟨_, m_MOST_WITHIN⟩ R_many R_deep, b5, m5, k5⟩⟩
  have R_used : ∀ m, Ready l.prog w K mg base (m + 1) "columns_used" ["told"] (spUsed m) := fun m => by
    induction m with
    | zero => exact ⟨⟨f6, _, no_used, b6, m6, k6⟩⟩
    | succ m ih => exact ⟨⟨f6, _, ok_used F6 (by omega) R_parts ih, b6, m6, k6⟩⟩
  have R_with : ∀ m, Ready l.prog w K mg base (m + 1) "with_columns" ["told", "meanings"] (spWith m) := fun m => by
    induction m with
    | zero => exact ⟨⟨f7, _, no_with, b7, m7, k7⟩⟩
    | succ m ih => exact ⟨⟨f7, _, ok_with F7 ih, b7, m7, k7⟩⟩
  have R_two : Ready l.prog w K mg base 1 "kind_of_two" ["op", "one", "other"] spTwoK := ⟨⟨f8, _, ok_twoK F8 Lev, b8, m8, k8⟩⟩
  have R_kind : ∀ m, Ready l.prog w K mg base (m + 1) "kind_of" ["told", "kinds"] (spKind m) := fun m => by
    induction m with
    | zero => exact ⟨⟨f9, _, no_kind, b9, m9, k9⟩⟩
    | succ m ih => exact ⟨⟨f9, _, ok_kind F9 R_two ih, b9, m9, k9⟩⟩
  have R_there : ReadyX l.prog w K mg base 2 "check_there" ["name", "words", "kinds"] (spThere K C) := ⟨⟨f10, _, ok_there F10 bad, b10, m10, k10⟩⟩
  have R_unl : ReadyX l.prog w K mg base 2 "unlike_columns" ["name", "columns"] (spUnl K C) := ⟨⟨f11, _, ok_unl F11 bad m_len m_set m_tuple, b11, m11, k11⟩⟩
  have R_kf : ReadyX l.prog w K mg base 102 "kind_of_fold" ["name", "fold", "told", "kinds"] (spKF C) := ⟨⟨f15, _, ok_kf F15 bad (R_kind 100), b15, m15, k15⟩⟩
  have CK : CkAt l.prog w K mg base C := by
    let ff : Str → Addr := fun wh => if wh = "read" then f12 else if wh = "filter" then f13 else if wh = "map" then f14 else if wh = "fold" then f16 else if wh = "join" then f17 else if wh = "union" then f18 else if wh = "unlike" then f19 else f20
    refine ⟨dc, ff, PySem.W.mg_of X G gC2, fun wh hw => ?_⟩
    have hw' : wh ∈ (["read", "filter", "map", "fold", "join", "union", "unlike", "sort"] : List Str) := hw
    simp only [List.mem_cons, List.not_mem_nil, or_false] at hw'
    rcases hw' with rfl | rfl | rfl | rfl | rfl | rfl | rfl | rfl
    · have e : ff "read" = f12 := if_pos rfl
      rw [e]
      exact ⟨⟨_, _, _, lC, gK2, p1, rfl⟩, ⟨3, by decide, ⟨⟨_, _, ok_read F12 R_unl, k12, b12⟩⟩⟩⟩
    · have e : ff "filter" = f13 := (if_neg (by decide +kernel)).trans (if_pos rfl)
      rw [e]
      exact ⟨⟨_, _, _, lC, gK2, p2, rfl⟩, ⟨102, by decide, ⟨⟨_, _, ok_filter F13 bad m_dict (R_kind 100), k13, b13⟩⟩⟩⟩
    · have e : ff "map" = f14 := (if_neg (by decide +kernel)).trans ((if_neg (by decide +kernel)).trans (if_pos rfl))
      rw [e]
      exact ⟨⟨_, _, _, lC, gK2, p3, rfl⟩, ⟨102, by decide, ⟨⟨_, _, ok_cmap F14 bad m_dict (R_kind 100) R_unl, k14, b14⟩⟩⟩⟩
    · have e : ff "fold" = f16 := (if_neg (by decide +kernel)).trans ((if_neg (by decide +kernel)).trans ((if_neg (by decide +kernel)).trans (if_pos rfl)))
      rw [e]
      exact ⟨⟨_, _, _, lC, gK2, p4, rfl⟩, ⟨103, by decide, ⟨⟨_, _, ok_cfold F16 bad m_dict R_kf R_there R_unl, k16, b16⟩⟩⟩⟩
    · have e : ff "join" = f17 := (if_neg (by decide +kernel)).trans ((if_neg (by decide +kernel)).trans ((if_neg (by decide +kernel)).trans ((if_neg (by decide +kernel)).trans (if_pos rfl))))
      rw [e]
      exact ⟨⟨_, _, _, lC, gK2, p5, rfl⟩, ⟨3, by decide, ⟨⟨_, _, ok_cjoin F17 bad m_dict R_there R_unl, k17, b17⟩⟩⟩⟩
    · have e : ff "union" = f18 := (if_neg (by decide +kernel)).trans ((if_neg (by decide +kernel)).trans ((if_neg (by decide +kernel)).trans ((if_neg (by decide +kernel)).trans ((if_neg (by decide +kernel)).trans (if_pos rfl)))))
      rw [e]
      exact ⟨⟨_, _, _, lC, gK2, p6, rfl⟩, ⟨3, by decide, ⟨⟨_, _, ok_union F18 bad, k18, b18⟩⟩⟩⟩
    · have e : ff "unlike" = f19 := (if_neg (by decide +kernel)).trans ((if_neg (by decide +kernel)).trans ((if_neg (by decide +kernel)).trans ((if_neg (by decide +kernel)).trans ((if_neg (by decide +kernel)).trans ((if_neg (by decide +kernel)).trans (if_pos rfl))))))
      rw [e]
      exact ⟨⟨_, _, _, lC, gK2, p7, rfl⟩, ⟨3, by decide, ⟨⟨_, _, ok_unlike F19, k19, b19⟩⟩⟩⟩
    · have e : ff "sort" = f20 := (if_neg (by decide +kernel)).trans ((if_neg (by decide +kernel)).trans ((if_neg (by decide +kernel)).trans ((if_neg (by decide +kernel)).trans ((if_neg (by decide +kernel)).trans ((if_neg (by decide +kernel)).trans ((if_neg (by decide +kernel)).trans (rfl)))))))
      rw [e]
      exact ⟨⟨_, _, _, lC, gK2, p8, rfl⟩, ⟨3, by decide, ⟨⟨_, _, ok_sort F20 m_dict R_there, k20, b20⟩⟩⟩⟩
  have R_cols : ReadyX l.prog w K mg base 104 "columns_of" ["job"] (spColsJ K C) := ⟨⟨f21, _, ok_cols F21 bad CK, b21, m21, k21⟩⟩
  have R_named : Ready l.prog w K mg base 1 "step_named" ["job", "name"] spNamed := ⟨⟨f22, _, ok_named F22, b22, m22, k22⟩⟩
  have R_isused : Ready l.prog w K mg base 1 "is_used" ["job", "name"] spIsUsed := ⟨⟨f23, _, ok_isused F23 m_any, b23, m23, k23⟩⟩
  have R_free : Ready l.prog w K mg base 1 "free_names" ["job", "many"] spFree := ⟨⟨f24, _, ok_free F24 m_len m_str, b24, m24, k24⟩⟩
  have R_means : Ready l.prog w K mg base 1 "map_meanings" ["details"] (spMeans K) := ⟨⟨f25, _, ok_means F25, b25, m25, k25⟩⟩
  have R_ofil : Ready l.prog w K mg base 1 "one_filter" ["step", "below"] spOneFilter := ⟨⟨f26, _, ok_onefilter F26, b26, m26, k26⟩⟩
  have R_omap : Ready l.prog w K mg base 42 "one_map" ["step", "below"] spOneMap := ⟨⟨f27, _, ok_onemap (k := 41) F27 (by decide) m_tuple R_means (R_with 40), b27, m27, k27⟩⟩
  have R_hasall : Ready l.prog w K mg base 1 "has_all" ["names", "places"] (spHasAll K) := ⟨⟨f28, _, ok_hasall F28 m_all, b28, m28, k28⟩⟩
  have R_past : Ready l.prog w K mg base 105 "filter_past" ["job", "step", "below"] spPast := ⟨⟨f29, _, ok_past (k := 104) F29 (by decide) (by decide) (by decide) (by decide) m_len m_tuple m_dict m_zip R_cols (R_used 90) R_free R_hasall R_means (R_with 40), b29, m29, k29⟩⟩
  have R_narrow : Ready l.prog w K mg base 105 "narrowed" ["job", "step"] spNarrow := ⟨⟨f30, _, ok_narrow (k := 104) F30 (by decide) (by decide) (by decide) m_len m_tuple m_list R_cols (R_used 40) R_free, b30, m30, k30⟩⟩
  have R_madeof : Ready l.prog w K mg base 106 "made_of" ["job", "rule", "step"] spMadeOf := ⟨⟨f31, _, ok_madeof (k := 105) F31 PD (by decide) (by decide) (by decide) (by decide) R_named R_narrow R_past R_ofil R_omap, b31, m31, k31⟩⟩
  have R_first : Ready l.prog w K mg base 1 "first_alike" ["job", "step"] spFirst := ⟨⟨f32, _, ok_first F32, b32, m32, k32⟩⟩
  have R_input : Ready l.prog w K mg base 1 "with_input" ["step", "old", "new"] spInput := ⟨⟨f33, _, ok_input F33 m_tuple, b33, m33, k33⟩⟩
  have R_same : Ready l.prog w K mg base 2 "without_use" ["job", "step"] spSame := ⟨⟨f34, _, ok_same F34 m_tuple R_isused R_first R_input, b34, m34, k34⟩⟩
  have R_place : Ready l.prog w K mg base 1 "in_place" ["job", "name", "made"] spPlace := ⟨⟨f35, _, ok_place F35 m_tuple, b35, m35, k35⟩⟩
  have R_drop : Ready l.prog w K mg base 2 "without_step" ["job", "name"] spDrop := ⟨⟨f36, _, ok_drop F36 R_isused R_place, b36, m36, k36⟩⟩
  have R_applied : Ready l.prog w K mg base 107 "applied" ["job", "rule", "name"] spApplied := ⟨⟨f37, _, ok_applied (k := 106) (ks := 0) F37 (by decide) (by decide) R_named R_same R_drop R_madeof R_place, b37, m37, k37⟩⟩
  have R_exprs : Ready l.prog w K mg base 1 "expressions_of" ["step"] spExprs := ⟨⟨f38, _, ok_exprs F38, b38, m38, k38⟩⟩
  have R_lstep : Ready l.prog w K mg base 5 "is_large_step" ["step"] spLargeStep := ⟨⟨f39, _, ok_lstep F39 m_any m_sum ⟨_, m_MOST_IN_ALL⟩ R_exprs R_large R_many, b39, m39, k39⟩⟩
  have R_ljob : Ready l.prog w K mg base 6 "is_large_job" ["job"] spLargeJob := ⟨⟨f40, _, ok_ljob F40 m_any m_len ⟨_, m_MOST_STEPS⟩ R_lstep, b40, m40, k40⟩⟩
  have R_pair : Ready l.prog w K mg base 1 "is_pair" ["row"] spIsPair := ⟨⟨f41, _, ok_ispair F41 m_isinstance m_tuple m_str m_len m_all, b41, m41, k41⟩⟩
  have R_by : Ready l.prog w K mg base 108 "made_by" ["job", "row"] spMadeBy := ⟨⟨f42, _, ok_madeby (k := 107) F42 (by decide) (by decide) R_pair R_applied R_ljob, b42, m42, k42⟩⟩
  have R_judged : ReadyX l.prog w K mg base 149 "judged" ["job", "paper"] (spJudged CB) := ⟨⟨f43, _, ok_judged (k := 148) F43 badP (by decide) (by decide) (by decide) m_enumerate R_cols R_by, b43, m43, k43⟩⟩
  have R_cell : Ready l.prog w K mg base 1 "_law_cell_at" ["script", "k"] (spCell K) := ⟨⟨f44, _, ok_cell F44 m_len, b44, m44, k44⟩⟩
  have R_draw : Ready l.prog w K mg base 1 "_law_draw" ["cell", "k", "bound"] spDraw := ⟨⟨f45, _, ok_draw F45 m_int, b45, m45, k45⟩⟩
  have R_numb : Ready l.prog w K mg base 2 "_law_number" ["cell", "k", "bound"] spNumb := ⟨⟨f46, _, ok_numb F46 m_int m_range R_draw, b46, m46, k46⟩⟩
  have R_next : Ready l.prog w K mg base 3 "_law_next" ["draw", "bound"] spNext := ⟨⟨f47, _, ok_next F47 m_int R_cell R_numb, b47, m47, k47⟩⟩
  have R_pick : Ready l.prog w K mg base 4 "_law_pick" ["draw", "things"] (spPick K) := ⟨⟨f48, _, ok_pick F48 m_len R_next, b48, m48, k48⟩⟩
  have R_int : ∀ m, Ready l.prog w K mg base (m + 4) "_law_int" ["draw", "columns", "deep"] (spInt m) := fun m => by
    induction m with
    | zero => exact ⟨⟨f49, _, no_int, b49, m49, k49⟩⟩
    | succ m ih => exact ⟨⟨f49, _, ok_int F49 m_len R_next R_pick ih, b49, m49, k49⟩⟩
  have R_map : Ready l.prog w K mg base 8 "_law_map" ["draw", "columns", "at"] spMap := ⟨⟨f50, _, ok_map F50 m_range m_str m_tuple R_next R_pick (R_int 3), b50, m50, k50⟩⟩
  have R_fold : Ready l.prog w K mg base 8 "_law_fold" ["draw", "columns"] spFold := ⟨⟨f51, _, ok_fold F51 m_range m_str m_tuple m_list m_len m_set R_next R_pick (R_int 2), b51, m51, k51⟩⟩
  have R_join : Ready l.prog w K mg base 5 "_law_join" ["draw", "known", "one"] spJoin := ⟨⟨f52, _, ok_join F52 m_tuple m_len m_set m_sorted R_next R_pick, b52, m52, k52⟩⟩
  have R_most : Ready l.prog w K mg base 1 "_law_most" ["draw", "step"] spMost := ⟨⟨f53, _, ok_most F53 m_sum m_min, b53, m53, k53⟩⟩
  have R_step : Ready l.prog w K mg base 9 "_law_step" ["draw", "known", "name", "one"] spStep := ⟨⟨f54, _, ok_step F54 m_tuple m_sorted R_next R_pick (R_int 3) R_map R_fold R_join, b54, m54, k54⟩⟩
  have R_job : Ready l.prog w K mg base 10 "_law_job" ["draw", "many"] spJob := ⟨⟨f55, _, ok_job F55 m_tuple m_sorted m_len m_str m_range R_next R_pick R_step R_most, b55, m55, k55⟩⟩
  have R_told : Ready l.prog w K mg base 150 "_law_told" ["job", "paper"] spTold := ⟨⟨f56, _, ok_told F56 badP R_judged, b56, m56, k56⟩⟩
  have R_size : ∀ m, Ready l.prog w K mg base (m + 1) "_law_size" ["told"] (spLSize m) := fun m => by
    induction m with
    | zero => exact ⟨⟨f57, _, no_size, b57, m57, k57⟩⟩
    | succ m ih => exact ⟨⟨f57, _, ok_size F57 m_sum m_isinstance m_tuple ih, b57, m57, k57⟩⟩
  have R_depth : ∀ m, Ready l.prog w K mg base (m + 1) "_law_depth" ["told"] (spLDepth m) := fun m => by
    induction m with
    | zero => exact ⟨⟨f58, _, no_depth, b58, m58, k58⟩⟩
    | succ m ih => exact ⟨⟨f58, _, ok_depth F58 m_max m_isinstance m_tuple ih, b58, m58, k58⟩⟩
  have R_small : Ready l.prog w K mg base 92 "_law_is_small" ["job"] spSmall := ⟨⟨f59, _, ok_small (k := 91) F59 (by decide) (by decide) m_any m_sum m_len (R_size 90) (R_depth 90), b59, m59, k59⟩⟩
  have R_row : Ready l.prog w K mg base 150 "_law_row" ["draw", "here", "rules"] spRow := ⟨⟨f60, _, ok_row (k := 149) F60 (by decide) (by decide) R_applied R_next R_pick, b60, m60, k60⟩⟩
  have R_lmade : Ready l.prog w K mg base 150 "_law_made" ["here", "row", "rules"] spLMade := ⟨⟨f61, _, ok_lmade (k := 149) F61 (by decide) (by decide) m_isinstance m_tuple m_str m_len R_applied R_small, b61, m61, k61⟩⟩
  exact ok_law (k := 200) F62 (by decide) m_range m_tuple R_job R_row R_lmade R_told
theorem walk {l : PySem.W.OpenLaw} {q : Program} {loose : List Str} {XP : (Str → Option Value) → Heap → Prop} {YP : World → Heap → Prop} {d : DefRec} {K : Params → PySem.W.Frag} (hn : l.most = some 63) (hdf : d.params.defaults = [])
    (hY : ∀ (w : World) (h : Heap), YP w h → (K w.params).In h)
    (F : ∀ (w : World) (mg : Str → Option Value) (fa : Addr) (h : Heap), (K w.params).In h → h.Ns mainGlobals mg → mg d.name = some (.ref fa) →
      ∃ fd : FuncData, (∀ (s : Shared) (u : Value), BindsTo s fd ⟨[u], []⟩ [("script", u)]) ∧ ∀ base : Heap, (K w.params).In base → base.Ns mainGlobals mg → FnOk l.prog w (K w.params) mg base CX0 201 fa fd ["script"] (spLaw (K w.params))) :
    PySem.W.WalkO q loose XP YP l.row.toRowW d [] (fun f vs => PySem.call f vs) :=
  L2.walk_of (n := 63) (k := 201) (x := "script") (CX := fun _ => CX0) (sp := fun w => spLaw (K w.params)) hn (by decide) hdf ⟨rfl, by decide, by decide⟩ hY F (fun _ _ a ns hl _ hS => ⟨a, ns, rfl, hS, fun _ => rfl⟩) fun _ _ _ _ _ z => z
end Kx
open PySem PySem.W PyProof.Rows
set_option maxRecDepth 100000 in
set_option maxHeartbeats 0 in
theorem PySem.Challenge.cw_countedonce_k09_whole_papers_holds : PySem.Challenge.rw_countedonce_k09_whole_papers.Holds := by
  w_on; o_law; k_head; (case hw => w_witness2)
  k_fill
  refine Kx.walk (l := PySem.Challenge.rw_countedonce_k09_whole_papers) rfl rfl (fun w h Y => PySem.W.kIn_of Y) ?F
  case F =>
    intro w mg fa h KX G hmg
    refine' Kx.all_mk KX G hmg ?a1 ?l1 ?c1 ?k1 ?a2 ?l2 ?c2 ?k2 ?a3 ?l3 ?c3 ?k3 ?a4 ?l4 ?c4 ?k4 ?a5 ?l5 ?c5 ?k5 ?a6 ?l6 ?c6 ?k6 ?a7 ?l7 ?c7 ?k7 ?a8 ?l8 ?c8 ?k8 ?a9 ?l9 ?c9 ?k9 ?a10 ?l10 ?c10 ?k10 ?a11 ?l11 ?c11 ?k11 ?a12 ?l12 ?c12 ?k12 ?a13 ?l13 ?c13 ?k13 ?a14 ?l14 ?c14 ?k14 ?a15 ?l15 ?c15 ?k15 ?a16 ?l16 ?c16 ?k16 ?a17 ?l17 ?c17 ?k17 ?a18 ?l18 ?c18 ?k18 ?a19 ?l19 ?c19 ?k19 ?a20 ?l20 ?c20 ?k20 ?a21 ?l21 ?c21 ?k21 ?a22 ?l22 ?c22 ?k22 ?a23 ?l23 ?c23 ?k23 ?a24 ?l24 ?c24 ?k24 ?a25 ?l25 ?c25 ?k25 ?a26 ?l26 ?c26 ?k26 ?a27 ?l27 ?c27 ?k27 ?a28 ?l28 ?c28 ?k28 ?a29 ?l29 ?c29 ?k29 ?a30 ?l30 ?c30 ?k30 ?a31 ?l31 ?c31 ?k31 ?a32 ?l32 ?c32 ?k32 ?a33 ?l33 ?c33 ?k33 ?a34 ?l34 ?c34 ?k34 ?a35 ?l35 ?c35 ?k35 ?a36 ?l36 ?c36 ?k36 ?a37 ?l37 ?c37 ?k37 ?a38 ?l38 ?c38 ?k38 ?a39 ?l39 ?c39 ?k39 ?a40 ?l40 ?c40 ?k40 ?a41 ?l41 ?c41 ?k41 ?a42 ?l42 ?c42 ?k42 ?a43 ?l43 ?c43 ?k43 ?a44 ?l44 ?c44 ?k44 ?a45 ?l45 ?c45 ?k45 ?a46 ?l46 ?c46 ?k46 ?a47 ?l47 ?c47 ?k47 ?a48 ?l48 ?c48 ?k48 ?a49 ?l49 ?c49 ?k49 ?a50 ?l50 ?c50 ?k50 ?a51 ?l51 ?c51 ?k51 ?a52 ?l52 ?c52 ?k52 ?a53 ?l53 ?c53 ?k53 ?a54 ?l54 ?c54 ?k54 ?a55 ?l55 ?c55 ?k55 ?a56 ?l56 ?c56 ?k56 ?a57 ?l57 ?c57 ?k57 ?a58 ?l58 ?c58 ?k58 ?a59 ?l59 ?c59 ?k59 ?a60 ?l60 ?c60 ?k60 ?a61 ?l61 ?c61 ?k61 ?a62 ?l62 ?c62 ?k62 ?z1 ?z2 ?z3 ?z4 ?z5 ?z6 ?z7 ?z8 ?z9 ?z10 ?z11 ?z12 ?z13 ?z14 ?z15 ?z16 ?z17 ?g1 ?g2 ?g3 ?g4 ?aC ?xL ?sa ?gat ?gg ?nb ?nw ?ai ?ti ?li ?ci ?kC ?eC ?tyC ?hC ?iC ?sC ?gCmp ?gD ?lD ?o1 ?o2 ?o3 ?o4 ?o5 ?o6 ?o7 ?o8 ?o9 ?o10 ?o11 ?o12 ?o13 ?gK ?gC2 ?lC ?p1 ?p2 ?p3 ?p4 ?p5 ?p6 ?p7 ?p8 ?gK2 ?aCB ?xLB ?saB ?gatB ?ggB ?nbB ?aiB ?tiB ?liB ?ciB ?kCB ?eCB ?tyCB ?hCB ?iCB ?sCB ?gP ?lP ?q1 ?q2 ?q3 ?q4 ?q5 ?r1 ?r2 ?r3 ?r4 ?r5 ?r6 ?gKP ?lwP
    (case a1 => k_is)
    (case l1 => k_is)
    (case c1 => k_is)
    (case k1 => k_is)
    (case a2 => k_is)
    (case l2 => k_is)
    (case c2 => k_is)
    (case k2 => k_is)
    (case a3 => k_is)
    (case l3 => k_is)
    (case c3 => k_is)
    (case k3 => k_is)
    (case a4 => k_is)
    (case l4 => k_is)
    (case c4 => k_is)
    (case k4 => k_is)
    (case a5 => k_is)
    (case l5 => k_is)
    (case c5 => k_is)
    (case k5 => k_is)
    (case a6 => k_is)
    (case l6 => k_is)
    (case c6 => k_is)
    (case k6 => k_is)
    (case a7 => k_is)
    (case l7 => k_is)
    (case c7 => k_is)
    (case k7 => k_is)
    (case a8 => k_is)
    (case l8 => k_is)
    (case c8 => k_is)
    (case k8 => k_is)
    (case a9 => k_is)
    (case l9 => k_is)
    (case c9 => k_is)
    (case k9 => k_is)
    (case a10 => k_is)
    (case l10 => k_is)
    (case c10 => k_is)
    (case k10 => k_is)
    (case a11 => k_is)
    (case l11 => k_is)
    (case c11 => k_is)
    (case k11 => k_is)
    (case a12 => k_is)
    (case l12 => k_is)
    (case c12 => k_is)
    (case k12 => k_is)
    (case a13 => k_is)
    (case l13 => k_is)
    (case c13 => k_is)
    (case k13 => k_is)
    (case a14 => k_is)
    (case l14 => k_is)
    (case c14 => k_is)
    (case k14 => k_is)
    (case a15 => k_is)
    (case l15 => k_is)
    (case c15 => k_is)
    (case k15 => k_is)
    (case a16 => k_is)
    (case l16 => k_is)
    (case c16 => k_is)
    (case k16 => k_is)
    (case a17 => k_is)
    (case l17 => k_is)
    (case c17 => k_is)
    (case k17 => k_is)
    (case a18 => k_is)
    (case l18 => k_is)
    (case c18 => k_is)
    (case k18 => k_is)
    (case a19 => k_is)
    (case l19 => k_is)
    (case c19 => k_is)
    (case k19 => k_is)
    (case a20 => k_is)
    (case l20 => k_is)
    (case c20 => k_is)
    (case k20 => k_is)
    (case a21 => k_is)
    (case l21 => k_is)
    (case c21 => k_is)
    (case k21 => k_is)
    (case a22 => k_is)
    (case l22 => k_is)
    (case c22 => k_is)
    (case k22 => k_is)
    (case a23 => k_is)
    (case l23 => k_is)
    (case c23 => k_is)
    (case k23 => k_is)
    (case a24 => k_is)
    (case l24 => k_is)
    (case c24 => k_is)
    (case k24 => k_is)
    (case a25 => k_is)
    (case l25 => k_is)
    (case c25 => k_is)
    (case k25 => k_is)
    (case a26 => k_is)
    (case l26 => k_is)
    (case c26 => k_is)
    (case k26 => k_is)
    (case a27 => k_is)
    (case l27 => k_is)
    (case c27 => k_is)
    (case k27 => k_is)
    (case a28 => k_is)
    (case l28 => k_is)
    (case c28 => k_is)
    (case k28 => k_is)
    (case a29 => k_is)
    (case l29 => k_is)
    (case c29 => k_is)
    (case k29 => k_is)
    (case a30 => k_is)
    (case l30 => k_is)
    (case c30 => k_is)
    (case k30 => k_is)
    (case a31 => k_is)
    (case l31 => k_is)
    (case c31 => k_is)
    (case k31 => k_is)
    (case a32 => k_is)
    (case l32 => k_is)
    (case c32 => k_is)
    (case k32 => k_is)
    (case a33 => k_is)
    (case l33 => k_is)
    (case c33 => k_is)
    (case k33 => k_is)
    (case a34 => k_is)
    (case l34 => k_is)
    (case c34 => k_is)
    (case k34 => k_is)
    (case a35 => k_is)
    (case l35 => k_is)
    (case c35 => k_is)
    (case k35 => k_is)
    (case a36 => k_is)
    (case l36 => k_is)
    (case c36 => k_is)
    (case k36 => k_is)
    (case a37 => k_is)
    (case l37 => k_is)
    (case c37 => k_is)
    (case k37 => k_is)
    (case a38 => k_is)
    (case l38 => k_is)
    (case c38 => k_is)
    (case k38 => k_is)
    (case a39 => k_is)
    (case l39 => k_is)
    (case c39 => k_is)
    (case k39 => k_is)
    (case a40 => k_is)
    (case l40 => k_is)
    (case c40 => k_is)
    (case k40 => k_is)
    (case a41 => k_is)
    (case l41 => k_is)
    (case c41 => k_is)
    (case k41 => k_is)
    (case a42 => k_is)
    (case l42 => k_is)
    (case c42 => k_is)
    (case k42 => k_is)
    (case a43 => k_is)
    (case l43 => k_is)
    (case c43 => k_is)
    (case k43 => k_is)
    (case a44 => k_is)
    (case l44 => k_is)
    (case c44 => k_is)
    (case k44 => k_is)
    (case a45 => k_is)
    (case l45 => k_is)
    (case c45 => k_is)
    (case k45 => k_is)
    (case a46 => k_is)
    (case l46 => k_is)
    (case c46 => k_is)
    (case k46 => k_is)
    (case a47 => k_is)
    (case l47 => k_is)
    (case c47 => k_is)
    (case k47 => k_is)
    (case a48 => k_is)
    (case l48 => k_is)
    (case c48 => k_is)
    (case k48 => k_is)
    (case a49 => k_is)
    (case l49 => k_is)
    (case c49 => k_is)
    (case k49 => k_is)
    (case a50 => k_is)
    (case l50 => k_is)
    (case c50 => k_is)
    (case k50 => k_is)
    (case a51 => k_is)
    (case l51 => k_is)
    (case c51 => k_is)
    (case k51 => k_is)
    (case a52 => k_is)
    (case l52 => k_is)
    (case c52 => k_is)
    (case k52 => k_is)
    (case a53 => k_is)
    (case l53 => k_is)
    (case c53 => k_is)
    (case k53 => k_is)
    (case a54 => k_is)
    (case l54 => k_is)
    (case c54 => k_is)
    (case k54 => k_is)
    (case a55 => k_is)
    (case l55 => k_is)
    (case c55 => k_is)
    (case k55 => k_is)
    (case a56 => k_is)
    (case l56 => k_is)
    (case c56 => k_is)
    (case k56 => k_is)
    (case a57 => k_is)
    (case l57 => k_is)
    (case c57 => k_is)
    (case k57 => k_is)
    (case a58 => k_is)
    (case l58 => k_is)
    (case c58 => k_is)
    (case k58 => k_is)
    (case a59 => k_is)
    (case l59 => k_is)
    (case c59 => k_is)
    (case k59 => k_is)
    (case a60 => k_is)
    (case l60 => k_is)
    (case c60 => k_is)
    (case k60 => k_is)
    (case a61 => k_is)
    (case l61 => k_is)
    (case c61 => k_is)
    (case k61 => k_is)
    (case a62 => k_is)
    (case l62 => k_is)
    (case c62 => k_is)
    (case k62 => k_is)
    (case z1 => k_is)
    (case z2 => k_is)
    (case z3 => k_is)
    (case z4 => k_is)
    (case z5 => k_is)
    (case z6 => k_is)
    (case z7 => k_is)
    (case z8 => k_is)
    (case z9 => k_is)
    (case z10 => k_is)
    (case z11 => k_is)
    (case z12 => k_is)
    (case z13 => k_is)
    (case z14 => k_is)
    (case z15 => k_is)
    (case z16 => k_is)
    (case z17 => k_is)
    (case g1 => k_is)
    (case g2 => k_is)
    (case g3 => k_is)
    (case g4 => k_is)
    (case aC => k_is)
    (case xL => k_is)
    (case sa => k_is)
    (case gat => k_is)
    (case gg => k_is)
    (case nb => k_is)
    (case nw => k_is)
    (case ai => k_is)
    (case ti => k_is)
    (case li => k_is)
    (case ci => k_is)
    (case kC => k_is)
    (case eC => k_is)
    (case tyC => k_is)
    (case hC => k_is)
    (case iC => k_is)
    (case gCmp => k_is)
    (case gD => k_is)
    (case lD => k_is)
    (case o1 => k_is)
    (case o2 => k_is)
    (case o3 => k_is)
    (case o4 => k_is)
    (case o5 => k_is)
    (case o6 => k_is)
    (case o7 => k_is)
    (case o8 => k_is)
    (case o9 => k_is)
    (case o10 => k_is)
    (case o11 => k_is)
    (case o12 => k_is)
    (case o13 => k_is)
    (case gC2 => k_is)
    (case lC => k_is)
    (case p1 => k_is)
    (case p2 => k_is)
    (case p3 => k_is)
    (case p4 => k_is)
    (case p5 => k_is)
    (case p6 => k_is)
    (case p7 => k_is)
    (case p8 => k_is)
    (case aCB => k_is)
    (case xLB => k_is)
    (case saB => k_is)
    (case gatB => k_is)
    (case ggB => k_is)
    (case nbB => k_is)
    (case aiB => k_is)
    (case tiB => k_is)
    (case liB => k_is)
    (case ciB => k_is)
    (case kCB => k_is)
    (case eCB => k_is)
    (case tyCB => k_is)
    (case hCB => k_is)
    (case iCB => k_is)
    (case gP => k_is)
    (case lP => k_is)
    (case q1 => k_is)
    (case q2 => k_is)
    (case q3 => k_is)
    (case q4 => k_is)
    (case q5 => k_is)
    (case r1 => k_is)
    (case r2 => k_is)
    (case r3 => k_is)
    (case r4 => k_is)
    (case r5 => k_is)
    (case r6 => k_is)
    (case sC => first | rfl | k_is)
    (case gK => repeat (first | exact True.intro | refine ⟨⟨_, _, rfl, rfl⟩, ?_⟩))
    (case gK2 => repeat (first | exact True.intro | refine ⟨⟨_, _, rfl, rfl⟩, ?_⟩))
    (case sCB => first | rfl | k_is)
    (case gKP => repeat (first | exact True.intro | refine ⟨⟨_, _, rfl, rfl⟩, ?_⟩))
    (case lwP => first | rfl | decide +kernel | k_is)
#print axioms PySem.Challenge.cw_countedonce_k09_whole_papers_holds

