import PyProof.Rows.All
import Wide.All
import OpenK.AllK
import Wide.FinOn
import HandS.Base
import HandS.Call
import HandS.List
import HandS.Dict
import HandS.Set
import HandS.Strs
import HandS.TupSets
import HandS.Ends
import HandS.Words
import HandS.More
import HandS.Walk
import KE.GoesMore
import HandS.Sort
import KE.KSortTupUse
import HandS.Comp
import HandS.WordsList
import HandS.Wide
import HandS.TupAny
import HandS.Style
import HandS.ForSpec
import KE.KExcInit
import HandS.TryElse
import HandS.IsInst
import HandS.Zip
import HandS.Codes
import HandS.DictComp
import KE.KNestM
import PySem.Challenge.RW_countedonce_k11_whole_refused_rows
set_option Elab.async false
set_option linter.all false
set_option maxRecDepth 100000
set_option maxHeartbeats 4000000
namespace Yk
open PySem PySem.Spec PyProof.Rows L2
/-! ### sets of ints and texts, their members told -/
def kOf : Value → L2.Key
  | .int i _ => .inl i
  | .str x _ => .inr x
  | _ => .inl 0
/-- an int or a text -/
def Plain (v : Value) : Prop := (∃ i t, v = .int i t) ∨ ∃ x t, v = .str x t
theorem plain_scan {v : Value} (h : Plain v) : v.scannable = true := by
  rcases h with ⟨i, t, rfl⟩ | ⟨x, t, rfl⟩ <;> rfl
section
variable {P : Program} {w : World}
theorem plain_is {v : Value} (h : Plain v) : (mixKind P w).is (kOf v) v = true := by
  rcases h with ⟨i, t, rfl⟩ | ⟨x, t, rfl⟩
  · exact mixKind_int P w i t
  · exact mixKind_str P w x t
theorem is_iff {v : Value} (h : Plain v) (k : L2.Key) : (mixKind P w).is k v = true ↔ kOf v = k :=
  ⟨fun e => (mixKind P w).inj v _ _ (plain_is h) e, fun e => e ▸ plain_is h⟩
theorem rel_plain {k : L2.Key} {u : Value} (r : RelV (kV k) u) : Plain u ∧ kOf u = k := by
  cases k with
  | inl i =>
    obtain ⟨t, rfl⟩ : ∃ t, u = Value.int i t := r
    exact ⟨.inl ⟨i, t, rfl⟩, rfl⟩
  | inr x =>
    obtain ⟨t, rfl⟩ : ∃ t, u = Value.str x t := r
    exact ⟨.inr ⟨x, t, rfl⟩, rfl⟩
def Row (P : Program) (w : World) (e : Int × Value) : Prop := Plain e.2 ∧ e.1 = (mixKind P w).hash (kOf e.2)
/-- at a: a set, its members L in the order of its rows -/
def SetQ (P : Program) (w : World) (h : Heap) (a : Addr) (L : List L2.Key) : Prop :=
  ∃ o es ep t, h.get? a = some o ∧ o.ExactSet ∧ o.data = .set es ep t ∧ (∀ e ∈ es.toList, Row P w e) ∧ L = es.toList.map (fun e => kOf e.2) ∧ L.Nodup ∧
    es.size < scanBound ∧ t.fits es.size = true ∧ Ris t.place.toList ∧ (w.params.followText "set-order" = true ∨ t.led = true)
variable {h h' : Heap} {a : Addr} {L : List L2.Key}
theorem SetQ.at (R : SetQ P w h a L) (k : ∀ o, h.get? a = some o → h'.get? a = some o) : SetQ P w h' a L := by
  obtain ⟨o, es, ep, t, ho, r⟩ := R
  exact ⟨o, es, ep, t, k o ho, r⟩
theorem SetQ.there (R : SetQ P w h a L) : ∃ o, h.get? a = some o := let ⟨o, _, _, _, ho, _⟩ := R; ⟨o, ho⟩
theorem rows_elems {l : List (Int × Value)} (g : ∀ e ∈ l, Row P w e) : ElemsOf (mixKind P w) l := fun e he => ⟨⟨kOf e.2, plain_is (g e he).1, (g e he).2⟩, plain_scan (g e he).1⟩
theorem new_set {led : Bool} (hl : w.params.followText "set-order" = true ∨ led = true) (hg : h.get? a = some { cls := .type "set", dict := none, data := .set #[] 0 (.fresh 0 0 led), slots := #[] }) : SetQ P w h a [] :=
  ⟨_, #[], 0, _, hg, ⟨rfl, rfl, rfl⟩, rfl, fun e he => by simp at he, rfl, List.nodup_nil, by decide, rfl, List.Pairwise.nil, hl⟩
end
section
variable {P : Program} {w : World} {A : Around} {E : Value → Shared → Prop} {s : Shared} {a : Addr} {L : List L2.Key}
/-- behind the laying of a row: perhaps the whole table is laid anew -/
theorem lay_rest {g : Bool → Sem Unit} (hg : ∀ (b : Bool) (s₁ : Shared) (R : Unit → Shared → Prop), R () s₁ → wpAny (model P w) A (g b) R E s₁) {o : Obj} {es : Array (Int × Value)} {ep : Nat} {t : SetTable} (ho : s.heap.get? a = some o) (hx : o.ExactSet)
    (hd : o.data = .set es ep t) {fs : Array (Int × Value)} {u : SetTable} (gr : ∀ e ∈ fs.toList, Row P w e) (nd : (fs.toList.map fun e => kOf e.2).Nodup) (hb : fs.size < scanBound) (hf : u.fits fs.size = true) (hr : Ris u.place.toList)
    (hl : w.params.followText "set-order" = true ∨ u.led = true) {dum : Bool} {R : Option Bool → Shared → Prop}
    (q : ∀ h' M, Heap.SameBut a s.heap h' → M.Perm (fs.toList.map fun e => kOf e.2) → SetQ P w h' a M → R (some true) { s with heap := h' }) :
    wpAny (model P w) A (do
      storeSet a fs u
      if (!dum && u.tooFull) = true then do
        g (relayAll u fs (SetTable.grown fs.size)).2.2
        storeSet a (relayAll u fs (SetTable.grown fs.size)).1 (relayAll u fs (SetTable.grown fs.size)).2.1
        pure (some true)
      else pure (some true)) R E s := by
  refine wpAny_bind (wpAny_storeSet_of ho hd ?_ (fits_of_scanBound hb))
  have o1 := store_at (es' := fs) (t' := u) ho hd
  have b1 := Heap.SameBut.update s.heap a (Obj.putSet fs u)
  split
  · have p1 := relayAll_perm u fs (SetTable.grown fs.size)
    have p2 := relayAll_fits u fs (SetTable.grown fs.size)
    have p3 := relayAll_ris u fs (SetTable.grown fs.size)
    have p4 := relayAll_led u fs (SetTable.grown fs.size)
    generalize relayAll u fs (SetTable.grown fs.size) = Z at p1 p2 p3 p4 ⊢
    obtain ⟨gs, v, gv⟩ := Z
    dsimp only at p1 p2 p3 p4 ⊢
    have sz : gs.size = fs.size := by
      have z := p1.length_eq
      rw [Array.length_toList, Array.length_toList] at z
      exact z
    refine wpAny_bind (hg _ _ _ ?_)
    refine wpAny_bind (wpAny_storeSet_of o1 rfl ?_ (fits_of_scanBound (by rw [sz]; exact hb)))
    have o2 := store_at (es' := gs) (t' := v) o1 rfl
    have pk := p1.map fun e : Int × Value => kOf e.2
    refine wpAny_pure (q _ (gs.toList.map fun e => kOf e.2) (b1.trans (Heap.SameBut.update _ a _)) pk ?_)
    refine ⟨_, gs, _, v, o2, hx, rfl, fun e he => gr e (p1.mem_iff.mp he), rfl, pk.nodup_iff.mpr nd, by rw [sz]; exact hb, p2, p3, ?_⟩
    rcases hl with z | z
    · exact .inl z
    · exact .inr (p4.trans z)
  · exact wpAny_pure (q _ _ b1 (List.Perm.refl _) ⟨_, fs, _, u, o1, hx, rfl, gr, rfl, nd, hb, hf, hr, hl⟩)
/-- s.add(x) behind the hash -/
theorem add_row {x : Value} (hx : Plain x) {Q : Bool → Shared → Prop} (R : SetQ P w s.heap a L) (room : L.length + 1 < scanBound)
    (q : ∀ h' M b, Heap.SameBut a s.heap h' → SetQ P w h' a M → ((kOf x ∈ L ∧ M = L) ∨ (kOf x ∉ L ∧ M.Perm (kOf x :: L))) → Q b { s with heap := h' }) :
    wpAny (model P w) A (setAddHashed a x ((mixKind P w).hash (kOf x))) Q E s := by
  obtain ⟨o, es, ep, t, ho, hex, hd, g, rfl, nd, hb, hf, hr, hl⟩ := R
  have key := plain_is (P := P) (w := w) hx
  have el : ElemsOf (mixKind P w) es.toList := rows_elems g
  unfold setAddHashed setAddHashedIn
  refine wpAny_holding (wpAny_bind (wpAny_setState_of ho hd hf ?_))
  dsimp only
  rw [byScan_of (plain_scan hx) hb el]
  simp only [↓reduceIte]
  unfold setAddByScan
  refine wpAny_bind ?_
  refine wpAny_bind (wpAny_rule ?_)
  refine wpAny_bind (wpAny_setScan_of key ho hd hf el ?_)
  cases fi : List.findIdx? (fun e => (mixKind P w).is (kOf x) e.2) es.toList with
  | some j =>
    dsimp only
    obtain ⟨hj, pj, _⟩ := List.findIdx?_eq_some_iff_getElem.mp fi
    have hm : kOf x ∈ es.toList.map fun e => kOf e.2 := List.mem_map.mpr ⟨es.toList[j], List.getElem_mem hj, (is_iff (g _ (List.getElem_mem hj)).1 _).mp pj⟩
    exact wpAny_pure (wpAny_pure (q s.heap _ _ (Heap.SameBut.refl a s.heap) ⟨o, es, ep, t, ho, hex, hd, g, rfl, nd, hb, hf, hr, hl⟩ (.inl ⟨hm, rfl⟩)))
  | none =>
    dsimp only
    have hm : kOf x ∉ es.toList.map fun e => kOf e.2 := fun z => by
      obtain ⟨e, he, k⟩ := List.mem_map.mp z
      have c := List.findIdx?_eq_none_iff.mp fi e he
      rw [(is_iff (g e he).1 _).mpr k] at c
      cases c
    have gw : ∀ (b : Bool) {s₁ : Shared} {R : Unit → Shared → Prop}, R () s₁ → wpAny (model P w) A (match b with | true => rule "set.scan.the-table-gave-way" | false => pure ()) R E s₁ := fun b s₁ R z => by
      cases b
      · exact wpAny_pure z
      · exact wpAny_rule z
    have p1 := layNew_perm t es ((mixKind P w).hash (kOf x)) x
    have p2 := layNew_fits t es ((mixKind P w).hash (kOf x)) x
    have p3 := layNew_ris t es ((mixKind P w).hash (kOf x)) x hr
    have p4 := layNew_led t es ((mixKind P w).hash (kOf x)) x
    generalize layNew t es ((mixKind P w).hash (kOf x)) x = Z at p1 p2 p3 p4 ⊢
    obtain ⟨fs, u, dum, gv⟩ := Z
    dsimp only at p1 p2 p3 p4 ⊢
    rw [Array.toList_push] at p1
    have pc : fs.toList.Perm (((mixKind P w).hash (kOf x), x) :: es.toList) := p1.trans (List.perm_append_singleton _ _)
    have pk : (fs.toList.map fun e => kOf e.2).Perm (kOf x :: es.toList.map fun e => kOf e.2) := pc.map fun e : Int × Value => kOf e.2
    have gr : ∀ e ∈ fs.toList, Row P w e := fun e he => by
      rcases List.mem_cons.mp (pc.mem_iff.mp he) with rfl | z
      · exact ⟨hx, rfl⟩
      · exact g e z
    have n1 : (fs.toList.map fun e => kOf e.2).Nodup := pk.nodup_iff.mpr (List.nodup_cons.mpr ⟨hm, nd⟩)
    have sz : fs.size < scanBound := by
      have z := pc.length_eq
      rw [Array.length_toList, List.length_cons] at z
      rw [List.length_map] at room
      omega
    have ld : w.params.followText "set-order" = true ∨ u.led = true := by
      rcases hl with z | z
      · exact .inl z
      · exact .inr (p4.trans z)
    have fin : ∀ h' M, Heap.SameBut a s.heap h' → M.Perm (fs.toList.map fun e => kOf e.2) → SetQ P w h' a M → Q true { s with heap := h' } := fun h' M sb pm r => q h' M true sb r (.inr ⟨hm, pm.trans pk⟩)
    refine wpAny_bind (gw _ ?_)
    split
    · refine wpAny_bind ?_
      rw [hashByValue_scannable 8 (plain_scan hx)]
      refine wpAny_pure ?_
      refine lay_rest (fun b s₁ R z => gw b z) ho hex hd gr n1 sz ?_ ?_ ?_ fun h' M sb pm r => ?_
      · split
        · exact p2
        · exact SetTable.fits_plain_off p2
      · split <;> exact p3
      · split <;> exact ld
      · dsimp only
        exact wpAny_pure (fin h' M sb pm r)
    · refine wpAny_bind (wpAny_pure ?_)
      simp only [↓reduceIte]
      refine lay_rest (fun b s₁ R z => gw b z) ho hex hd gr n1 sz p2 p3 ld fun h' M sb pm r => ?_
      dsimp only
      exact wpAny_pure (fin h' M sb pm r)
/-- the loop of set(xs) -/
theorem fill {R : Result → Shared → Prop} {I : Addr} {fp wr : List Addr} {G : Array GenState → Array GenState → Prop} {n : Nat} {V : Nat → Value → Prop} {St : Nat → Shared → Prop} (W : WalksS P w A.in1 I fp wr G n V St) (S : Addr) (hS : S ∉ fp)
    (ks : List L2.Key) (hn : ks.length = n) (hb : n < 1000) (hv : ∀ i v, V i v → Plain v ∧ ks[i]? = some (kOf v)) :
    ∀ (k i : Nat) (s : Shared) (M : List L2.Key), n - i = k → i ≤ n → St i s → SetQ P w s.heap S M → M.length ≤ i → (∀ z, z ∈ M ↔ z ∈ ks.take i) →
      (∀ s' M', Moved (S :: wr) G s s' → SetQ P w s'.heap S M' → (∀ z, z ∈ M' ↔ z ∈ ks) → R (.ok (.ret .none)) s') → codeAny (model P w) A (.builtin "set.update.loop" ⟨[.ref S, .ref I], []⟩) R s := by
  have hw : S ∉ wr := fun z => hS (W.sub _ z)
  have sub : ∀ b ∈ wr, b ∈ S :: wr := fun b z => List.mem_cons_of_mem _ z
  intro k
  induction k with
  | zero =>
    intro i s M hk hi st hM _ hz q
    have e : i = n := by omega
    subst e
    refine codeAny_builtin PyProof.Rows.F.entry_set_update_loop ?_
    rw [Around.under_plainId PyProof.Rows.F.plain_set_update_loop _]
    show wpAny _ A.in1 (pyNext (.ref I) >>= _) _ _ s
    refine wpAny_bind (W.done s _ _ st fun s' mv => ?_)
    show wpAny _ A.in1 (ret Value.none) _ _ s'
    refine wpAny_pure (q s' M (mv.mono sub) (hM.at fun o z => mv.heap S o hw z) fun z => ?_)
    rw [hz z, ← hn, List.take_length]
  | succ k ih =>
    intro i s M hk hi st hM hl hz q
    have lt : i < n := by omega
    refine codeAny_builtin PyProof.Rows.F.entry_set_update_loop ?_
    rw [Around.under_plainId PyProof.Rows.F.plain_set_update_loop _]
    show wpAny _ A.in1 (pyNext (.ref I) >>= _) _ _ s
    refine wpAny_bind (W.item i s _ _ lt st fun v s' hP st' mv => ?_)
    obtain ⟨pl, kv⟩ := hv i v hP
    have hM' : SetQ P w s'.heap S M := hM.at fun o z => mv.heap S o hw z
    show wpAny _ A.in1 (holding [v] (setAdd S v) >>= _) _ _ s'
    refine wpAny_bind (wpAny_holding ?_)
    unfold setAdd
    refine wpAny_holding ?_
    refine wpAny_bind ((mixKind P w).pyHash (plain_is pl) ?_)
    refine add_row (s := { s' with toks := s'.toks + 1 }) pl hM' (by unfold scanBound; omega) fun h' M' b sb r hM2 => ?_
    have tk : ks.take (i + 1) = ks.take i ++ [kOf v] := by
      obtain ⟨hlt, e⟩ := List.getElem?_eq_some_iff.mp kv
      rw [← e]
      exact List.take_succ_eq_append_getElem hlt
    have l2 : M'.length ≤ i + 1 := by
      rcases hM2 with ⟨_, rfl⟩ | ⟨_, pm⟩
      · omega
      · rw [pm.length_eq, List.length_cons]
        omega
    have z2 : ∀ z, z ∈ M' ↔ z ∈ ks.take (i + 1) := fun z => by
      rw [tk, List.mem_append, List.mem_singleton, ← hz z]
      rcases hM2 with ⟨hm, rfl⟩ | ⟨_, pm⟩
      · exact ⟨.inl, fun y => y.elim id fun e => e ▸ hm⟩
      · rw [pm.mem_iff, List.mem_cons]
        exact Or.comm
    refine wpAny_pure ⟨plainId_quiet PyProof.Rows.F.plain_set_update_loop _, ih (i + 1) _ M' (by omega) lt (W.frame _ s' _ _ st' (Nat.le_succ _) fun c hc o z => ?_) r l2 z2 fun s2 M2 mv2 r2 f2 => ?_⟩
    · exact (sb.2 c fun e => hS (e ▸ hc)).trans z
    · refine q s2 M2 (Moved.trans W.gtrans ((mv.mono sub).then_heap (Nat.le_succ _) fun c o hc z => ?_) mv2) r2 f2
      exact (sb.2 c fun e => hc (e ▸ List.mem_cons_self)).trans z
end
end Yk

namespace Yk
open PySem PySem.Spec PyProof.Rows L2
abbrev ob0 (w : World) : Obj := { cls := .type "set", dict := none, data := .set #[] 0 (.fresh 0 0 (!w.params.followText "set-order")) }
section
variable {P : Program} {w : World} {A : Around} {E : Value → Shared → Prop} {s : Shared}

set_option maxHeartbeats 8000000 in
/-- set(x), x a list of ints and texts -/
theorem call_set_list {l : Addr} {items : Array Value} {ks : List L2.Key} {Q : Value → Shared → Prop} (hh : A.handled = none) (hl : s.heap.IsList l items) (hk : ks.length = items.size) (hv : ∀ (i : Nat) (v : Value), items[i]? = some v → Plain v ∧ ks[i]? = some (kOf v)) (few : ks.length < 1000)
    (q : ∀ (h' : Heap) (tk : Nat) (M : List L2.Key), SetQ P w h' s.heap.objs.size M → (∀ z, z ∈ M ↔ z ∈ ks) → (∀ b o, s.heap.get? b = some o → h'.get? b = some o) → Q (.ref s.heap.objs.size) { s with heap := h', toks := tk }) :
    wpAny (model P w) A (call (.type "set") [.ref l]) Q E s := by
  obtain ⟨c, tl, mr⟩ := PySem.F.called_set.mro
  have md := PySem.F.called_set.made
  have sb := PySem.F.called_set.sub
  refine wpAny_call (codeAny_of_tree ?_)
  show wpAny _ _ (callAny (.type "set") _) _ _ _
  refine wpAny_pure ⟨Code.quiet_builtin _ (by decide +kernel), codeAny_builtin PySem.F.entry_type_call ?_⟩
  rw [Around.under_plain (weight_type_call_type "set" [.ref l] []) rfl]
  have t1 := PySem.F.called_set.notType
  have t2 := PySem.F.called_set.canCreate
  have t3 := PySem.F.typeCall_set_1 (.ref l)
  repeat (any_goals (first | assumption | wp_step))
  refine codeAny_mono (code_set_led1 (.ref l) (E := E) (Q₁ := fun ob s₁ => ob = .ref s.heap.objs.size ∧ s₁ = { s with heap := s.heap.push (ob0 w) }) ⟨rfl, rfl⟩) fun r s₁ hr => ?_
  cases r with
  | error e => exact hr
  | ok fl =>
    cases fl with
    | ret ob =>
      obtain ⟨rfl, rfl⟩ := hr
      have gS : (s.heap.push (ob0 w)).get? s.heap.objs.size = some (ob0 w) := Heap.get?_push_size _ rfl
      have ty : Shared.TypeIs { s with heap := s.heap.push (ob0 w) } (.ref s.heap.objs.size) "set" := ⟨_, gS, rfl⟩
      have i1 := PySem.F.called_set.init.lookup
      have i2 := PySem.F.called_set.init.bind (.ref s.heap.objs.size)
      repeat (any_goals (first | assumption | wp_step))
      refine codeAny_mono (codeAny_call_builtin (R := wants (fun r s₂ => r = .none ∧ ∃ h' tk M, s₂ = { s with heap := h', toks := tk } ∧ SetQ P w h' s.heap.objs.size M ∧ (∀ z, z ∈ M ↔ z ∈ ks) ∧ (∀ b o, s.heap.get? b = some o → h'.get? b = some o)) E)
        PySem.F.called_set.init.plain PySem.F.entry_set_init (check_set_init_1 ty ?_)) fun r₂ s₂ hr₂ => ?_
      · obtain ⟨ol, go, cl, nl, da⟩ := hl
        obtain ⟨oc, od, odt, osl⟩ := ol
        simp only at cl da
        subst cl
        subst da
        have g1 : (s.heap.push (ob0 w)).get? l = some { cls := .type "list", dict := od, data := .seq items nl, slots := osl } := Heap.get?_push_of_some _ go
        have u1 := PySem.F.sub_list_set
        have u2 := PySem.F.sub_list_frozenset
        have u3 : (Value.type "list" == Value.type "dict") = false := by decide
        have l1 : (s.heap.push (ob0 w)).IsList l items := ⟨_, g1, rfl, nl, rfl⟩
        unfold Builtin.«set.__init__» noKeywords Builtin.Frozenset.updateFrom
        generalize hPI : pyIter = PI
        wp_walk
        subst hPI
        refine wpAny_pyIter_list l1 ?_
        refine wpAny_bind (wpAny_runValue ?_)
        have lt : l < s.heap.objs.size := Heap.lt_size go
        have h3 : A.in1.in1.in1.handled = none := by simp [hh]
        have z1 : (s.heap.push (ob0 w)).objs.size = s.heap.objs.size + 1 := Heap.size_push ..
        have n1 : l ≠ (s.heap.push (ob0 w)).objs.size := by
          rw [z1]
          exact Nat.ne_of_lt (Nat.lt_succ_of_lt lt)
        have n2 : s.heap.objs.size ∉ [(s.heap.push (ob0 w)).objs.size, l] := by
          rw [z1]
          simp only [List.mem_cons, List.not_mem_nil, or_false, not_or]
          exact ⟨Nat.ne_of_lt (Nat.lt_succ_self _), Nat.ne_of_gt lt⟩
        refine fill ((Walks.list h3 _ l n1 items).toS) s.heap.objs.size n2 ks hk (by omega) hv (items.size - 0) 0 _ [] rfl (Nat.zero_le _) ⟨⟨_, Heap.get?_push_size _ rfl, rfl, rfl⟩, l1.push _⟩ (new_set (led := !w.params.followText "set-order") ?_ (Heap.get?_push_of_some _ gS)) (Nat.le_refl _)
          (fun z => by simp) fun s' M mv r f => ?_
        · cases w.params.followText "set-order"
          · exact .inr rfl
          · exact .inl rfl
        · obtain ⟨h', g2, d', tk', os'⟩ := s'
          have eg : g2 = s.gens := mv.gens
          have ed : d' = s.drawn := mv.drawn
          have eo : os' = s.os := mv.os
          subst eg
          subst ed
          subst eo
          show wpAny _ _ _ _ _ _
          refine wpAny_pure ?_
          show wpAny _ _ (ret Value.none) _ _ _
          refine wpAny_pure ⟨rfl, h', tk', M, rfl, r, f, fun b o e => ?_⟩
          have hb := Heap.lt_size e
          refine mv.heap b o ?_ (Heap.get?_push_of_some _ (Heap.get?_push_of_some _ e))
          rw [z1]
          simp only [List.mem_cons, List.not_mem_nil, or_false, not_or]
          exact ⟨Nat.ne_of_lt hb, Nat.ne_of_lt (Nat.lt_succ_of_lt hb)⟩
      · cases r₂ with
        | error e => exact hr₂
        | ok fl₂ =>
          cases fl₂ with
          | ret r =>
            obtain ⟨rfl, h', tk, M, rfl, r, f, k⟩ := hr₂
            repeat (any_goals (first | assumption | wp_step))
            exact q _ _ M r f k
          | _ => exact hr₂.elim
    | _ => exact hr.elim

set_option maxHeartbeats 8000000 in
/-- set(x), x a tuple of ints and texts -/
theorem call_set_tuple {l : Addr} {items : Array Value} {ks : List L2.Key} {Q : Value → Shared → Prop} (hh : A.handled = none) (hl : s.heap.IsTuple l items) (hk : ks.length = items.size) (hv : ∀ (i : Nat) (v : Value), items[i]? = some v → Plain v ∧ ks[i]? = some (kOf v)) (few : ks.length < 1000)
    (q : ∀ (h' : Heap) (tk : Nat) (M : List L2.Key), SetQ P w h' s.heap.objs.size M → (∀ z, z ∈ M ↔ z ∈ ks) → (∀ b o, s.heap.get? b = some o → h'.get? b = some o) → Q (.ref s.heap.objs.size) { s with heap := h', toks := tk }) :
    wpAny (model P w) A (call (.type "set") [.ref l]) Q E s := by
  obtain ⟨c, tl, mr⟩ := PySem.F.called_set.mro
  have md := PySem.F.called_set.made
  have sb := PySem.F.called_set.sub
  refine wpAny_call (codeAny_of_tree ?_)
  show wpAny _ _ (callAny (.type "set") _) _ _ _
  refine wpAny_pure ⟨Code.quiet_builtin _ (by decide +kernel), codeAny_builtin PySem.F.entry_type_call ?_⟩
  rw [Around.under_plain (weight_type_call_type "set" [.ref l] []) rfl]
  have t1 := PySem.F.called_set.notType
  have t2 := PySem.F.called_set.canCreate
  have t3 := PySem.F.typeCall_set_1 (.ref l)
  repeat (any_goals (first | assumption | wp_step))
  refine codeAny_mono (code_set_led1 (.ref l) (E := E) (Q₁ := fun ob s₁ => ob = .ref s.heap.objs.size ∧ s₁ = { s with heap := s.heap.push (ob0 w) }) ⟨rfl, rfl⟩) fun r s₁ hr => ?_
  cases r with
  | error e => exact hr
  | ok fl =>
    cases fl with
    | ret ob =>
      obtain ⟨rfl, rfl⟩ := hr
      have gS : (s.heap.push (ob0 w)).get? s.heap.objs.size = some (ob0 w) := Heap.get?_push_size _ rfl
      have ty : Shared.TypeIs { s with heap := s.heap.push (ob0 w) } (.ref s.heap.objs.size) "set" := ⟨_, gS, rfl⟩
      have i1 := PySem.F.called_set.init.lookup
      have i2 := PySem.F.called_set.init.bind (.ref s.heap.objs.size)
      repeat (any_goals (first | assumption | wp_step))
      refine codeAny_mono (codeAny_call_builtin (R := wants (fun r s₂ => r = .none ∧ ∃ h' tk M, s₂ = { s with heap := h', toks := tk } ∧ SetQ P w h' s.heap.objs.size M ∧ (∀ z, z ∈ M ↔ z ∈ ks) ∧ (∀ b o, s.heap.get? b = some o → h'.get? b = some o)) E)
        PySem.F.called_set.init.plain PySem.F.entry_set_init (check_set_init_1 ty ?_)) fun r₂ s₂ hr₂ => ?_
      · obtain ⟨ol, go, cl, nl, da⟩ := hl
        obtain ⟨oc, od, odt, osl⟩ := ol
        simp only at cl da
        subst cl
        subst da
        have g1 : (s.heap.push (ob0 w)).get? l = some { cls := .type "tuple", dict := od, data := .seq items nl, slots := osl } := Heap.get?_push_of_some _ go
        have u1 := PySem.F.sub_tuple_set
        have u2 := PySem.F.sub_tuple_frozenset
        have u3 : (Value.type "tuple" == Value.type "dict") = false := by decide
        have l1 : (s.heap.push (ob0 w)).IsTuple l items := ⟨_, g1, rfl, nl, rfl⟩
        unfold Builtin.«set.__init__» noKeywords Builtin.Frozenset.updateFrom
        generalize hPI : pyIter = PI
        wp_walk
        subst hPI
        refine wpAny_pyIter_tuple l1 ?_
        refine wpAny_bind (wpAny_runValue ?_)
        have lt : l < s.heap.objs.size := Heap.lt_size go
        have h3 : A.in1.in1.in1.handled = none := by simp [hh]
        have z1 : (s.heap.push (ob0 w)).objs.size = s.heap.objs.size + 1 := Heap.size_push ..
        have n1 : l ≠ (s.heap.push (ob0 w)).objs.size := by
          rw [z1]
          exact Nat.ne_of_lt (Nat.lt_succ_of_lt lt)
        have n2 : s.heap.objs.size ∉ [(s.heap.push (ob0 w)).objs.size, l] := by
          rw [z1]
          simp only [List.mem_cons, List.not_mem_nil, or_false, not_or]
          exact ⟨Nat.ne_of_lt (Nat.lt_succ_self _), Nat.ne_of_gt lt⟩
        refine fill ((Walks.tuple h3 _ l n1 items).toS) s.heap.objs.size n2 ks hk (by omega) hv (items.size - 0) 0 _ [] rfl (Nat.zero_le _) ⟨⟨_, Heap.get?_push_size _ rfl, rfl, rfl⟩, l1.push _⟩ (new_set (led := !w.params.followText "set-order") ?_ (Heap.get?_push_of_some _ gS)) (Nat.le_refl _)
          (fun z => by simp) fun s' M mv r f => ?_
        · cases w.params.followText "set-order"
          · exact .inr rfl
          · exact .inl rfl
        · obtain ⟨h', g2, d', tk', os'⟩ := s'
          have eg : g2 = s.gens := mv.gens
          have ed : d' = s.drawn := mv.drawn
          have eo : os' = s.os := mv.os
          subst eg
          subst ed
          subst eo
          show wpAny _ _ _ _ _ _
          refine wpAny_pure ?_
          show wpAny _ _ (ret Value.none) _ _ _
          refine wpAny_pure ⟨rfl, h', tk', M, rfl, r, f, fun b o e => ?_⟩
          have hb := Heap.lt_size e
          refine mv.heap b o ?_ (Heap.get?_push_of_some _ (Heap.get?_push_of_some _ e))
          rw [z1]
          simp only [List.mem_cons, List.not_mem_nil, or_false, not_or]
          exact ⟨Nat.ne_of_lt hb, Nat.ne_of_lt (Nat.lt_succ_of_lt hb)⟩
      · cases r₂ with
        | error e => exact hr₂
        | ok fl₂ =>
          cases fl₂ with
          | ret r =>
            obtain ⟨rfl, h', tk, M, rfl, r, f, k⟩ := hr₂
            repeat (any_goals (first | assumption | wp_step))
            exact q _ _ M r f k
          | _ => exact hr₂.elim
    | _ => exact hr.elim

end
/-! ### as rules -/
def SetKO (P : Program) (w : World) (a : Addr) (L : List L2.Key) : HO := .ext fun h => SetQ P w h a L
theorem setKO_new {P : Program} {w : World} {H : Hp} {h : Heap} {a : Addr} {L : List L2.Key} (R : SetQ P w h a L) : ObjOk P w H h a (SetKO P w a L) := ⟨R, R.there, fun h1 h2 p k => SetQ.at p k⟩
section
variable {X : Cx}
theorem setKO_get {pins : List (Addr × Obj)} {σ : L2.St} {H : Hp} {s : Shared} {a : Addr} {L : List L2.Key} (I : Inv X pins σ H s) (ha : H a = some (SetKO X.prog X.w a L)) : SetQ X.prog X.w s.heap a L := (I.hok a _ ha).1
theorem keys_at {ks : List L2.Key} {us : List Value} (r : Vals (ks.map kV) us) : ks.length = us.toArray.size ∧ ∀ (i : Nat) (v : Value), us.toArray[i]? = some v → Plain v ∧ ks[i]? = some (kOf v) := by
  have hl : ks.length = us.length := by
    have z := r.length
    rw [List.length_map] at z
    exact z
  refine ⟨by simpa using hl, fun i v hv => ?_⟩
  have hv' : us[i]? = some v := by simpa using hv
  have hi : i < ks.length := by
    rw [hl]
    exact (List.getElem?_eq_some_iff.mp hv').1
  obtain ⟨u, hu, ru⟩ := r.get (i := i) (x := kV ks[i]) (by rw [List.getElem?_map, List.getElem?_eq_getElem hi] <;> rfl)
  rw [hv'] at hu
  cases hu
  obtain ⟨p, e⟩ := rel_plain ru
  exact ⟨p, by rw [e]; exact List.getElem?_eq_getElem hi⟩
/-- set(xs), a list or a tuple of ints and texts -/
def rSetK (K : PySem.W.Frag) (P : Program) (w : World) : List V → Hp → VK → Prop := fun xs H Q => ∃ (a : Addr) (ks : List L2.Key), xs = [.ref a] ∧ (SqL K H a (ks.map kV) ∨ SqT K H a (ks.map kV)) ∧ ks.length < 1000 ∧
  ∀ (p : Addr) (M : List L2.Key), M.Nodup → (∀ z, z ∈ M ↔ z ∈ ks) → H p = none → Q (.ref p) (upd H p (SetKO P w p M))
theorem SetQ.nd {P : Program} {w : World} {h : Heap} {a : Addr} {L : List L2.Key} (R : SetQ P w h a L) : L.Nodup := let ⟨_, _, _, _, _, _, _, _, _, n, _⟩ := R; n
theorem cr_setK (hc : X.calm = true) : CallR X (.type "set") (rSetK X.K X.prog X.w) := by
  intro pins s σ H xs us Q I r h
  obtain ⟨a, ks, rfl, hs, few, q⟩ := h
  rw [Vals.ref1 r]
  have fin : ∀ (h' : Heap) (tk : Nat) (M : List L2.Key), SetQ X.prog X.w h' s.heap.objs.size M → (∀ z, z ∈ M ↔ z ∈ ks) → (∀ b o, s.heap.get? b = some o → h'.get? b = some o) → EP X pins σ Q (.ref s.heap.objs.size) { s with heap := h', toks := tk } := fun h' tk M R f k =>
    ⟨.ref _, upd H s.heap.objs.size (SetKO X.prog X.w s.heap.objs.size M), I.laid (t' := tk) k (Nat.le_refl _) (setKO_new R), rfl, q _ M R.nd f (I.hok.fresh (Nat.le_refl _))⟩
  rcases hs with hs | hs
  · obtain ⟨its, rv, pl, _⟩ := I.list hs
    obtain ⟨e, v⟩ := keys_at rv
    exact call_set_list (I.ok.hd hc) pl.isList e v few fin
  · obtain ⟨its, rv, pl, _⟩ := I.tuple hs
    obtain ⟨e, v⟩ := keys_at rv
    exact call_set_tuple (I.ok.hd hc) (show s.heap.IsTuple a its.toArray from pl) e v few fin
end
end Yk

namespace Yk
open PySem PySem.Spec PyProof.Rows L2
section
variable {P : Program} {w : World} {A : Around} {E : Value → Shared → Prop} {s : Shared} {a : Addr} {L : List L2.Key}
/-- what sorted makes of a set: the list of its members, in some order, put in order by list.sort -/
theorem sorted_of {Q : Value → Shared → Prop} (R : SetQ P w s.heap a L) (hh : A.handled = none)
    (q : ∀ (s1 : Shared) (vs : List Value), (∀ b o, s.heap.get? b = some o → s1.heap.get? b = some o) → s.heap.objs.size ≤ s1.heap.objs.size → s1.gens = s.gens → s1.os = s.os → (∀ v ∈ vs, Plain v) → (vs.map kOf).Perm L →
      wpAny (model P w) A.in1 (call (.builtin "list.sort") [.ref s1.heap.objs.size]) (fun _ s2 => Q (.ref s1.heap.objs.size) s2) E { s1 with heap := s1.heap.push (seqObj "list" vs.toArray 0) }) :
    wpAny (model P w) A (call (.builtin "sorted") [.ref a]) Q E s := by
  obtain ⟨o, es, ep, t, ho, hex, hd, g, rfl, nd, hb, hf, hr, hl⟩ := R
  refine Calls.call_function_entry kind_sorted plain_sorted entry_sorted (args_sorted1 _) ?_
  unfold Builtin.«sorted»
  refine wpAny_bind (m := checkCount "sorted" 1 1 _) (wpAny_pure ?_)
  refine wpAny_bind (collect_set (A := A.in1) hh ⟨o, ho, hex.1, hd⟩ hf hb hr hl fun s1 vs k1 hz g1 o1 pm => ?_)
  have sz : vs.length = es.size := by
    have z := pm.length_eq
    rw [List.length_map, Array.length_toList] at z
    exact z
  have pl : ∀ v ∈ vs, Plain v := fun v hv => by
    obtain ⟨e, he, rfl⟩ := List.mem_map.mp (pm.mem_iff.mp hv)
    exact (g e he).1
  have pk : (vs.map kOf).Perm (es.toList.map fun e => kOf e.2) := by
    have z := pm.map kOf
    rw [List.map_map] at z
    exact z
  refine wpAny_bind (wpAny_newList ?_ (by rw [sz]; exact fits_of_scanBound hb))
  refine wpAny_bind (wpAny_holding (wpAny_mono (q s1 vs k1 hz g1 o1 pl pk) (fun r s2 z => ?_) fun _ _ z => z))
  exact wpAny_pure ⟨_, rfl, z⟩
end
section
variable {X : Cx}
theorem ints_keys : ∀ {vs : List Value} {ns : List Int}, (∀ v ∈ vs, Plain v) → vs.map kOf = ns.map Sum.inl → IntsAre vs ns
  | [], [], _, _ => .nil
  | v :: vs, n :: ns, p, e => by
    injection e with e1 e2
    rcases p v List.mem_cons_self with ⟨i, t, rfl⟩ | ⟨x, t, rfl⟩
    · have : i = n := Sum.inl.inj e1
      subst this
      exact .cons _ _ (ints_keys (fun u hu => p u (List.mem_cons_of_mem _ hu)) e2)
    · cases e1
theorem strs_keys : ∀ {vs : List Value} {ns : List Str}, (∀ v ∈ vs, Plain v) → vs.map kOf = ns.map Sum.inr → StrsAre vs ns
  | [], [], _, _ => .nil
  | v :: vs, n :: ns, p, e => by
    injection e with e1 e2
    rcases p v List.mem_cons_self with ⟨i, t, rfl⟩ | ⟨x, t, rfl⟩
    · cases e1
    · have : x = n := Sum.inr.inj e1
      subst this
      exact .cons _ _ (strs_keys (fun u hu => p u (List.mem_cons_of_mem _ hu)) e2)
theorem perm_ints {l : List L2.Key} {ms : List Int} (h : l.Perm (ms.map Sum.inl)) : ∃ ns : List Int, l = ns.map Sum.inl ∧ ns.Perm ms := by
  have all : ∀ k ∈ l, ∃ n : Int, k = Sum.inl n := fun k hk => by
    obtain ⟨n, _, e⟩ := List.mem_map.mp (h.mem_iff.mp hk)
    exact ⟨n, e.symm⟩
  have e : l = (l.map fun k => match k with | Sum.inl n => n | Sum.inr _ => (0 : Int)).map Sum.inl := by
    rw [List.map_map]
    conv => lhs; rw [← List.map_id l]
    refine List.map_congr_left fun k hk => ?_
    obtain ⟨n, rfl⟩ := all k hk
    rfl
  refine ⟨_, e, ?_⟩
  have z := h.map fun k : L2.Key => match k with | Sum.inl n => n | Sum.inr _ => (0 : Int)
  rw [List.map_map] at z
  have e2 : ms.map ((fun k : L2.Key => match k with | Sum.inl n => n | Sum.inr _ => (0 : Int)) ∘ Sum.inl) = ms := by
    conv => rhs; rw [← List.map_id ms]
    exact List.map_congr_left fun _ _ => rfl
  rw [e2] at z
  exact z
theorem perm_strs {l : List L2.Key} {ms : List Str} (h : l.Perm (ms.map Sum.inr)) : ∃ ns : List Str, l = ns.map Sum.inr ∧ ns.Perm ms := by
  have all : ∀ k ∈ l, ∃ n : Str, k = Sum.inr n := fun k hk => by
    obtain ⟨n, _, e⟩ := List.mem_map.mp (h.mem_iff.mp hk)
    exact ⟨n, e.symm⟩
  have e : l = (l.map fun k => match k with | Sum.inl _ => Str.empty | Sum.inr n => n).map Sum.inr := by
    rw [List.map_map]
    conv => lhs; rw [← List.map_id l]
    refine List.map_congr_left fun k hk => ?_
    obtain ⟨n, rfl⟩ := all k hk
    rfl
  refine ⟨_, e, ?_⟩
  have z := h.map fun k : L2.Key => match k with | Sum.inl _ => Str.empty | Sum.inr n => n
  rw [List.map_map] at z
  have e2 : ms.map ((fun k : L2.Key => match k with | Sum.inl _ => Str.empty | Sum.inr n => n) ∘ Sum.inr) = ms := by
    conv => rhs; rw [← List.map_id ms]
    exact List.map_congr_left fun _ _ => rfl
  rw [e2] at z
  exact z
/-- sorted of such a set, fewer than 64 members -/
def rSortedK (P : Program) (w : World) : List V → Hp → VK → Prop := fun vs H Q => ∃ (a : Addr) (L : List L2.Key), vs = [.ref a] ∧ H a = some (SetKO P w a L) ∧ L.length < 64 ∧
  ((∃ ms : List Int, L = ms.map Sum.inl ∧ ∀ (ns : List Int) (p : Addr), ns.Perm ms → ns.Pairwise (· ≤ ·) → H p = none → Q (.ref p) (upd H p (.lst (ns.map V.int)))) ∨
   ∃ ms : List Str, L = ms.map Sum.inr ∧ ∀ (ns : List Str) (p : Addr), ns.Perm ms → sortedS ns = true → H p = none → Q (.ref p) (upd H p (.lst (ns.map V.str))))
theorem cr_sortedK (hc : X.calm = true) : CallR X (.builtin "sorted") (rSortedK X.prog X.w) := by
  intro pins s σ H xs us Q I r h
  obtain ⟨a, L, rfl, ha, h64, q⟩ := h
  rw [Vals.ref1 r]
  refine sorted_of (setKO_get I ha) (I.ok.hd hc) fun s1 vs k1 hz g1 o1 pl pk => ?_
  have hv : vs.length < 64 := by
    have z := pk.length_eq
    rw [List.length_map] at z
    omega
  have gL : (s1.heap.push (seqObj "list" vs.toArray 0)).get? s1.heap.objs.size = some (seqObj "list" vs.toArray 0) := Heap.get?_push_size _ rfl
  have fin : ∀ (ys : List V) (out : Array Value), Vals ys out.toList → ys.length ≤ sizeLine → Q (.ref s1.heap.objs.size) (upd H s1.heap.objs.size (.lst ys)) →
      EP X pins σ Q (.ref s1.heap.objs.size) { s1 with heap := sortedHeap (s1.heap.push (seqObj "list" vs.toArray 0)) s1.heap.objs.size vs out } := fun ys out rv hy z => by
    obtain ⟨c, hcc⟩ := sortedHeap_at (vs := vs) (out := out) gL
    have k : ∀ b u, s.heap.get? b = some u → (sortedHeap (s1.heap.push (seqObj "list" vs.toArray 0)) s1.heap.objs.size vs out).get? b = some u := fun b u e => by
      have e1 := k1 b u e
      have lt := Heap.lt_size e1
      rw [sortedHeap_old (Nat.ne_of_lt lt) (by rw [size_push']; exact Nat.lt_succ_of_lt lt)]
      exact Heap.get?_push_of_some _ e1
    have hn := I.hok.fresh hz
    have J : Inv X pins σ (upd H s1.heap.objs.size (.lst ys)) { s with heap := sortedHeap (s1.heap.push (seqObj "list" vs.toArray 0)) s1.heap.objs.size vs out, gens := s1.gens, drawn := s1.drawn, toks := s1.toks } :=
      I.call (ch := []) (Un.laid k hz hn) (I.hok.laid k hz ⟨hy, out.toList, c, rv, hcc⟩) (by rw [g1]; exact I.bare) (fun _ z => nomatch z)
    have e : { s1 with heap := sortedHeap (s1.heap.push (seqObj "list" vs.toArray 0)) s1.heap.objs.size vs out } = { s with heap := sortedHeap (s1.heap.push (seqObj "list" vs.toArray 0)) s1.heap.objs.size vs out, gens := s1.gens, drawn := s1.drawn, toks := s1.toks } := by
      cases s1
      cases s
      cases o1
      rfl
    rw [e]
    exact ⟨.ref _, _, J, rfl, z⟩
  rcases q with ⟨ms, rfl, q⟩ | ⟨ms, rfl, q⟩
  · obtain ⟨ns, en, pn⟩ := perm_ints pk
    have iv := ints_keys pl en
    refine wpAny_call_entry slot_list_sort ⟨_, gL, rfl⟩ entry_list_sort (list_sort_tree gL iv hv fun out ns' a1 a2 a3 => ⟨_, rfl, ?_⟩) (args_list_sort _)
    refine fin (ns'.map V.int) out (vals_of_ints a1) ?_ (q ns' _ (a2.trans pn) a3 (I.hok.fresh hz))
    rw [List.length_map, (a2.trans pn).length_eq]
    rw [List.length_map] at h64
    exact Nat.le_trans (Nat.le_of_lt h64) (by decide)
  · obtain ⟨ns, en, pn⟩ := perm_strs pk
    have iv := strs_keys pl en
    refine wpAny_call_entry slot_list_sort ⟨_, gL, rfl⟩ entry_list_sort (list_sort_treeK strKind_oneLt gL iv.keysOf (fun v₁ v₂ rest e => keyKind_strs (by rw [← e]; exact iv)) hv fun st' hp hs => ?_) (args_list_sort _)
    obtain ⟨ys, b1, b2, b3⟩ := sorted_out_str iv hp hs
    refine ⟨_, rfl, ?_⟩
    refine fin (ys.map V.str) _ (vals_of_strs b1) ?_ (q ys _ (b2.trans pn) b3 (I.hok.fresh hz))
    rw [List.length_map, (b2.trans pn).length_eq]
    rw [List.length_map] at h64
    exact Nat.le_trans (Nat.le_of_lt h64) (by decide)
end
end Yk

namespace Dk
open PySem PySem.Spec PyProof.Rows L2 PySem.W
/-! ### enumerate(tuple) -/
theorem enum_new {v : Value} {o : Obj} {H : Heap → Prop} (B : Begins v o H) :
    Meets (Builtin.«enumerate.__new__» ⟨[.type "enumerate", v], []⟩) (fun _ R s => H s.heap ∧ R (.ok (.ret (.ref (s.heap.push o).objs.size))) { s with heap := (s.heap.push o).push { cls := .type "enumerate", data := .fields #[.none, .bool false, .ref s.heap.objs.size, rawInt 0, .none, .none] } }) :=
  .of_wp fun prog w A R s h => by
    obtain ⟨hp, g, d, tk, os⟩ := s
    obtain ⟨hH, h⟩ := h
    have sub := sub_enumerate
    have begun : ∀ {A' : Around} {E Q : Value → Shared → Prop}, Q (.ref hp.objs.size) ⟨hp.push o, g, d, tk, os⟩ → wpAny (model prog w) A' (pyIter v) Q E ⟨hp, g, d, tk, os⟩ := fun q => B.iter prog w _ _ ⟨hp, g, d, tk, os⟩ _ hH q
    wp_walk using begun
    refine wpAny_stack_any fun st => wpAny_pure ?_
    split
    · rename_i c _ _ _ _ _
      cases (c == Value.type "enumerate") <;> (wp_walk using begun; exact ⟨_, rfl, h⟩)
    · wp_walk using begun
      exact ⟨_, rfl, h⟩
section
variable {prog : Program} {w : World} {A : Around} {E : Value → Shared → Prop} {s : Shared}
theorem call_enumT {t : Addr} {items : Array Value} {Q : Value → Shared → Prop} (hT : s.heap.IsTuple t items)
    (q : ∀ h', IsEnum h' (s.heap.objs.size + 1) s.heap.objs.size 0 .none → h'.IsTupleIter s.heap.objs.size t 0 → (∀ b o, s.heap.get? b = some o → h'.get? b = some o) → Q (.ref (s.heap.objs.size + 1)) { s with heap := h' }) :
    wpAny (model prog w) A (call (.type "enumerate") [.ref t]) Q E s := by
  refine callType_new F.called_enumerate (by decide) (F.typeCall_enumerate_1 _) (F.newCall_enumerate_1 _) (fun obj => F.args_object_init_2 obj _) F.entry_enumerate_new (enum_new (begins_tuple t items)) ⟨hT, ?_⟩
  have one : (s.heap.push { cls := .type "tuple_iterator", data := .fields #[.ref t, .int 0 0] }).objs.size = s.heap.objs.size + 1 := Heap.size_push ..
  show _ ∧ _
  have en := Heap.get?_push_size (s.heap.push { cls := .type "tuple_iterator", data := .fields #[.ref t, .int 0 0] }) (o := { cls := .type "enumerate", data := .fields #[.none, .bool false, .ref s.heap.objs.size, rawInt 0, .none, .none] }) rfl
  rw [one] at en ⊢
  exact ⟨⟨_, en, rfl⟩, q _ en ⟨_, Heap.get?_push_of_some _ (Heap.get?_push_size _ rfl), rfl, rfl⟩ fun b o e => Heap.get?_push_of_some _ (Heap.get?_push_of_some _ e)⟩
end
/-- the tuple at a, each item in a new pair with its place -/
def IteT (K : PySem.W.Frag) (a : Addr) : It :=
  ⟨fun i H => ∃ (xs : List V) (x : V), SqT K H a xs ∧ xs[i]? = some x, fun i H v H' => ∃ T x, v = .ref T ∧ H T = none ∧ H' = upd H T (.tup [.int (i : Nat), x]) ∧ ∀ xs, SqT K H a xs → xs[i]? = some x, fun i H => ∃ xs : List V, SqT K H a xs ∧ xs.length = i⟩
theorem two_of {b e it : Addr} (h : b ∈ [e, it]) : b = e ∨ b = it := by simpa using h
theorem turn_enumT {P : Program} {w : World} {K : PySem.W.Frag} {elts : List Expr} {kk : Nat} {tpos : Pos} (a e it : Addr) :
    Turn P w K (.Tuple elts kk tpos) (IteT K a) [e, it] e (fun i h => (∃ old, IsEnum h e it ((i : Nat) : Int) old) ∧ h.IsTupleIter it a i ∧ e ≠ it ∧ a ≠ it ∧ e ≠ a) where
  mem := List.mem_cons_self
  obj := by
    rintro i h ⟨⟨old, he⟩, ⟨o, ho, hc, hd⟩, _⟩ b hb
    rcases two_of hb with rfl | rfl
    · exact ⟨_, he, fun v q => nomatch q⟩
    · exact ⟨o, ho, fun v q => by rw [hd] at q; cases q⟩
  keep := by
    rintro i h h' ⟨⟨old, he⟩, hi, r⟩ k
    exact ⟨⟨old, k e List.mem_cons_self _ he⟩, hi.at fun o q => k it (List.mem_cons_of_mem _ List.mem_cons_self) o q, r⟩
  item := by
    intro X hP hw hK hc i pins s σ H E I hf st hg
    subst hP hw hK
    obtain ⟨⟨old, he⟩, hit, hne, hai, hea⟩ := st
    obtain ⟨xs, x, hq, hx⟩ := hg
    obtain ⟨its, rv, p, hz⟩ := I.tuple hq
    obtain ⟨u, hu, ru⟩ := rv.get hx
    have under : ∀ b ∈ [e, it], b < s.heap.objs.size := fun b hb => by
      rcases two_of hb with rfl | rfl
      · exact Heap.lt_size he
      · obtain ⟨_, q, _⟩ := hit
        exact Heap.lt_size q
    have hlt : i < its.toArray.size := by
      have := (List.getElem?_eq_some_iff.mp hu).1
      simpa using this
    have hef : e ∉ [it, a] := fun z => (two_of z).elim hne hea
    have D := Draws.tuple (prog := X.prog) (w := X.w) (A := X.A.in1) (I.ok.hd hc) it a hai its.toArray
    refine wpAny_pyNext_enum_itemD D he ⟨hit, p⟩ hlt hne hef fun y h' tk hy out st' hT hsz hk => ?_
    have hyu : y = u := by
      have e1 : its.toArray[i]? = some u := by simpa using hu
      exact Option.some.inj (hy.symm.trans e1)
    subst hyu
    refine ⟨_, rfl, wpAny_letOwnedTupleGo_enum (s := { s with heap := h', toks := tk + 1 }) out fun h2 he2 sb => ?_⟩
    have hT2 : h2.get? s.heap.objs.size = some { cls := .type "tuple", data := .seq #[.int i tk, y] } := (sb.2 _ (Nat.ne_of_gt (under e List.mem_cons_self))).trans hT
    have I1 : Inv X pins σ (upd H s.heap.objs.size (.tup [.int (i : Nat), x])) { s with heap := h2, toks := tk + 1 } :=
      I.turnedNew (ch := [e, it]) (fun b ob hb q => (sb.2 b (fun z => hb (by simp [z]))).trans (hk b ob (fun z => hb (by simp [z])) (fun z => hb (by simp [z])) q)) hf (Nat.le_refl _)
        ⟨by show 2 ≤ sizeLine; decide, [.int i tk, y], .cons ⟨_, rfl⟩ (.cons ru .nil), ⟨_, hT2, rfl, _, rfl⟩⟩
    refine ⟨.ref s.heap.objs.size, _, I1, rfl, ⟨_, x, rfl, I.hok.fresh (Nat.le_refl _), rfl, fun ys hy => by rw [I.tuple_inj hy hq]; exact hx⟩, ⟨⟨y, ?_⟩, st'.1.at fun o q => (sb.2 it (Ne.symm hne)).trans q, hne, hai, hea⟩, fun b hb => ?_⟩
    · rw [show ((i + 1 : Nat) : Int) = (i : Int) + 1 by omega]
      exact he2
    · rw [upd_ne (Nat.ne_of_lt (under b hb))]
      exact (hf b hb).1
  done := by
    intro X hP hw hK hc i pins s σ H E I hf st hg
    subst hP hw hK
    obtain ⟨⟨old, he⟩, hit, hne, hai, hea⟩ := st
    obtain ⟨xs, hq, hx⟩ := hg
    obtain ⟨its, rv, p, hz⟩ := I.tuple hq
    obtain ⟨f0, f1, f2, f3, f4, f5⟩ := hf it (List.mem_cons_of_mem _ List.mem_cons_self)
    have len : i = its.toArray.size := by
      rw [← hx, rv.length]
      simp
    have D := Draws.tuple (prog := X.prog) (w := X.w) (A := X.A.in1) (I.ok.hd hc) it a hai its.toArray
    have st2 : s.heap.IsTupleIter it a its.toArray.size ∧ s.heap.IsTuple a its.toArray := ⟨len ▸ hit, p⟩
    exact wpAny_pyNext_enum_endD D he st2 fun h' eb => ⟨rfl, I.turned (t' := s.toks) (fun b o hb q => eb b o hb q) f0 f1 f3 f4 f5⟩
  self := fun A i s Q E st h => let ⟨⟨_, he⟩, _⟩ := st; wpAny_pyIter_enum he h
/-- enumerate(e), e a tuple -/
def iEnumT (K : PySem.W.Frag) (ta : TA) : TI := fun σ H R => ta σ H fun vs H1 => ∃ a xs, vs = [.ref a] ∧ SqT K H1 a xs ∧ R (IteT K a) H1
theorem pi_enumT {X : Cx} {e : Expr} {ta : TA} {p pos tpos : Pos} {elts : List Expr} {kk : Nat} (hg : Gl X "enumerate") (hm : X.mg "enumerate" = none) (ha : PA X [e] ta) (hs : starEach [e] X.env = [(false, eval e X.env)] := by rfl) :
    PI X (.Tuple elts kk tpos) (.Call (.Name "enumerate" p) [e] [] pos) (iEnumT X.K ta) := by
  constructor
  intro pins s σ H R I h
  refine Call_ (ld_blt I hg hm boot_enumerate (PyProof.Rows.callWith_type1 (thn (ha.run pos pins s σ H _ I h) fun us s1 hh => ?_) hs rfl))
  obtain ⟨vs, H1, I1, r1, a, xs, rfl, hq, q⟩ := hh
  rw [Vals.ref1 r1]
  obtain ⟨its, rv, p', hz⟩ := I1.tuple hq
  have old : a < s1.heap.objs.size := by
    obtain ⟨o, ho, _⟩ := id p'
    exact Heap.lt_size ho
  refine call_enumT (show s1.heap.IsTuple a its.toArray from p') fun h' he hit hk => wpAny_pyIter_enum he ?_
  refine ⟨_, [s1.heap.objs.size + 1, s1.heap.objs.size], _, _, H1, rfl, I1.kept (t' := s1.toks) hk, turn_enumT a _ s1.heap.objs.size, ⟨⟨.none, he⟩, hit, Nat.succ_ne_self _, Nat.ne_of_lt old, Nat.ne_of_gt (Nat.lt_succ_of_lt old)⟩, fun b hb => ?_, q⟩
  have hle : s1.heap.objs.size ≤ b := by
    rcases two_of hb with rfl | rfl
    · exact Nat.le_succ _
    · exact Nat.le_refl _
  exact I1.fpOk hle (I1.hok.fresh hle)
theorem walk_enumT {K : PySem.W.Frag} {a : Addr} {xs : List V} : Walk (IteT K a) xs.length (fun H => SqT K H a xs) (YPair (fun i => some (.int (i : Nat))) (fun i => xs[i]?)) := by
  refine ⟨fun i _ hi q => ⟨xs, xs[i], q, by simp [hi]⟩, fun _ q => ⟨xs, q, rfl⟩, fun i H v H' _ q y => ?_⟩
  obtain ⟨T, x, h1, h2, h3, h4⟩ := y
  exact ⟨T, .int (i : Nat), x, h1, h2, h3, rfl, h4 xs q⟩
end Dk

namespace Dk
open PySem PySem.Spec PyProof.Rows L2
/-! ### sorted(rows): a list of tuples of ints and texts, alike in their kinds -/
def cv : L2.Key → Int ⊕ List Nat
  | .inl i => .inl i
  | .inr x => .inr x.cps.toList
/-- shape tells which places hold texts -/
def Shp (shape : Nat → Bool) : Nat → List L2.Key → Prop
  | _, [] => True
  | i, k :: r => (shape i = k.isRight) ∧ Shp shape (i + 1) r
theorem items_of {shape : Nat → Bool} : ∀ {i : Nat} {ks : List L2.Key} {us : List Value}, Shp shape i ks → Vals (ks.map kV) us → PyProof.Rows.tupItems shape i us = some (ks.map cv)
  | i, [], us, _, r => by
    cases r
    rfl
  | i, .inl n :: ks, us, h, r => by
    cases r with
    | cons r1 r2 =>
      obtain ⟨t, rfl⟩ := r1
      have h1 : shape i = false := h.1
      have ih := items_of h.2 r2
      show (if shape i = true then none else (PyProof.Rows.tupItems shape (i + 1) _).map (Sum.inl n :: ·)) = _
      rw [h1, if_neg Bool.false_ne_true, ih]
      rfl
  | i, .inr x :: ks, us, h, r => by
    cases r with
    | cons r1 r2 =>
      obtain ⟨t, rfl⟩ := r1
      have h1 : shape i = true := h.1
      have ih := items_of h.2 r2
      show (if shape i = true then (PyProof.Rows.tupItems shape (i + 1) _).map (Sum.inr x.cps.toList :: ·) else none) = _
      rw [h1, if_pos rfl, ih]
      rfl
def RowOf (K : PySem.W.Frag) (H : Hp) (shape : Nat → Bool) (key : V → List L2.Key) (x : V) : Prop := ∃ t, x = .ref t ∧ SqT K H t ((key x).map kV) ∧ key x ≠ [] ∧ Shp shape 0 (key x)
def rSortR (K : PySem.W.Frag) : List V → Hp → VK → Prop := fun vs H Q => ∃ (a : Addr) (xs : List V) (shape : Nat → Bool) (key : V → List L2.Key), vs = [V.ref a] ∧ SqL K H a xs ∧ (∀ x ∈ xs, RowOf K H shape key x) ∧
  ∀ ys p, ys.Perm xs → ys.Pairwise (fun x y => PyProof.Rows.lexLt PyProof.Rows.itemOrd ((key y).map cv) ((key x).map cv) = false) → H p = none → Q (.ref p) (upd H p (.lst ys))
theorem zip_same : ∀ l : List Value, l.zip l = l.map fun v => (v, v)
  | [] => rfl
  | v :: l => congrArg ((v, v) :: ·) (zip_same l)
theorem tups_all {h : Heap} {shape : Nat → Bool} : ∀ {vs : List Value}, (∀ v ∈ vs, ∃ f, PyProof.Rows.TupOf h shape v f) → ∃ fs, PyProof.Rows.TupsOf h shape vs fs
  | [], _ => ⟨[], .nil⟩
  | v :: vs, k => by
    obtain ⟨f, hf⟩ := k v List.mem_cons_self
    obtain ⟨fs, hfs⟩ := tups_all fun u hu => k u (List.mem_cons_of_mem _ hu)
    exact ⟨f :: fs, .cons hf hfs⟩
section
variable {X : Cx}
theorem cr_sortR : CallR X (.builtin "sorted") (rSortR X.K) := by
  intro pins s σ H vs us Q I r h
  obtain ⟨a, xs, shape, key, rfl, hs, hx, q⟩ := h
  obtain ⟨its, rv, hl, hz⟩ := I.list hs
  rw [Vals.ref1 r]
  obtain ⟨e1, e2⟩ := refs_back rv fun x m => by
    obtain ⟨t, e, _⟩ := hx x m
    exact ⟨t, e⟩
  have row : ∀ v ∈ its, ∃ t, v = Value.ref t ∧ PyProof.Rows.G.tupKeyC s.heap shape v = some ((key (.ref t)).map cv) ∧ ∃ f, PyProof.Rows.TupOf s.heap shape v f := fun v hv => by
    obtain ⟨t, rfl⟩ := e2 v hv
    have hm : V.ref t ∈ xs := by
      rw [e1]
      exact List.mem_map.mpr ⟨_, hv, rfl⟩
    obtain ⟨t', e, ht, hne, hsh⟩ := hx _ hm
    cases e
    obtain ⟨us, ru, ⟨o, ho, hc, n, hd⟩, _⟩ := I.tuple ht
    refine ⟨t, rfl, PyProof.Rows.G.tupKeyC_of ho hc hd (items_of hsh ru), ?_⟩
    cases ek : key (.ref t) with
    | nil => exact absurd ek hne
    | cons k r =>
      rw [ek] at ru hsh
      cases ru with
      | @cons _ u _ us2 r1 r2 =>
        refine ⟨u, t, o, _, n, rfl, ho, hc, hd, rfl, fun z => ?_, fun z => ?_⟩
        · cases k with
          | inl i =>
            obtain ⟨w, e⟩ := r1
            exact ⟨i, w, e⟩
          | inr y =>
            have := hsh.1
            rw [z] at this
            cases this
        · cases k with
          | inl i =>
            have := hsh.1
            rw [z] at this
            cases this
          | inr y =>
            obtain ⟨w, e⟩ := r1
            exact ⟨y, w, e⟩
  have all : ∃ fs, PyProof.Rows.TupsOf s.heap shape its fs := tups_all fun v hv => by
    obtain ⟨_, _, _, f⟩ := row v hv
    exact f
  obtain ⟨fs, ht⟩ := all
  have hL : its.length ≤ sizeLine := by
    rw [← rv.length]
    exact hz
  refine PyProof.Rows.G.sorted_tups hl.isList ht (fun v hv => by obtain ⟨_, _, k, _⟩ := row v hv; exact ⟨_, k⟩) hL fun st' hp hs _ => ?_
  have pl := Array.perm_iff_toList_perm.mp hp
  rw [PyProof.Rows.pairsOf_toList, zip_same] at pl
  generalize harr : PyProof.Rows.arrOf st' = arr at hp hs pl ⊢
  have each : ∀ p ∈ arr.toList, p.1 = p.2 ∧ p.2 ∈ its := fun p m => by
    obtain ⟨v, hv, e⟩ := List.mem_map.mp (pl.mem_iff.mp m)
    subst e
    exact ⟨rfl, hv⟩
  have out : ((arr.map (·.2)).toList).Perm its := by
    have z := pl.map (·.2)
    rw [List.map_map] at z
    rw [Array.toList_map]
    have e : its.map ((fun p : PyProof.Rows.Keyed => p.2) ∘ fun v => (v, v)) = its := by
      conv => rhs; rw [← List.map_id its]
      exact List.map_congr_left fun _ _ => rfl
    exact e ▸ z
  have refs : ∀ u ∈ (arr.map (·.2)).toList, ∃ a, u = Value.ref a := fun u hu => e2 u (out.mem_iff.mp hu)
  obtain ⟨ep, he'⟩ := PyProof.Rows.sortedAll_at s.heap its (arr.map (·.2))
  have perm : (((arr.map (·.2)).toList).map backV).Perm xs := by
    rw [e1]
    exact out.map backV
  refine ⟨.ref _, upd H (s.heap.objs.size + 1) (.lst (((arr.map (·.2)).toList).map backV)), I.laid (t' := s.toks) (fun _ _ => PyProof.Rows.sortedAll_old) (Nat.le_succ _) ⟨?_, (arr.map (·.2)).toList, ep, vals_back refs, he'⟩, rfl, q _ _ perm ?_ (I.hok.fresh (Nat.le_succ _))⟩
  · rw [perm.length_eq]
    exact hz
  rw [List.pairwise_iff_getElem]
  intro i j hi hj hij
  have sz : arr.size = its.length := by
    have z := pl.length_eq
    rw [List.length_map, Array.length_toList] at z
    exact z
  rw [List.length_map, Array.length_toList, Array.size_map] at hi hj
  have kk : ∀ k (hk : k < arr.size), PyProof.Rows.KK (PyProof.Rows.G.tupKindC s.heap shape) arr k = (key (backV (arr[k]).2)).map cv := fun k hk => by
    obtain ⟨f1, f2⟩ := each arr[k] (by simp)
    obtain ⟨t, et, kt, _⟩ := row _ f2
    unfold PyProof.Rows.KK
    rw [Array.getElem?_eq_getElem hk]
    show (PyProof.Rows.G.tupKeyC s.heap shape (arr[k]).1).getD [] = _
    rw [f1, et, ← et]
    rw [et] at kt ⊢
    rw [kt]
    rfl
  have ord := hs i j (Nat.le_of_lt hij) (by rw [PyProof.Rows.pairsOf_size]; omega)
  rw [kk i hi, kk j hj] at ord
  simp only [List.getElem_map, Array.getElem_toList, Array.getElem_map]
  exact ord
end
end Dk

namespace Kx
open PySem PySem.Spec PyProof.Rows L2
def topS (i : Nat) : Stmt := PySem.Challenge.pw_countedonce_k11_whole_refused_rows.main.body.getD i (.Pass ⟨0, 0, 0, 0⟩)
abbrev sCell : Stmt := topS 62
abbrev sDraw : Stmt := topS 63
abbrev sNumb : Stmt := topS 64
abbrev sNext : Stmt := topS 65
abbrev sPick : Stmt := topS 66
section
variable {P : Program} {w : World} {K : PySem.W.Frag} {mg : Str → Option Value} {base : Heap}
/-- a def of the top that keeps a promise, and may be called by its name -/
structure Ready (P : Program) (w : World) (K : PySem.W.Frag) (mg : Str → Option Value) (base : Heap) (k : Nat) (x : Str) (ps : List Str) (sp : Sp) : Prop where
  ex : ∃ f fd, FnOk P w K mg base CX0 k f fd ps sp ∧ Binds K fd ps [] ∧ mg x = some (.ref f) ∧ PySem.W.keepIn K (.ref f) = true
end
theorem pe_fn {X : Cx} {k : Nat} {x : Str} {ps : List Str} {sp : Sp} {p pos : Pos} {e : Expr} {es : List Expr} {t : TA} (G : Ready X.prog X.w X.K X.mg X.base k x ps sp) (hr : Room k X.A) (ha : PA X (e :: es) t) (hg : Gl X x := by rfl)
    (hdb : (x == ("__debug__" : Str)) = false := by decide) (he : starEach (e :: es) X.env = (false, eval e X.env) :: starEach es X.env := by rfl) (hpl : (backTo pos (starEach es X.env)).any (·.1) = false := by rfl) :
    PE X (.Call (.Name x p) (e :: es) [] pos) (tCall sp [] E0 t) := by
  obtain ⟨f, fd, h, hb, hm, hk⟩ := G.ex
  exact pe_call h hr hg hm hk hb .nil pass0 ha hdb he hpl
/-- all that was tracked is as it was, but what stands at d -/
def But (d : Addr) (H H' : Hp) : Prop := ∀ b o, b ≠ d → H b = some o → H' b = some o
theorem But.refl (d : Addr) (H : Hp) : But d H H := fun _ _ _ h => h
theorem But.trans {d : Addr} {H H1 H2 : Hp} (a : But d H H1) (b : But d H1 H2) : But d H H2 := fun c o n h => b c o n (a c o n h)
theorem same_but {d : Addr} {H H' : Hp} (a : Same H H') : But d H H' := fun c o _ h => a c o h
theorem same_upd {H : Hp} {p : Addr} {o : HO} (h : H p = none) : Same H (upd H p o) := fun b x e => by
  rw [upd_ne (ne_of_none e h)]
  exact e
section
variable {P : Program} {w : World} {K : PySem.W.Frag} {mg : Str → Option Value} {base : Heap}
/-! ### the law's draws -/
def spCell (K : PySem.W.Frag) : Sp := fun vs H Q _ => ∃ (a : Addr) (ns : List Int) (k : Int), vs = [.ref a, .int k] ∧ SqL K H a (ns.map V.int) ∧ 0 ≤ k ∧ ∀ c : Int, Q (.int c) H
theorem sc_cell : FnScope ["script", "k"] ["script", "k"] (defScope sCell) := ⟨rfl, rfl, rfl, by decide +kernel, rfl, by decide +kernel, by decide +kernel⟩
theorem ok_cell {f : Addr} {fd : FuncData} (F : Fun K "_law_cell_at" "_law_cell_at" sCell f fd) (m_len : mg "len" = none) : FnOk P w K mg base CX0 1 f fd ["script", "k"] (spCell K) := by
  refine F.ok sc_cell (fun vs H Q E h => ?_) (fun cdv A outer s H vs Q E hr h => ?_)
  · obtain ⟨a, ns, k, rfl, _⟩ := h
    rfl
  obtain ⟨a, ns, k, rfl, hS, h0, q⟩ := h
  refine ⟨_, pss_cons (ps_if (pt_cmpR op_lt (pv 1) (pe_callB call_len_seq (by rfl) m_len PySem.boot_len (pa_cons (pv 0) pa_nil)) (nomark _)) (pss_one (ps_ret (pe_ix ix_list (pv 0) (pv 1) (fun _ _ => rfl)))) (pss_nil))
      (pss_one (ps_ret pe_int)), ?_⟩
  refine ⟨_, rfl, _, rfl, a, _, rfl, .inl hS, _, _, rfl, rfl, _, rfl, ?_⟩
  refine ite2 (fun c => ?_) (fun c => q 0)
  have c' : k < ((ns.map V.int).length : Int) := of_decide_eq_true c
  have ek : k = ((k.toNat : Nat) : Int) := by omega
  have hk : k.toNat < ns.length := by rw [List.length_map] at c'; omega
  have ha : atI (ns.map V.int) ((k.toNat : Nat) : Int) = some (.int ns[k.toNat]) := atI_nat (by rw [List.getElem?_map, List.getElem?_eq_getElem hk] <;> rfl)
  rw [← ek] at ha
  exact ⟨_, rfl, _, rfl, a, _, _, _, rfl, rfl, hS, ha, q _⟩
def spDraw : Sp := fun vs H Q _ => ∃ (c k b : Int), vs = [.int c, .int k, .int b] ∧ 0 < b ∧ ∀ (r : Int) (H' : Hp), 0 ≤ r → r < b → Same H H' → Q (.int r) H'
theorem sc_draw : FnScope ["cell", "k", "bound", "primes"] ["cell", "k", "bound"] (defScope sDraw) := ⟨rfl, rfl, rfl, by decide +kernel, rfl, by decide +kernel, by decide +kernel⟩
def primesL : List Int := [1000003, 1000033, 1000037, 1000039, 1000081, 1000099, 1000117, 1000121, 1000133, 1000151, 1000159, 1000171, 1000183, 1000187, 1000193, 1000199]
theorem primes_at {i : Int} (h0 : 0 ≤ i) (h : i < 16) : ∃ p : Int, 0 < p ∧ atI (primesL.map V.int) i = some (.int p) := by
  have ei : i = ((i.toNat : Nat) : Int) := by omega
  have hk : i.toNat < primesL.length := by show i.toNat < 16; omega
  refine ⟨primesL[i.toNat], ?_, ?_⟩
  · have : ∀ x ∈ primesL, (0 : Int) < x := by decide
    exact this _ (List.getElem_mem hk)
  · have q : atI (primesL.map V.int) ((i.toNat : Nat) : Int) = some (.int primesL[i.toNat]) := atI_nat (by rw [List.getElem?_map, List.getElem?_eq_getElem hk] <;> rfl)
    rw [← ei] at q
    exact q
theorem ok_draw {f : Addr} {fd : FuncData} (F : Fun K "_law_draw" "_law_draw" sDraw f fd) (m_int : mg "int" = none) : FnOk P w K mg base CX0 1 f fd ["cell", "k", "bound"] spDraw := by
  refine F.ok sc_draw (fun vs H Q E h => ?_) (fun cdv A outer s H vs Q E hr h => ?_)
  · obtain ⟨c, k, b, rfl, _⟩ := h
    rfl
  obtain ⟨c, k, b, rfl, hb, q⟩ := h
  have nd := sc_draw.nd
  refine ⟨_, pss_cons (ps_set (i := 3) nd rfl (.inl rfl) (pe_tup (pa_cons pe_int (pa_cons pe_int (pa_cons pe_int (pa_cons pe_int (pa_cons pe_int (pa_cons pe_int (pa_cons pe_int (pa_cons pe_int (pa_cons pe_int (pa_cons pe_int (pa_cons pe_int (pa_cons pe_int (pa_cons pe_int (pa_cons pe_int (pa_cons pe_int (pa_cons pe_int pa_nil))))))))))))))))))
      (pss_one (ps_ret (pe_op op_mod (pe_op op_mod (pe_callTy call_int1 (by rfl) m_int boot_int (pa_cons (pe_op op_add (pe_op op_mul (pv 0) pe_int) (pe_op op_mul (pv 1) pe_int)) pa_nil)) (pe_ix ix_tup (pv 3) (pe_op op_mod (pe_callTy call_int1 (by rfl) m_int boot_int (pa_cons (pv 1) pa_nil)) pe_int) (fun _ _ => rfl))) (pv 2)))), ?_⟩
  refine ⟨by show 16 ≤ sizeLine; decide, fun t ht => ?_⟩
  obtain ⟨p, hp, hat⟩ := primes_at (i := k % 16) (by omega) (by omega)
  refine ⟨_, rfl, _, _, rfl, rfl, .inr (by show _ ∧ _; decide), _, rfl, _, _, rfl, rfl, .inr (by show _ ∧ _; decide), _, _, rfl, rfl, .inl ⟨_, rfl, ?_⟩⟩
  refine ⟨_, rfl, _, rfl, .inl ⟨_, rfl, _, _, rfl, rfl, (by show (0 : Int) < 16; decide), ?_⟩⟩
  refine ⟨t, primesL.map V.int, _, _, rfl, rfl, SqT.of upd_same, hat, _, _, rfl, rfl, hp, _, rfl, _, _, rfl, rfl, hb, ?_⟩
  exact q _ _ (Int.emod_nonneg _ (by omega)) (Int.emod_lt_of_pos _ hb) (same_upd ht)
end
end Kx

namespace Kx
open PySem PySem.Spec PyProof.Rows L2
section
variable {P : Program} {w : World} {K : PySem.W.Frag} {mg : Str → Option Value} {base : Heap}
theorem pow_lt : ∀ i : Nat, i < 24 → (1009 ^ i : Nat) < 2 ^ 240 := by decide +kernel
theorem sc_numb : FnScope ["cell", "k", "bound", "power", "lap", "remains", "small"] ["cell", "k", "bound"] (defScope sNumb) := ⟨rfl, rfl, rfl, by decide +kernel, rfl, by decide +kernel, by decide +kernel⟩
def spNumb : Sp := fun vs H Q _ => ∃ (c k b : Int), vs = [.int c, .int k, .int b] ∧ 0 ≤ k ∧ k ≤ 100 ∧ 0 < b ∧ ∀ (r : Int) (H' : Hp), 0 ≤ r → r < b → Same H H' → Q (.int r) H'
theorem ok_numb {f : Addr} {fd : FuncData} (F : Fun K "_law_number" "_law_number" sNumb f fd) (m_int : mg "int" = none) (m_range : mg "range" = none) (G_law_draw : Ready P w K mg base 1 "_law_draw" ["cell", "k", "bound"] spDraw) :
    FnOk P w K mg base CX0 2 f fd ["cell", "k", "bound"] spNumb := by
  refine F.ok sc_numb (fun vs H Q E h => ?_) (fun cdv A outer s H vs Q E hr h => ?_)
  · obtain ⟨c, k, b, rfl, _⟩ := h
    rfl
  obtain ⟨c, k, b, rfl, k0, k1, hb, q⟩ := h
  have nd := sc_numb.nd
  refine ⟨_, pss_cons (ps_set (i := 3) nd rfl (.inl rfl) pe_int)
      (pss_cons (ps_for PassesOwn.never rfl (pi_range1 rfl m_range (pa_cons (pe_op op_mod (pe_callTy call_int1 (by rfl) m_int boot_int (pa_cons (pv 1) pa_nil)) pe_int) pa_nil)) (pg_name (i := 4) nd rfl (.inl rfl)) (pss_one (ps_set (i := 3) nd rfl (.inl rfl) (pe_op op_mul (pv 3) pe_int))))
      (pss_cons (ps_set (i := 5) nd rfl (.inl rfl) (pe_op op_fdivW (pe_op op_sub (pv 0) (pe_op op_pow pe_int pe_int)) (pv 3)))
      (pss_cons (ps_if (pt_cmpR op_gt (pv 5) pe_int (nomark _)) (pss_one (ps_ret (pe_op op_mod (pe_op op_mod (pe_callTy call_int1 (by rfl) m_int boot_int (pa_cons (pv 5) pa_nil)) pe_int) (pv 2)))) (pss_nil))
      (pss_cons (ps_set (i := 6) nd rfl (.inl rfl) (pe_op op_mod (pe_callTy call_int1 (by rfl) m_int boot_int (pa_cons (pv 0) pa_nil)) pe_int))
      (pss_one (ps_ret (pe_op op_mod (pe_fn (G_law_draw) (hr.mono (by decide)) (pa_cons (pe_op op_mul (pe_op op_add (pv 6) (pe_op op_mul pe_int (pv 1))) (pe_op op_add (pe_op op_add (pv 6) (pe_op op_mul pe_int (pv 1))) pe_int)) (pa_cons (pe_op op_add (pe_op op_mod (pe_callTy call_int1 (by rfl) m_int boot_int (pa_cons (pv 1) pa_nil)) pe_int) pe_int) (pa_cons pe_int pa_nil)))) (pv 2)))))))), ?_⟩
  refine ⟨_, rfl, .inl ⟨_, rfl, _, _, rfl, rfl, (by show (0 : Int) < 24; decide), _, rfl, by omega, by omega, ?_⟩⟩
  have m0 : 0 ≤ k % 24 := Int.emod_nonneg _ (by omega)
  have m1 : k % 24 < 24 := Int.emod_lt_of_pos _ (by omega)
  refine for_range (fun i σ H' => ∃ y4, σ = [some (.int c), some (.int k), some (.int b), some (.int ((1009 ^ i : Nat) : Int)), y4, none, none] ∧ H' = H) ⟨none, rfl, rfl⟩ ?_ ?_
  · rintro i σ H' hi ⟨y4, rfl, rfl⟩
    refine ⟨_, rfl, _, _, rfl, rfl, .inr (by show _ ∧ _; decide), ?_⟩
    refine ⟨some (.int (0 + (i : Nat))), ?_, rfl⟩
    rw [Nat.pow_succ, Int.natCast_mul]
    rfl
  · rintro σ H' ⟨y4, rfl, rfl⟩
    have hj : (k % 24).toNat < 24 := by omega
    have hp := pow_lt _ hj
    have hp0 : 0 < (1009 ^ (k % 24).toNat : Nat) := Nat.pow_pos (by decide)
    generalize (1009 ^ (k % 24).toNat : Nat) = pw at hp hp0
    refine ⟨_, rfl, _, _, rfl, rfl, (by show _ ∧ _ ∧ _; decide), _, _, rfl, rfl, _, rfl, _, _, rfl, rfl, wide_div (b := 240) (by omega) (by omega) (by decide) (by decide), ?_⟩
    refine ⟨_, rfl, _, _, rfl, rfl, _, rfl, ?_⟩
    refine ite2 (fun _ => ?_) (fun _ => ?_)
    · refine ⟨_, rfl, .inl ⟨_, rfl, _, _, rfl, rfl, (by show (0 : Int) < 1009; decide), _, rfl, _, _, rfl, rfl, hb, ?_⟩⟩
      exact q _ _ (Int.emod_nonneg _ (by omega)) (Int.emod_lt_of_pos _ hb) (Same.refl _)
    · refine ⟨_, rfl, .inl ⟨_, rfl, _, _, rfl, rfl, (by show (0 : Int) < 1000003; decide), ?_⟩⟩
      have s0 : 0 ≤ c % 1000003 := Int.emod_nonneg _ (by omega)
      have s1 : c % 1000003 < 1000003 := Int.emod_lt_of_pos _ (by omega)
      refine ⟨_, rfl, _, rfl, _, _, rfl, rfl, .inl (by show _ ∧ _; decide), _, _, rfl, rfl, ?_⟩
      refine ⟨_, rfl, _, rfl, _, _, rfl, rfl, .inl (by show _ ∧ _; decide), _, _, rfl, rfl, _, _, rfl, rfl, _, _, rfl, rfl, .inl (by show _ ∧ _; omega), ?_⟩
      refine ⟨_, rfl, .inl ⟨_, rfl, _, _, rfl, rfl, (by show (0 : Int) < 9; decide), _, _, rfl, rfl, _, _, _, rfl, by decide, fun r H2 r0 r1 sm => ?_⟩⟩
      refine ⟨_, rfl, _, _, rfl, rfl, hb, ?_⟩
      exact q _ _ (Int.emod_nonneg _ (by omega)) (Int.emod_lt_of_pos _ hb) sm
/-- the three things of a draw: the script's first cells, where it begins, how many were drawn -/
structure DrawAt (H : Hp) (d s : Addr) (ns : List Int) (n : Int) : Prop where
  at_d : H d = some (.lst [.ref s, .int 0, .int n])
  at_s : H s = some (.lst (ns.map V.int))
  n0 : 0 ≤ n
theorem DrawAt.ne {H : Hp} {d s : Addr} {ns : List Int} {n : Int} (D : DrawAt H d s ns n) : s ≠ d := fun e => by
  have a := D.at_s
  rw [e, D.at_d] at a
  cases ns with
  | nil => cases a
  | cons x r => cases a
theorem DrawAt.keep {H H' : Hp} {d s : Addr} {ns : List Int} {n : Int} (D : DrawAt H d s ns n) (h : Same H H') : DrawAt H' d s ns n := ⟨h _ _ D.at_d, h _ _ D.at_s, D.n0⟩
def spNext : Sp := fun vs H Q _ => ∃ (d s : Addr) (ns : List Int) (n b : Int), vs = [.ref d, .int b] ∧ DrawAt H d s ns n ∧ 0 < b ∧ ∀ (r : Int) (H' : Hp), 0 ≤ r → r < b → But d H H' → DrawAt H' d s ns (n + 1) → Q (.int r) H'
theorem sc_next : FnScope ["draw", "bound", "at", "cell"] ["draw", "bound"] (defScope sNext) := ⟨rfl, rfl, rfl, by decide +kernel, rfl, by decide +kernel, by decide +kernel⟩
theorem ok_next {f : Addr} {fd : FuncData} (F : Fun K "_law_next" "_law_next" sNext f fd) (m_int : mg "int" = none) (G_law_cell_at : Ready P w K mg base 1 "_law_cell_at" ["script", "k"] (spCell K)) (G_law_number : Ready P w K mg base 2 "_law_number" ["cell", "k", "bound"] spNumb) :
    FnOk P w K mg base CX0 3 f fd ["draw", "bound"] spNext := by
  refine F.ok sc_next (fun vs H Q E h => ?_) (fun cdv A outer s H vs Q E hr h => ?_)
  · obtain ⟨d, s, ns, n, b, rfl, _⟩ := h
    rfl
  obtain ⟨d, s, ns, n, b, rfl, D, hb, q⟩ := h
  have nd := sc_next.nd
  refine ⟨_, pss_cons (ps_asg (pe_op op_add (pe_ix ix_list (pv 0) pe_int (fun _ _ => rfl)) pe_int) (pg_sub (pv 0) pe_int set_list))
      (pss_cons (ps_set (i := 2) nd rfl (.inl rfl) (pe_op op_fdiv (pe_ix ix_list (pv 0) pe_int (fun _ _ => rfl)) pe_int))
      (pss_cons (ps_set (i := 3) nd rfl (.inl rfl) (pe_op op_add (pe_fn (G_law_cell_at) (hr.mono (by decide)) (pa_cons (pe_ix ix_list (pv 0) pe_int (fun _ _ => rfl)) (pa_cons (pe_op op_add (pe_ix ix_list (pv 0) pe_int (fun _ _ => rfl)) (pv 2)) pa_nil))) (pe_op op_mul pe_int (pv 2))))
      (pss_one (ps_ret (pe_fn (G_law_number) (hr.mono (by decide)) (pa_cons (pv 3) (pa_cons (pe_op op_add (pe_op op_mod (pe_callTy call_int1 (by rfl) m_int boot_int (pa_cons (pe_ix ix_list (pv 0) pe_int (fun _ _ => rfl)) pa_nil)) pe_int) pe_int) (pa_cons (pv 1) pa_nil)))))))), ?_⟩
  refine ⟨_, rfl, d, _, 2, _, rfl, rfl, SqL.of D.at_d, rfl, _, _, rfl, rfl, _, rfl, d, _, _, _, rfl, rfl, D.at_d, rfl, ?_⟩
  have D1 : DrawAt (upd H d (.lst [.ref s, .int 0, .int (n + 1)])) d s ns (n + 1) := ⟨upd_same, by rw [upd_ne D.ne]; exact D.at_s, by have := D.n0; omega⟩
  have b1 : But d H (upd H d (.lst [.ref s, .int 0, .int (n + 1)])) := fun c o hc e => by rw [upd_ne hc]; exact e
  have n0 := D1.n0
  refine ⟨_, rfl, d, _, 2, _, rfl, rfl, SqL.of D1.at_d, rfl, _, _, rfl, rfl, (by show _ ∧ _; decide), ?_⟩
  refine ⟨_, rfl, d, _, 0, _, rfl, rfl, SqL.of D1.at_d, rfl, _, rfl, d, _, 1, _, rfl, rfl, SqL.of D1.at_d, rfl, _, rfl, _, _, rfl, rfl, s, ns, _, rfl, SqL.of D1.at_s, by omega, fun c => ?_⟩
  refine ⟨_, rfl, _, _, rfl, rfl, .inl (by show _ ∧ _; decide), _, _, rfl, rfl, ?_⟩
  refine ⟨_, rfl, _, rfl, d, _, 2, _, rfl, rfl, SqL.of D1.at_d, rfl, .inl ⟨_, rfl, _, _, rfl, rfl, (by show (0 : Int) < 12; decide), _, _, rfl, rfl, _, rfl, ?_⟩⟩
  refine ⟨_, _, _, rfl, by omega, by omega, hb, fun r H' r0 r1 sm => ?_⟩
  exact q r H' r0 r1 (b1.trans (same_but sm)) (D1.keep sm)
/-- a list or a tuple of values -/
def Seq (K : PySem.W.Frag) (H : Hp) (a : Addr) (xs : List V) : Prop := SqL K H a xs ∨ SqT K H a xs
theorem nth {xs : List V} {r : Int} (h0 : 0 ≤ r) (h1 : r < (xs.length : Int)) : ∃ v, v ∈ xs ∧ atI xs r = some v := by
  have er : r = ((r.toNat : Nat) : Int) := by omega
  have hk : r.toNat < xs.length := by omega
  have q : atI xs ((r.toNat : Nat) : Int) = some xs[r.toNat] := atI_nat (List.getElem?_eq_getElem hk)
  rw [← er] at q
  exact ⟨_, List.getElem_mem hk, q⟩
theorem But.sqT {H H' : Hp} {d a : Addr} {xs : List V} (h : But d H H') (hd : ∃ l, H d = some (.lst l)) (q : SqT K H a xs) : SqT K H' a xs := by
  rcases q with (q | ⟨o, q⟩) | q
  · refine .inl (.inl (h _ _ (fun e => ?_) q))
    obtain ⟨l, hl⟩ := hd
    rw [e, hl] at q
    cases q
  · refine .inl (.inr ⟨o, h _ _ (fun e => ?_) q⟩)
    obtain ⟨l, hl⟩ := hd
    rw [e, hl] at q
    cases q
  · exact .inr q
def spPick (K : PySem.W.Frag) : Sp := fun vs H Q _ => ∃ (d s t : Addr) (ns : List Int) (n : Int) (xs : List V), vs = [.ref d, .ref t] ∧ DrawAt H d s ns n ∧ t ≠ d ∧ Seq K H t xs ∧ xs ≠ [] ∧ ∀ (v : V) (H' : Hp), v ∈ xs → But d H H' → DrawAt H' d s ns (n + 1) → Q v H'
theorem sc_pick : FnScope ["draw", "things"] ["draw", "things"] (defScope sPick) := ⟨rfl, rfl, rfl, by decide +kernel, rfl, by decide +kernel, by decide +kernel⟩
theorem But.seq {H H' : Hp} {d a : Addr} {xs : List V} (h : But d H H') (hd : a ≠ d) (q : Seq K H a xs) : Seq K H' a xs := by
  rcases q with ((q | ⟨o, q⟩) | q) | ((q | ⟨o, q⟩) | q)
  · exact .inl (.inl (.inl (h _ _ hd q)))
  · exact .inl (.inl (.inr ⟨o, h _ _ hd q⟩))
  · exact .inl (.inr q)
  · exact .inr (.inl (.inl (h _ _ hd q)))
  · exact .inr (.inl (.inr ⟨o, h _ _ hd q⟩))
  · exact .inr (.inr q)
theorem ok_pick {f : Addr} {fd : FuncData} (F : Fun K "_law_pick" "_law_pick" sPick f fd) (m_len : mg "len" = none) (G_law_next : Ready P w K mg base 3 "_law_next" ["draw", "bound"] spNext) :
    FnOk P w K mg base CX0 4 f fd ["draw", "things"] (spPick K) := by
  refine F.ok sc_pick (fun vs H Q E h => ?_) (fun cdv A outer s H vs Q E hr h => ?_)
  · obtain ⟨d, s, t, ns, n, xs, rfl, _⟩ := h
    rfl
  obtain ⟨d, s, t, ns, n, xs, rfl, D, td, hS, hne, q⟩ := h
  have nd := sc_pick.nd
  refine ⟨_, pss_one (ps_ret (pe_ix ix_seq (pv 1) (pe_fn (G_law_next) (hr.mono (by decide)) (pa_cons (pv 0) (pa_cons (pe_callB call_len_seq (by rfl) m_len PySem.boot_len (pa_cons (pv 1) pa_nil)) pa_nil))) (fun _ _ => rfl))), ?_⟩
  have hl : 0 < (xs.length : Int) := by
    have := List.length_pos_iff.mpr hne
    omega
  refine ⟨_, rfl, _, rfl, _, rfl, t, xs, rfl, hS, d, s, ns, n, _, rfl, D, hl, fun r H' r0 r1 bt D' => ?_⟩
  obtain ⟨v, hv, hat⟩ := nth r0 r1
  rcases bt.seq td hS with hL | hT
  · exact .inl ⟨t, xs, _, _, rfl, rfl, hL, hat, q _ _ hv bt D'⟩
  · exact .inr (.inl ⟨t, xs, _, _, rfl, rfl, hT, hat, q _ _ hv bt D'⟩)
end
end Kx

namespace PySem
namespace BadX
open PySem.W PySem.Calls PyProof.Rows PySem.HandSPX
/-! ### self.thing = v on an exception that has no dict yet -/
abbrev exT : List Value := [.type "Exception", .type "BaseException", .type "object"]
section
open Builtin Builtin.ObjectAttr
variable {prog : Program} {w : World} {A : Around} {R : Result → Shared → Prop} {hp : Heap} {g : Array GenState} {d : Drawn} {t : Nat} {os : OsState}
theorem osa_first {K : Frag} {name : Str} {tk : Tok} {v : Value} {x C : Addr} {fv : Array Value} {cd : ClassData} {bm : List Value}
    (X : K.In hp) (ho : hp.get? x = some { cls := .ref C, data := .fields fv }) (hc : clsIn K C = some cd) (ht : excTail exT bm = true) (hm : cd.mro = .ref C :: bm) (hh : cd.hasDict = true) (hn : findIn K (.ref C) name = some none)
    (q : ∀ h' tk' dx, (∀ b o, b ≠ x → hp.get? b = some o → h'.get? b = some o) → hp.objs.size ≤ dx → dx ≠ x → h'.get? x = some { cls := .ref C, dict := some dx, data := .fields fv } → h'.Ns1 dx (fun y => if y = name then some v else none) → R (.ok (.ret .none)) ⟨h', g, d, tk', os⟩) :
    codeAny (model prog w) A (.call (.builtin "object.__setattr__") ⟨[.ref x, .str name tk, v], []⟩) R ⟨hp, g, d, t, os⟩ := by
  have over : excOver K C exT = true := by
    unfold excOver
    rw [hc]
    show (match cd.mro with | .ref C' :: bm => C' == C && excTail exT bm | _ => false) = true
    rw [hm]
    show (C == C && excTail exT bm) = true
    rw [ht, beq_self_eq_true] <;> rfl
  have free : takerIn K C name = some none := by
    unfold takerIn
    rw [hn] <;> rfl
  have apart : hp.objs.size ≠ x := fun z => absurd (Heap.lt_size ho) (by rw [z]; exact Nat.lt_irrefl _)
  refine osa_openX (s := ⟨hp, g, d, t, os⟩) F.store_Exception X (ox := { cls := .ref C, data := .fields fv }) (od := none) ⟨ho, rfl, rfl, trivial⟩ over free fun b => ?_
  have look : Looks (model prog w) hp (classData C) cd := looks_clsIn X hc
  obtain ⟨c1, c2, c3, c4, c5, c6, c7, c8, c9, c10, c11⟩ := cd
  dsimp only at hh
  subst hh
  show wpAny _ _ (storeInOwnDict (.ref x) (.ref C) (.str name tk) name v b) _ _ _
  unfold storeInOwnDict ownDictForStores
  repeat (first | with_reducible refine look.at ?_ | with_reducible refine wpAny_loadPart_at ho ?_ | with_reducible refine store_in_new ?_ ?_ | wp_step)
  · exact ⟨_, #[], _, (Heap.get?_update_ne _ _ _ _ apart).trans (Heap.get?_push_at rfl rfl), rfl, (by intro e he; simp at he), (fun _ => rfl)⟩
  intro h2 tk2 n2 sb
  have mid : (hp.push { cls := .type "dict", data := .dict #[] }).get? x = some { cls := .ref C, data := .fields fv } := Heap.get?_push_of_some _ ho
  refine q h2 tk2 _ (fun c o hc e => ?_) (Nat.le_refl _) apart ((sb.2 x apart.symm).trans (Heap.get?_update_self _ mid rfl)) n2
  have far : c ≠ hp.objs.size := fun z => absurd (Heap.lt_size e) (by rw [z]; exact Nat.lt_irrefl _)
  rw [sb.2 c far, Heap.get?_update_ne _ _ _ _ hc]
  exact Heap.get?_push_of_some _ e
end
/-! ### the text of __init__ -/
def iA (p1 p2 : Pos) : Arguments := { posonlyargs := [], args := [{ arg := "self", annotation := none, pos := p1 }, { arg := "thing", annotation := none, pos := p2 }], vararg := none, kwonlyargs := [], kw_defaults := [], kwarg := none, defaults := [] }
def iB (q1 q2 q3 q4 : Pos) : List Stmt := [.Assign [.Attribute (.Name "self" q1) "thing" q2] (.Name "thing" q3) q4]
def iS : Scope := { kind := .function, names := [(PySem.Str.ofString "self", .local), (PySem.Str.ofString "thing", .local)], isGenerator := false, isCoroutine := false, more := [] }
/-- what the written part says of BadThing, at C, and of its __init__, at fI -/
structure BadTxt (K : Frag) (mg : Str → Option Value) (C fI : Addr) : Prop where
  gC : mg "BadThing" = some (.ref C)
  cls : ∃ nm q N bs bm sn sub ab col dd k0 k1 k2 k3 k5, K.lookup C = some (excClassObj nm q C N bs bm true sn sub ab col dd k0 k1 k2 k3 k5 "Exception.__new__") ∧ excTail exT bm = true
  sa : findIn K (.ref C) "__setattr__" = some (some (.builtin "object.__setattr__"))
  ga : findIn K (.ref C) "__getattribute__" = some (some (.builtin "BaseException.__getattribute__"))
  gg : findIn K (.ref C) "__getattr__" = some none
  noN : findIn K (.ref C) "thing" = some none
  iC : findIn K (.ref C) "__init__" = some (some (.ref fI))
  tC : typeIn K (.ref fI) = some (.type "function")
  kC : keepIn K (.ref C) = true
  exC : subIn K (.ref C) (.type "BaseException") = some true
  tyC : typeIn K (.ref C) = some (.type "type")
  hdC : hasDictIn K C = true
  te : exmOne K (.ref C) (.ref C) = some true
  fn : ∃ (oc : Value) (od : Option Addr) (doc pm : Value) (an : Option Addr) (cdv ct : Value) (osl : Array (Option Value)) (p1 p2 q1 q2 q3 q4 : Pos),
    K.lookup fI = some ⟨oc, od, .func (fnOf "__init__" "BadThing.__init__" (iA p1 p2) (iB q1 q2 q3 q4) iS .none .none doc pm an cdv ct), osl⟩ ∧ codeIn K cdv "BadThing.__init__" = true
theorem one_size (v : Value) : [v].length ≤ sizeLine := by
  rw [sizeLine_eq]
  exact (by decide : 1 ≤ 16777216)
theorem kept_but {K : Frag} {h h' : Heap} {x : Addr} (X : K.In h) (hx : K.lookup x = none) (k : ∀ b o, b ≠ x → h.get? b = some o → h'.get? b = some o) : K.In h' := fun a o e =>
  k a o (fun z => by rw [z, hx] at e; cases e) (X a o e)
theorem ldC {M : Model} {s : Shared} {name : Str} {scope : Scope} {L a : Addr} {cd : Value} {m : Str → Option Value} {x : Str} {pos : Pos} {v : Value} {Q : Value → Shared → Prop} {A : Around} {E : Value → Shared → Prop} (hn : s.heap.Ns L m) (hv : m x = some v) (h : Q v s)
    (hk : scope.kind = .function := by rfl) (hl : (envOfC name scope L a cd).kindOf x = some .local := by rfl) (hd : (x == ("__debug__" : Str)) = false := by decide) :
    wpAny M A (eval (.Name x pos) (envOfC name scope L a cd)) Q E s := wpAny_Name (wpAny_loadName_local hk hl hn hv h) hd
/-- what __init__ leaves of a fresh exception at x -/
structure InitEnd (h h' : Heap) (x C dx t1 : Addr) (v : Value) : Prop where
  keep : ∀ b o, b ≠ x → h.get? b = some o → h'.get? b = some o
  obj : h'.get? x = some { cls := .ref C, dict := some dx, data := .fields #[.ref t1, .none, .none, .none, .bool false, .none] }
  dbig : h.objs.size ≤ dx
  dne : dx ≠ x
  ns : h'.Ns1 dx (fun y => if y = "thing" then some v else none)
/-- a made BadThing -/
structure OwnMade (h h' : Heap) (e C d : Addr) (v : Value) : Prop where
  keep : ∀ b o, h.get? b = some o → h'.get? b = some o
  new : h.objs.size ≤ e
  obj : ∃ oe vs, h'.get? e = some oe ∧ oe.cls = .ref C ∧ oe.dict = some d ∧ oe.data = .fields vs ∧ vs[1]? = some .none
  dbig : h.objs.size ≤ d
  dne : d ≠ e
  ns : h'.Ns1 d (fun y => if y = "thing" then some v else none)
section
variable {prog : Program} {w : World} {A : Around} {E : Value → Shared → Prop} {R : Result → Shared → Prop} {s : Shared} {K : Frag} {mg : Str → Option Value} {C fI : Addr}
theorem bad_init (T : BadTxt K mg C fI) {x t0 : Addr} {v : Value} (X : K.In s.heap) (hlim : s.heap.NoLimit) (hx : s.heap.get? x = some (excO C t0)) (hnx : K.lookup x = none) (hroom : A.depth < recursionLimit)
    (hq : ∀ h' tk dx, InitEnd s.heap h' x C dx t0 v → R (.ok (.ret .none)) { s with heap := h', toks := tk }) :
    codeAny (model prog w) A (.call (.ref fI) ⟨[.ref x, v], []⟩) R s := by
  obtain ⟨oc, od, doc, pm, an, cdv, ct, osl, p1, p2, q1, q2, q3, q4, ho, hcd⟩ := T.fn
  obtain ⟨nm, q, N, bs, bm, sn, sub, ab, col, dd, k0, k1, k2, k3, k5, hC, hbm⟩ := T.cls
  have hcl : clsIn K C = some { name := nm, bases := bs, mro := .ref C :: bm, ns := N, qualname := q, hasDict := true, slotNames := sn, subclasses := sub, abstract := ab, collection := col, hasDel := false } := by unfold clsIn; rw [hC] <;> rfl
  refine Att.call_fn (binds := [("self", .ref x), ("thing", v)]) X hlim ho hcd hroom (BindsTo.of_eq (by first | rfl | with_unfolding_all rfl)) (by first | rfl | decide | with_unfolding_all rfl) (fun s₁ IC => ?_) rfl rfl rfl
  obtain ⟨h₁, tk₁, rfl⟩ := IC.toInCall.same
  have k : ∀ b o, s.heap.get? b = some o → h₁.get? b = some o := IC.toInCall.keep
  have hn := IC.toInCall.ns
  have hxL : s.heap.objs.size ≠ x := Nat.ne_of_gt (Heap.lt_size hx)
  have X₁ : K.In h₁ := X.keeps k
  have hx₁ := k _ _ hx
  -- self.by = by
  show wpAny _ _ (execs _ _) _ _ _
  refine wpAny_execs_cons (plainObj_wpAny_Assign_Attribute ?_)
  refine ldC (v := v) hn (by first | rfl | with_unfolding_all rfl | kernel_rfl) (ldC (v := .ref x) hn (by first | rfl | with_unfolding_all rfl | kernel_rfl) ?_)
  refine set_plain X₁ (ox := excO C t0) (od := none) ⟨hx₁, rfl, rfl, trivial⟩ T.sa ?_
  refine osa_first X₁ hx₁ hcl (show excTail exT bm = true from hbm) rfl rfl T.noN (fun h₃ tk₃ dx k₃ dn dne hx₃ hn₃ => ?_)
  show wpAny _ _ (execs _ _) _ _ _
  have z : s.heap.objs.size < h₁.objs.size := hn.lt
  exact wpAny_execs_nil (hq h₃ tk₃ dx ⟨fun b o hb e => k₃ b o hb (k b o e), hx₃, Nat.le_of_lt (Nat.lt_of_lt_of_le z dn), dne, hn₃⟩)
theorem bad_made (T : BadTxt K mg C fI) {v : Value} (X : K.In s.heap) (hlim : s.heap.NoLimit) (hroom : A.depth + 1 < recursionLimit)
    (hq : ∀ h' tk e d, OwnMade s.heap h' e C d v → R (.ok (.ret (.ref e))) { s with heap := h', toks := tk }) :
    codeAny (model prog w) A (.call (.ref C) ⟨[v], []⟩) R s := by
  obtain ⟨nm, q, N, bs, bm, sn, sub, ab, col, dd, k0, k1, k2, k3, k5, hC, hbm⟩ := T.cls
  obtain ⟨hp, g, dr, tk, os⟩ := s
  have k : ∀ b o, hp.get? b = some o → ((hp.push (kdv_tup [v])).push (excO C hp.objs.size)).get? b = some o := fun b o e => Heap.get?_push_of_some _ (Heap.get?_push_of_some _ e)
  have hget : ((hp.push (kdv_tup [v])).push (excO C hp.objs.size)).get? (hp.objs.size + 1) = some (excO C hp.objs.size) := by heap_get
  have hnx : K.lookup (hp.objs.size + 1) = none := by
    cases e : K.lookup (hp.objs.size + 1) with
    | none => rfl
    | some o =>
      have z : hp.get? (hp.objs.size + 1) = some o := X _ _ e
      exact absurd (Nat.lt_of_succ_lt (Heap.lt_size z)) (Nat.lt_irrefl _)
  refine call_own F.excBase_Exception (fun X => excTail_contains X bm hbm) (X _ _ hC) (looks_findIn X T.iC) (fun self => bind_fn X self T.tC) (one_size v) ?_
  refine bad_init (s := ⟨(hp.push (kdv_tup [v])).push (excO C hp.objs.size), g, dr, tk, os⟩) T (X.keeps k) (hlim.keeps k) hget hnx ?_ fun h' tk' dx ⟨k', hx, dn, dne, hns⟩ => ?_
  · show A.depth + 1 < recursionLimit
    exact hroom
  · have old : ∀ b o, hp.get? b = some o → h'.get? b = some o := fun b o e => k' b o (Nat.ne_of_lt (Nat.lt_succ_of_lt (Heap.lt_size e))) (k b o e)
    have z : hp.objs.size + 1 + 1 ≤ dx := by
      first
        | (simpa only [Heap.size_push] using dn)
        | exact dn
        | (have q := dn; rw [Heap.size_push, Heap.size_push] at q; exact q)
    exact ⟨rfl, hq h' tk' (hp.objs.size + 1) dx ⟨old, Nat.le_succ _, ⟨_, _, hx, rfl, rfl, rfl, rfl⟩, Nat.le_trans (Nat.le_trans (Nat.le_succ _) (Nat.le_succ _)) z, dne, hns⟩⟩
end
end BadX
end PySem
namespace Kx
open PySem PySem.Spec PyProof.Rows L2
theorem relO_bad {v : V} {v' : Value} (r : RelV v v') (f : Str) : RelO (List.lookup f [(("thing" : Str), v)]) (if f = "thing" then some v' else none) := by
  by_cases hw : f = "thing"
  · subst hw
    rw [if_pos rfl]
    have q : List.lookup ("thing" : Str) [(("thing" : Str), v)] = some v := by simp [List.lookup]
    rw [q]
    exact r
  · rw [if_neg hw]
    have qw : (f == ("thing" : Str)) = false := by simpa using hw
    have q2 : List.lookup f [(("thing" : Str), v)] = none := by simp [List.lookup, qw]
    rw [q2]
    trivial
section
variable {X : Cx} {C fI : Addr}
/-- BadThing(e) -/
def tMkBad (C : Addr) (ta : TA) : L2.St → Hp → XK → Prop := fun σ H Q => ta σ H fun vs H1 => ∃ v, vs = [v] ∧ ∀ d, H1 d = none → Q (.ref C) (some d) (upd H1 d (.xd [(("thing" : Str), v)]))
theorem pmk_bad {a : Expr} {ta : TA} {p pos : Pos} {k : Nat} (T : PySem.BadX.BadTxt X.K X.mg C fI) (hr : Room k X.A) (ha : PA X [a] ta) (hg : Gl X "BadThing" := by rfl)
    (he : starEach (a :: []) X.env = (false, eval a X.env) :: starEach [] X.env := by rfl) (hpl : (backTo pos (starEach [] X.env)).any (·.1) = false := by rfl) :
    PMk X (.Call (.Name "BadThing" p) [a] [] pos) (tMkBad C ta) := by
  intro pins s σ H Q I h
  refine wpAny_Call_Name_kw (ld_glob I hg T.gC ?_)
  refine PySem.W.callWith_K (h₀ := X.base) I.ok.mod.kin T.kC (thn (ha.run pos pins s σ H _ I h) fun us s1 hh => ?_) he hpl
  obtain ⟨vs, H1, I1, r1, v, ev, q1⟩ := hh
  subst ev
  refine ⟨I1.kIn, ?_⟩
  cases r1 with
  | cons rv rn =>
    rename_i v' us'
    cases rn
    show wpAny _ _ (call (.ref C) [v']) _ _ _
    have hlim := I1.nolimit
    obtain ⟨hp, g, dr, tk, os⟩ := s1
    refine wpAny_call (PySem.BadX.bad_made T I1.kIn hlim (by have := hr.dp; omega) fun h' tk' e d M => ?_)
    show MkP X pins σ Q (.ref e) ⟨h', g, dr, tk', os⟩
    obtain ⟨oe, fv, hoe, hc, hd, hdat, h1⟩ := M.obj
    have hns := M.ns
    obtain ⟨G', g1, g2⟩ := restrict h' fun b => decide (b ≠ e)
    have gk : ∀ b, b ≠ e → G'.get? b = h'.get? b := fun b hb => g1 b (decide_eq_true hb)
    have ge : G'.get? e = none := g2 e (by simp)
    have old : ∀ b o, hp.get? b = some o → G'.get? b = some o := fun b o q => (gk b (Nat.ne_of_lt (Nat.lt_of_lt_of_le (Heap.lt_size q) M.new))).trans (M.keep b o q)
    have ob : ObjOk X.prog X.w (upd H1 d (.xd [(("thing" : Str), v)])) G' d (.xd [(("thing" : Str), v)]) :=
      ⟨_, hns.at (fun o q => (gk d M.dne).trans q), fun f => relO_bad rv f⟩
    have J : Inv X pins σ (upd H1 d (.xd [(("thing" : Str), v)])) ⟨G', g, dr, tk', os⟩ := I1.laid (t' := tk') old M.dbig ob
    refine ⟨e, oe, fv, ⟨G', g, dr, tk', os⟩, _, .ref C, some d, rfl, J, fun b o q => ?_, ge, hoe, ⟨hc, hd⟩, hdat, h1, ?_, rfl, I1.bare, raises_own T.exC T.tyC, q1 d (I1.hok.fresh M.dbig)⟩
    · by_cases hb : b = e
      · have q' : G'.get? b = some o := q
        rw [hb, ge] at q'; cases q'
      · exact (gk b hb).symm.trans q
    · rw [upd_ne (Ne.symm M.dne)]
      exact I1.hok.fresh M.new
/-- raise BadThing(e) -/
def tRaiseBad (C : Addr) (W : WX) (ta : TA) : TS := fun _ σ H => tMkBad C ta σ H fun cls d H' => W cls d σ H'
theorem ps_raiseBad {a : Expr} {ta : TA} {W : WX} {p pos pos2 : Pos} {k : Nat} (hc : X.calm = true) (T : PySem.BadX.BadTxt X.K X.mg C fI) (hr : Room k X.A) (tk : Takes X W) (ha : PA X [a] ta) (hg : Gl X "BadThing" := by rfl)
    (he : starEach (a :: []) X.env = (false, eval a X.env) :: starEach [] X.env := by rfl) (hpl : (backTo pos (starEach [] X.env)).any (·.1) = false := by rfl) :
    PS X (.Raise (some (.Call (.Name "BadThing" p) [a] [] pos)) none pos2) (tRaiseBad C W ta) := ps_raise hc tk (pmk_bad T hr ha hg he hpl)
/-- error.thing, low the exception that the suite holds (at a; its class cls, its dict d) -/
def tByBad (C : Addr) (a : Addr) (cls : Value) (d : Option Addr) (te : TE) : TE := fun σ H Q => te σ H fun x H1 => x = .ref a ∧ cls = .ref C ∧ ∃ (dd : Addr) (v : V), d = some dd ∧ H1 dd = some (.xd [(("thing" : Str), v)]) ∧ Q v H1
theorem pe_byBad {a : Addr} {oe : Obj} {cls : Value} {d : Option Addr} {pn : List (Addr × Obj)} {e : Expr} {te : TE} {pos : Pos} (T : PySem.BadX.BadTxt X.K X.mg C fI) (hz : Zc cls d oe) (hf : ∃ vs, oe.data = .fields vs) (he : PE (X.suite a ((a, oe) :: pn)) e te)
    (hb : attributeBase e "thing" X.env (eval e X.env) = eval e X.env := by rfl) :
    PE (X.suite a ((a, oe) :: pn)) (.Attribute e "thing" pos) (tByBad C a cls d te) := by
  refine ⟨fun pins s σ H Q I h => ?_⟩
  refine attr_of hb (thn (he.run pins s σ H _ I h) fun u s1 hh => ?_)
  obtain ⟨x, H1, I1, rx, ex, ec, dd, v, ed, ea, q⟩ := hh
  subst ex
  obtain rfl : u = Value.ref a := rx
  subst ec
  subst ed
  obtain ⟨ha, _⟩ := I1.pin (a, oe) (List.mem_append_left _ List.mem_cons_self)
  obtain ⟨vs, hd⟩ := hf
  have hx : ObjOk X.prog X.w H1 s1.heap dd (.xd [(("thing" : Str), v)]) := I1.hok dd _ ea
  obtain ⟨mA, hns, hr⟩ := hx
  obtain ⟨od, ho, hl⟩ := lookIn_ns hns
  have l : List.lookup ("thing" : Str) [(("thing" : Str), v)] = some v := by simp [List.lookup]
  obtain ⟨u, hu, ru⟩ := RelO.some_of (v := v) (o := mA "thing") (by rw [← l]; exact hr "thing")
  have J : PySem.W.InstAt s1.heap a oe C (some od) := ⟨ha, hz.1, by unfold PySem.W.notCls; rw [hd] <;> rfl, by rw [hz.2]; exact ho⟩
  exact HandSPX.exc_get I1.kIn J T.ga T.gg T.exC (PySem.W.findObj_own T.hdC T.noN rfl (by rw [hl, hu])) (handed_of ru) ⟨v, H1, I1.tok _, ru, q⟩
end
end Kx


namespace Kx
open PySem PySem.Spec PyProof.Rows L2
/-! ### try: .. except C as n: .. else: .., every error of the body being C's -/
/-- behind the suite the name is gone -/
def bare (D : Ends) (i : Nat) : Ends := { nx := fun τ G => D.nx (τ.set i none) G, rt := D.rt, bk := fun τ G => D.bk (τ.set i none) G, ct := fun τ G => D.ct (τ.set i none) G }
def wAll (K : PySem.W.Frag) (c : Value) (i : Nat) (ts : Addr → Value → Option Addr → TS) (D : Ends) : WX := fun cls d σ H => PySem.W.exmOne K cls c = some true ∧ ∀ a, H a = none → ts a cls d (bare D i) (σ.set i (some (.ref a))) H
section
variable {X : Cx} {x n : Str} {c : Value} {i : Nat} {body suite orelse : List Stmt} {b₀ : Stmt} {np pos pos' : Pos} {tb : WX → TS} {ts : Addr → Value → Option Addr → TS} {u : TS}
/-- an object of an exception is no frame's -/
theorem no_frame {B h : Heap} {l : List Env} {a : Addr} {o : Obj} {vs : Array Value} (F : h.FunFrames B l) (e : h.get? a = some o) (k : o.data = .fields vs) : a ∉ frs l := fun m => by
  obtain ⟨_, o2, e2, no⟩ := F.mem m
  rw [e] at e2
  cases e2
  exact no _ k
theorem ps_try_asE (ho : PSs X orelse u) (hst : X.stack = X.env :: X.outer) (hfl : X.env.frame = some X.env.locals) (hnd : X.N.Nodup) (hix : X.N[i]? = some n) (hlc : X.env.kindOf n = some .local) (hnm : Names X x c)
    (hbd : ∀ (W : WX) (pn : List (Addr × Obj)) (xe : Value → Shared → Prop), Takes (X.tr pn xe) W → PassesOwn (model X.prog X.w) X.A X.env xe → PSs (X.tr pn xe) body (tb W))
    (hsu : ∀ (a : Addr) (oe : Obj) (cls : Value) (d : Option Addr) (pn : List (Addr × Obj)), Zc cls d oe → (∃ vs, oe.data = .fields vs) → PSs (X.suite a ((a, oe) :: pn)) (b₀ :: suite) (ts a cls d)) :
    PS X (.Try body [.ExceptHandler (some (.Name x np)) (some n) (b₀ :: suite) pos'] orelse [] pos) (fun D σ H => tb (wAll X.K c i ts D) { D with nx := u D } σ H) := by
  constructor
  intro pins s σ H D I h
  have okX := I.ok
  have frames : X.A.frames = some (X.env :: X.outer) := okX.frames.trans (congrArg some hst)
  -- what is done with an error of the body
  let land : Value → Shared → Prop := fun e t1 => wpAny (model X.prog X.w) X.A (noteFrame e X.env) (fun _ t2 => wpAny (model X.prog X.w) X.A (setFlight e none) (fun _ t3 =>
    wpAny (model X.prog X.w) X.A (handleBy e X.env [.ExceptHandler (some (.Name x np)) (some n) (b₀ :: suite) pos']) (SP X pins D) X.xe t3) X.xe t2) X.xe t1
  have caught : Takes (X.tr (X.pn ++ pins) land) (wAll X.K c i ts D) := by
    rintro e t ⟨a, B, sI, ps, τ, G, cls, d, rfl, J0, nb, up, sky, na, os, ag, isC, go⟩
    have J := J0.ofTry okX
    have sky2 : Sky B (X.env :: X.outer) a (Zc cls d) X.env.locals t.heap := hst ▸ sky
    refine Sky.land Zc.steady frames hfl sky2 fun g1 f1 u1 => ?_
    have J1 : Inv X pins τ G { t with heap := g1 } := J.landed nb f1.1 (up.trans u1) os ag
    obtain ⟨o1, v1, e1, z1', d1⟩ := f1.there
    have far := no_frame f1.2.2.1 e1 d1
    have farL : a ≠ X.env.locals := fun z => far (List.mem_filterMap.mpr ⟨X.env, List.mem_cons_self, hfl.trans (congrArg some z.symm)⟩)
    have farF : a ∉ X.fs := fun m => by
      obtain ⟨y, hy, k⟩ := List.mem_filterMap.mp m
      exact far (List.mem_filterMap.mpr ⟨y, List.mem_cons_of_mem _ hy, k⟩)
    have S1 := J1.suite e1 d1 na farL farF
    have kind : PySem.W.Looks (model X.prog X.w) g1 (typeOf (.ref a)) cls := fun A Q E t' k q => wpAny_typeOf_ref (k _ _ e1) (z1'.1 ▸ q)
    have named : ∀ {Q E : Value → Shared → Prop}, Q c { t with heap := g1 } → wpAny (model X.prog X.w) (X.A.mark (some (.ref a))) (eval (.Name x np) X.env) Q E { t with heap := g1 } := fun {Q E} q => by
      rcases hnm with ⟨gl, nod, own | ⟨non, bt, nn⟩⟩
      · exact ld_glob (X := X.suite a ((a, o1) :: (X.pn ++ pins))) S1 gl own q nod
      · exact ld_blt (X := X.suite a ((a, o1) :: (X.pn ++ pins))) S1 gl non bt q nn nod
    refine wpAny_handleBy_cons (codeAny_handlers_test (named ((PySem.W.exm_one (M := model X.prog X.w) J1.kIn kind isC).here ?_))) (by intro z; cases z)
    refine codeAny_handlers_suite_as (HandSPX.lands_againZ f1 fun g2 f2 u2 => ?_)
    have J2 : Inv X pins τ G { t with heap := g2 } := J.landed nb f2.1 ((up.trans u1).trans u2) os ag
    obtain ⟨o2, v2, e2, z2', d2⟩ := f2.there
    refine store_ok (X := X.suite a ((a, o2) :: (X.pn ++ pins))) (v := .ref a) (J2.suite e2 d2 na farL farF) hnd hix (.inl hlc) rfl (fun t5 I5 => ?_) (.inr hlc)
    refine wpAny_mono ((hsu a o2 cls d (X.pn ++ pins) z2' ⟨_, d2⟩).run [] t5 _ G _ I5 (go a na)) (fun fl t6 r => ?_) fun _ _ z => z.elim
    have drop : ∀ {τ6 : L2.St} {G6 : Hp} {Q : Shared → Prop}, Inv (X.suite a ((a, o2) :: (X.pn ++ pins))) [] τ6 G6 t6 → (∀ t7, Inv X pins (τ6.set i none) G6 t7 → Q t7) →
        wpAny (model X.prog X.w) X.A (do bindName X.env n .none; unbindBehindTheSuite X.env n pos') (fun _ t7 => Q t7) X.xe t6 := fun k q => gone_ok (k.unsuite okX) hnd hix hlc q
    rcases fl with _ | _ | _ | v
    · obtain ⟨τ6, G6, K6, r⟩ := r
      exact drop K6 fun t7 J7 => ⟨_, _, J7, r⟩
    · obtain ⟨τ6, G6, K6, r⟩ := r
      exact drop K6 fun t7 J7 => ⟨_, _, J7, r⟩
    · obtain ⟨τ6, G6, K6, r⟩ := r
      exact drop K6 fun t7 J7 => ⟨_, _, J7, r⟩
    · obtain ⟨w6, τ6, G6, K6, r6, r⟩ := r
      exact drop K6 fun t7 J7 => ⟨_, _, _, J7, r6, r⟩
  refine wpAny_Try_except (wpAny_mono ((hbd _ _ land caught PassesOwn.looking).run [] s σ H { D with nx := u D } (I.toTry _) h) (fun fl t1 r => ?_) fun _ _ z => z)
  rcases fl with _ | _ | _ | v
  · obtain ⟨τ, G, J, r⟩ := r
    exact ho.run pins t1 τ G D (J.ofTry okX) r
  · obtain ⟨τ, G, J, r⟩ := r
    exact ⟨τ, G, J.ofTry okX, r⟩
  · obtain ⟨τ, G, J, r⟩ := r
    exact ⟨τ, G, J.ofTry okX, r⟩
  · obtain ⟨v1, τ, G, J, r1, r⟩ := r
    exact ⟨v1, τ, G, J.ofTry okX, r1, r⟩
end
end Kx

namespace Kx
open PySem PySem.Spec PyProof.Rows L2
abbrev sOfKind : Stmt := topS 8
abbrev sIsRow : Stmt := topS 32
abbrev sAreRows : Stmt := topS 33
abbrev sLRow : Stmt := topS 68
/-! ### values of a row, and whether they are of a kind -/
inductive Flat : V → Prop where
  | non : Flat .non
  | bl (b : Bool) : Flat (.bl b)
  | int (i : Int) : Flat (.int i)
  | str (x : Str) : Flat (.str x)
def In64 (i : Int) : Prop := -9223372036854775808 ≤ i ∧ i ≤ 9223372036854775807
instance (i : Int) : Decidable (In64 i) := inferInstanceAs (Decidable (_ ∧ _))
def okV (kind : Str) : V → Bool
  | .str _ => decide (V.str kind = .str "text")
  | .int i => !decide (V.str kind = .str "text") && decide (In64 i)
  | _ => false
def tyName : V → String
  | .non => "NoneType"
  | .bl _ => "bool"
  | .int _ => "int"
  | .str _ => "str"
  | _ => "x"
section
variable {P : Program} {w : World} {K : PySem.W.Frag} {mg : Str → Option Value} {base : Heap}
theorem flat_ty {H : Hp} {v : V} (h : Flat v) : TyX K H v (.type (tyName v)) := by
  cases h with
  | non => exact .base .non
  | bl b => exact .base (.bl b)
  | int i => exact .base (.int i)
  | str x => exact .base (.str x)
theorem ty_lst {H : Hp} {a : Addr} {xs : List V} (h : SqL K H a xs) : TyX K H (.ref a) (.type "list") := by
  rcases h with (h | ⟨o, h⟩) | ⟨o, its, n, h, hc, _⟩
  · exact .base (.lst h)
  · exact .base (.frz h)
  · exact .kList h hc
theorem ty_tup {H : Hp} {a : Addr} {xs : List V} (h : SqT K H a xs) : TyX K H (.ref a) (.type "tuple") := by
  rcases h with (h | ⟨o, h⟩) | ⟨o, its, n, h, hc, _⟩
  · exact .base (.tup h)
  · exact .fTuple h
  · exact .kTuple h hc
/-- isinstance(x, T), T a built-in class -/
theorem isi {H : Hp} {x : V} {a b : String} {r : Bool} {Q : VK} (t : TyX K H x (.type a)) (k : kitB a b = some r) (q : Q (.bl r) H) : rIsi K [x, .ty b] H Q := ⟨x, .ty b, .type a, .type b, r, rfl, .ty b, t, kit_ty k, q⟩
/-! ### is_of_kind -/
def spOfKind : Sp := fun vs H Q _ => ∃ (v : V) (kind : Str), vs = [v, .str kind] ∧ Flat v ∧ Q (.bl (okV kind v)) H
theorem sc_ofkind : FnScope ["thing", "kind"] ["thing", "kind"] (defScope sOfKind) := ⟨rfl, rfl, rfl, by decide +kernel, rfl, by decide +kernel, by decide +kernel⟩
theorem ok_ofkind {f : Addr} {fd : FuncData} (F : Fun K "is_of_kind" "is_of_kind" sOfKind f fd) (m_isinstance : mg "isinstance" = none) (m_str : mg "str" = none) (m_int : mg "int" = none) (m_bool : mg "bool" = none)
    (m_least : ∃ t, mg "LEAST_INT" = some (.int (-9223372036854775808) t)) (m_great : ∃ t, mg "GREATEST_INT" = some (.int 9223372036854775807 t)) : FnOk P w K mg base CX0 1 f fd ["thing", "kind"] spOfKind := by
  refine F.ok sc_ofkind (fun vs H Q E h => ?_) (fun cdv A outer s H vs Q E hr h => ?_)
  · obtain ⟨v, kind, rfl, _⟩ := h
    rfl
  obtain ⟨v, kind, rfl, hv, q⟩ := h
  obtain ⟨t1, mL⟩ := m_least
  obtain ⟨t2, mG⟩ := m_great
  refine ⟨_, pss_cons (ps_if (pt_cmpR op_eq (pv 1) pe_str (nomark _)) (pss_one (ps_ret (pe_callB call_isi (by rfl) m_isinstance PyProof.Rows.boot_isinstance (pa_cons (pv 0) (pa_cons (pe_bltn (v := .ty "str") (by rfl) m_str PyProof.Rows.boot_str rfl) pa_nil))))) (pss_nil))
      (pss_one (ps_ret (pe_and (pe_callB call_isi (by rfl) m_isinstance PyProof.Rows.boot_isinstance (pa_cons (pv 0) (pa_cons (pe_bltn (v := .ty "int") (by rfl) m_int PyProof.Rows.boot_int rfl) pa_nil))) (pe_and (pe_not (pe_callB call_isi (by rfl) m_isinstance PyProof.Rows.boot_isinstance (pa_cons (pv 0) (pa_cons (pe_bltn (v := .ty "bool") (by rfl) m_bool PyProof.Rows.boot_bool rfl) pa_nil)))) (pe_one (pe_chain op_le op_le (pe_glob (v := .int (-9223372036854775808)) rfl mL ⟨_, rfl⟩) (pv 0) (pe_glob (v := .int 9223372036854775807) rfl mG ⟨_, rfl⟩))))))), ?_⟩
  refine ⟨_, rfl, rfl, _, rfl, ite2 (fun c => ?_) (fun c => ?_)⟩
  · have c' := of_decide_eq_true c
    refine ⟨_, rfl, _, _, _, _, okV kind v, rfl, .ty _, flat_ty hv, kit_ty ?_, q⟩
    cases hv with
    | non => exact (by decide +kernel : kitB "NoneType" "str" = some false)
    | bl b => exact (by decide +kernel : kitB "bool" "str" = some false)
    | int i =>
      have e : okV kind (.int i) = false := by
        unfold okV
        rw [decide_eq_true c']
        rfl
      rw [e]
      exact (by decide +kernel : kitB "int" "str" = some false)
    | str x =>
      have e : okV kind (.str x) = true := decide_eq_true c'
      rw [e]
      exact (by decide +kernel : kitB "str" "str" = some true)
  have c' : decide (V.str kind = V.str "text") = false := Bool.eq_false_iff.mpr c
  cases hv with
  | non => exact ⟨_, rfl, _, _, _, _, false, rfl, .ty _, flat_ty .non, kit_ty (by decide +kernel : kitB "NoneType" "int" = some false), _, rfl, q⟩
  | bl b => exact ⟨_, rfl, _, _, _, _, true, rfl, .ty _, flat_ty (.bl b), kit_ty (by decide +kernel : kitB "bool" "int" = some true), _, rfl, _, rfl, _, _, _, _, true, rfl, .ty _, flat_ty (.bl b), kit_ty (by decide +kernel : kitB "bool" "bool" = some true), _, rfl, _, rfl, q⟩
  | str x =>
    have e : okV kind (.str x) = false := c'
    rw [e] at q
    exact ⟨_, rfl, _, _, _, _, false, rfl, .ty _, flat_ty (.str x), kit_ty (by decide +kernel : kitB "str" "int" = some false), _, rfl, q⟩
  | int i =>
    have e : okV kind (.int i) = decide (In64 i) := by
      unfold okV
      rw [c']
      rfl
    rw [e] at q
    refine ⟨_, rfl, _, _, _, _, true, rfl, .ty _, flat_ty (.int i), kit_ty (by decide +kernel : kitB "int" "int" = some true), _, rfl, _, rfl, _, _, _, _, false, rfl, .ty _, flat_ty (.int i), kit_ty (by decide +kernel : kitB "int" "bool" = some false), _, rfl, _, rfl, ?_⟩
    refine ⟨_, rfl, _, _, rfl, rfl, _, rfl, ite2 (fun k => ?_) (fun k => ?_)⟩
    · have k1 := of_decide_eq_true k
      refine ⟨_, _, rfl, rfl, ?_⟩
      have e2 : decide (i ≤ 9223372036854775807) = decide (In64 i) := decide_eq_decide.mpr ⟨fun z => ⟨k1, z⟩, fun z => z.2⟩
      rw [← e2] at q
      exact q
    · have e2 : decide (In64 i) = false := decide_eq_false fun z => k (decide_eq_true z.1)
      rw [e2] at q
      exact q
end
end Kx

namespace Kx
open PySem PySem.Spec PyProof.Rows L2
/-! ### things that may be rows -/
inductive Th where
  | none
  | text (x : Str)
  | lst
  | tup (xs : List V)
def ThAt (K : PySem.W.Frag) (H : Hp) : V → Th → Prop
  | v, .none => v = .non
  | v, .text x => v = .str x
  | v, .lst => ∃ a xs, v = .ref a ∧ SqL K H a xs
  | v, .tup xs => ∃ a, v = .ref a ∧ SqT K H a xs ∧ ∀ x ∈ xs, Flat x
/-- whether it is a row of columns of these kinds -/
def rowB (cs : List Str) : Th → Bool
  | .tup xs => decide (xs.length = cs.length) && (xs.zip cs).all fun p => okV p.2 p.1
  | _ => false
theorem rb2 (x y : V) : rowB ["int", "text"] (.tup [x, y]) = (okV "int" x && okV "text" y) := by simp [rowB]
theorem ok_int_int (i : Int) : okV "int" (.int i) = decide (In64 i) := by
  unfold okV
  rw [decide_eq_false (by decide +kernel)]
  rfl
section
variable {P : Program} {w : World} {K : PySem.W.Frag} {mg : Str → Option Value} {base : Heap}
/-! ### _law_is_row -/
def spLRow (K : PySem.W.Frag) : Sp := fun vs H Q _ => ∃ (v : V) (t : Th), vs = [v] ∧ ThAt K H v t ∧ Q (.bl (rowB ["int", "text"] t)) H
theorem sc_lrow : FnScope ["thing"] ["thing"] (defScope sLRow) := ⟨rfl, rfl, rfl, by decide +kernel, rfl, by decide +kernel, by decide +kernel⟩
theorem ok_lrow {f : Addr} {fd : FuncData} (F : Fun K "_law_is_row" "_law_is_row" sLRow f fd) (m_isinstance : mg "isinstance" = none) (m_str : mg "str" = none) (m_int : mg "int" = none) (m_bool : mg "bool" = none) (m_tuple : mg "tuple" = none) (m_len : mg "len" = none) :
    FnOk P w K mg base CX0 1 f fd ["thing"] (spLRow K) := by
  refine F.ok sc_lrow (fun vs H Q E h => ?_) (fun cdv A outer s H vs Q E hr h => ?_)
  · obtain ⟨v, t, rfl, _⟩ := h
    rfl
  obtain ⟨v, t, rfl, hv, q⟩ := h
  have hp : CPow 2 63 := by show _ ∧ _ ∧ _; decide
  refine ⟨_, pss_cons (ps_if (PW.pt (pw_or (pt_not (pt_val (pe_callB call_isi (by rfl) m_isinstance PyProof.Rows.boot_isinstance (pa_cons (pv 0) (pa_cons (pe_bltn (v := .ty "tuple") (by rfl) m_tuple PyProof.Rows.boot_tuple rfl) pa_nil))))) (pw_or (pt_cmpR op_ne (pe_callB call_len_seq (by rfl) m_len PySem.boot_len (pa_cons (pv 0) pa_nil)) pe_int (nomark _)) (pw_or1 (pt_not (pt_val (pe_callB call_isi (by rfl) m_isinstance PyProof.Rows.boot_isinstance (pa_cons (pe_ix ix_tup (pv 0) pe_int (fun _ _ => rfl)) (pa_cons (pe_bltn (v := .ty "str") (by rfl) m_str PyProof.Rows.boot_str rfl) pa_nil))))))))) (pss_one (ps_ret pe_bl)) (pss_nil))
      (pss_one (ps_ret (pe_and (pe_callB call_isi (by rfl) m_isinstance PyProof.Rows.boot_isinstance (pa_cons (pe_ix ix_tup (pv 0) pe_int (fun _ _ => rfl)) (pa_cons (pe_bltn (v := .ty "int") (by rfl) m_int PyProof.Rows.boot_int rfl) pa_nil))) (pe_and (pe_not (pe_callB call_isi (by rfl) m_isinstance PyProof.Rows.boot_isinstance (pa_cons (pe_ix ix_tup (pv 0) pe_int (fun _ _ => rfl)) (pa_cons (pe_bltn (v := .ty "bool") (by rfl) m_bool PyProof.Rows.boot_bool rfl) pa_nil)))) (pe_one (pe_chain op_le op_lt (pe_un un_neg (pe_op op_pow pe_int pe_int)) (pe_ix ix_tup (pv 0) pe_int (fun _ _ => rfl)) (pe_op op_pow pe_int pe_int))))))), ?_⟩
  cases t with
  | none =>
    cases hv
    exact ⟨_, rfl, _, _, _, _, false, rfl, .ty _, .base .non, kit_ty (by decide +kernel : kitB "NoneType" "tuple" = some false), _, rfl, q⟩
  | text x =>
    cases hv
    exact ⟨_, rfl, _, _, _, _, false, rfl, .ty _, .base (.str x), kit_ty (by decide +kernel : kitB "str" "tuple" = some false), _, rfl, q⟩
  | lst =>
    obtain ⟨a, xs, rfl, h⟩ := hv
    exact ⟨_, rfl, _, _, _, _, false, rfl, .ty _, ty_lst h, kit_ty (by decide +kernel : kitB "list" "tuple" = some false), _, rfl, q⟩
  | tup xs =>
    obtain ⟨a, rfl, h, fl⟩ := hv
    refine ⟨_, rfl, _, _, _, _, true, rfl, .ty _, ty_tup h, kit_ty (by decide +kernel : kitB "tuple" "tuple" = some true), _, rfl, _, rfl, a, xs, rfl, .inr h, rfl, _, rfl, ite2 (fun c => ?_) (fun c => ?_)⟩
    · have e : rowB ["int", "text"] (.tup xs) = false := by
        show (decide (xs.length = 2) && _) = false
        rw [decide_eq_false fun z => ?_]
        · rfl
        · rw [z] at c
          exact absurd c (by decide)
      rw [e] at q
      exact q
    have len : xs.length = 2 := by
      by_cases z : xs.length = 2
      · exact z
      · refine absurd ?_ c
        show (!decide (V.int (xs.length : Nat) = V.int 2)) = true
        rw [decide_eq_false fun e => z (by injection e with e; omega)]
        rfl
    match xs, len with
    | [x, y], _ =>
      rw [rb2] at q
      have fx := fl x (by simp)
      have fy := fl y (by simp)
      cases fy with
      | non => exact ⟨_, rfl, a, _, 1, _, rfl, rfl, h, rfl, _, _, _, _, false, rfl, .ty _, .base .non, kit_ty (by decide +kernel : kitB "NoneType" "str" = some false), _, rfl, by rw [show okV "text" .non = false from rfl, Bool.and_false] at q; exact q⟩
      | bl b => exact ⟨_, rfl, a, _, 1, _, rfl, rfl, h, rfl, _, _, _, _, false, rfl, .ty _, .base (.bl b), kit_ty (by decide +kernel : kitB "bool" "str" = some false), _, rfl, by rw [show okV "text" (.bl b) = false from rfl, Bool.and_false] at q; exact q⟩
      | int i => exact ⟨_, rfl, a, _, 1, _, rfl, rfl, h, rfl, _, _, _, _, false, rfl, .ty _, .base (.int i), kit_ty (by decide +kernel : kitB "int" "str" = some false), _, rfl, by rw [show okV "text" (.int i) = false from by unfold okV; rw [decide_eq_true rfl]; rfl, Bool.and_false] at q; exact q⟩
      | str z =>
        rw [show okV "text" (.str z) = true from decide_eq_true (p := V.str "text" = V.str "text") rfl, Bool.and_true] at q
        refine ⟨_, rfl, a, _, 1, _, rfl, rfl, h, rfl, _, _, _, _, true, rfl, .ty _, .base (.str z), kit_ty (by decide +kernel : kitB "str" "str" = some true), _, rfl, ?_⟩
        cases fx with
        | non => exact ⟨_, rfl, a, _, 0, _, rfl, rfl, h, rfl, _, _, _, _, false, rfl, .ty _, .base .non, kit_ty (by decide +kernel : kitB "NoneType" "int" = some false), _, rfl, q⟩
        | bl b => exact ⟨_, rfl, a, _, 0, _, rfl, rfl, h, rfl, _, _, _, _, true, rfl, .ty _, .base (.bl b), kit_ty (by decide +kernel : kitB "bool" "int" = some true), _, rfl, _, rfl, a, _, 0, _, rfl, rfl, h, rfl, _, _, _, _, true, rfl, .ty _, .base (.bl b), kit_ty (by decide +kernel : kitB "bool" "bool" = some true), _, rfl, _, rfl, q⟩
        | str z2 =>
          rw [show okV "int" (.str z2) = false from decide_eq_false (p := V.str "int" = V.str "text") (by decide +kernel)] at q
          exact ⟨_, rfl, a, _, 0, _, rfl, rfl, h, rfl, _, _, _, _, false, rfl, .ty _, .base (.str z2), kit_ty (by decide +kernel : kitB "str" "int" = some false), _, rfl, q⟩
        | int i =>
          rw [ok_int_int] at q
          refine ⟨_, rfl, a, _, 0, _, rfl, rfl, h, rfl, _, _, _, _, true, rfl, .ty _, .base (.int i), kit_ty (by decide +kernel : kitB "int" "int" = some true), _, rfl, _, rfl, a, _, 0, _, rfl, rfl, h, rfl, _, _, _, _, false, rfl, .ty _, .base (.int i), kit_ty (by decide +kernel : kitB "int" "bool" = some false), _, rfl, _, rfl, ?_⟩
          refine ⟨_, _, rfl, rfl, hp, _, rfl, _, rfl, a, _, 0, _, rfl, rfl, h, rfl, _, _, rfl, rfl, _, rfl, ite2 (fun k => ?_) (fun k => ?_)⟩
          · have k1 : -9223372036854775808 ≤ i := of_decide_eq_true k
            refine ⟨_, _, rfl, rfl, hp, _, _, rfl, rfl, ?_⟩
            have e2 : decide (i < 9223372036854775808) = decide (In64 i) := decide_eq_decide.mpr ⟨fun z => ⟨k1, by omega⟩, fun z => by have := z.2; omega⟩
            rw [← e2] at q
            exact q
          · have e2 : decide (In64 i) = false := decide_eq_false fun z => k (decide_eq_true z.1)
            rw [e2] at q
            exact q
end
end Kx

namespace Kx
open PySem PySem.Spec PyProof.Rows L2
theorem walk_zipT {K : PySem.W.Frag} {a b : Addr} {xs ys : List V} {n : Nat} (hn : n = min xs.length ys.length) : Walk (RZ.ItzT K a b) n (fun H => SqT K H a xs ∧ SqT K H b ys) (YPair (fun i => xs[i]?) (fun i => ys[i]?)) := by
  refine ⟨fun i _ hi q => ⟨xs, ys, xs[i]'(by omega), ys[i]'(by omega), q.1, q.2, List.getElem?_eq_getElem _, List.getElem?_eq_getElem _⟩, fun _ q => ⟨xs, ys, q.1, q.2, by omega⟩, ?_⟩
  rintro i H v H' _ q ⟨T, x, z, h1, h2, h3, h4, h5⟩
  exact ⟨T, x, z, h1, h2, h3, h4 xs q.1, h5 ys q.2⟩
theorem pi_or {X : Cx} {tg e : Expr} {t1 t2 : TI} (h1 : PI X tg e t1) (h2 : PI X tg e t2) : PI X tg e (fun σ H R => t1 σ H R ∨ t2 σ H R) :=
  ⟨fun pins s σ H R I h => h.elim (h1.run pins s σ H R I) (h2.run pins s σ H R I)⟩
theorem Same.sqT {K : PySem.W.Frag} {H H' : Hp} (h : Same H H') {a : Addr} {xs : List V} (q : SqT K H a xs) : SqT K H' a xs := by
  rcases q with (q | ⟨o, q⟩) | q
  · exact .inl (.inl (h _ _ q))
  · exact .inl (.inr ⟨o, h _ _ q⟩)
  · exact .inr q
theorem Same.sqL {K : PySem.W.Frag} {H H' : Hp} (h : Same H H') {a : Addr} {xs : List V} (q : SqL K H a xs) : SqL K H' a xs := by
  rcases q with (q | ⟨o, q⟩) | q
  · exact .inl (.inl (h _ _ q))
  · exact .inl (.inr ⟨o, h _ _ q⟩)
  · exact .inr q
/-- columns, a tuple of pairs of a name and a kind -/
def ColsT (K : PySem.W.Frag) (H : Hp) (cols : Addr) (cs : List (Str × Str)) : Prop :=
  ∃ as : List Addr, SqT K H cols (as.map V.ref) ∧ as.length = cs.length ∧ ∀ (i : Nat) (a : Addr) (c : Str × Str), as[i]? = some a → cs[i]? = some c → SqT K H a [.str c.1, .str c.2]
section
variable {P : Program} {w : World} {K : PySem.W.Frag} {mg : Str → Option Value} {base : Heap}
theorem ColsT.same {H H' : Hp} {cols : Addr} {cs : List (Str × Str)} (C : ColsT K H cols cs) (h : Same H H') : ColsT K H' cols cs := by
  obtain ⟨as, h1, h2, h3⟩ := C
  exact ⟨as, Same.sqT h h1, h2, fun i a c e1 e2 => Same.sqT h (h3 i a c e1 e2)⟩
theorem ThAt.same {H H' : Hp} (h : Same H H') : ∀ {v : V} {t : Th}, ThAt K H v t → ThAt K H' v t
  | _, .none, q => q
  | _, .text _, q => q
  | _, .lst, ⟨a, xs, e, q⟩ => ⟨a, xs, e, Same.sqL h q⟩
  | _, .tup _, ⟨a, e, q, f⟩ => ⟨a, e, Same.sqT h q, f⟩
/-! ### is_row -/
def spIsRow (K : PySem.W.Frag) : Sp := fun vs H Q _ => ∃ (v : V) (t : Th) (cols : Addr) (cs : List (Str × Str)), vs = [v, .ref cols] ∧ ThAt K H v t ∧ ColsT K H cols cs ∧ cs.length < 64 ∧ ∀ H', Same H H' → Q (.bl (rowB (cs.map (·.2)) t)) H'
abbrev N_isrow : List Str := ["thing", "columns", "value", "column"]
theorem sc_isrow : FnScope N_isrow ["thing", "columns"] (defScope sIsRow) := ⟨rfl, rfl, rfl, by decide +kernel, rfl, by decide +kernel, by decide +kernel⟩
theorem rowB_len {cs : List Str} {xs : List V} (h : xs.length ≠ cs.length) : rowB cs (.tup xs) = false := by
  show (decide (xs.length = cs.length) && _) = false
  rw [decide_eq_false h]
  rfl
theorem rowB_all {cs : List Str} {xs : List V} (h : xs.length = cs.length) : rowB cs (.tup xs) = (((xs.zip cs).map fun p => okV p.2 p.1).all id) := by
  show (decide (xs.length = cs.length) && _) = _
  rw [decide_eq_true h, Bool.true_and, List.all_map]
  rfl
theorem ok_isrow {f : Addr} {fd : FuncData} (F : Fun K "is_row" "is_row" sIsRow f fd) (m_isinstance : mg "isinstance" = none) (m_tuple : mg "tuple" = none) (m_len : mg "len" = none) (m_all : mg "all" = none) (m_zip : mg "zip" = none)
    (G_is_of_kind : Ready P w K mg base 1 "is_of_kind" ["thing", "kind"] spOfKind) : FnOk P w K mg base CX0 2 f fd ["thing", "columns"] (spIsRow K) := by
  refine F.ok sc_isrow (fun vs H Q E h => ?_) (fun cdv A outer s H vs Q E hr h => ?_)
  · obtain ⟨v, t, cols, cs, rfl, _⟩ := h
    rfl
  obtain ⟨v, t, cols, cs, rfl, hv, C, h64, q⟩ := h
  have nd := sc_isrow.nd
  refine ⟨_, pss_cons (ps_if (PW.pt (pw_or (pt_not (pt_val (pe_callB call_isi (by rfl) m_isinstance PyProof.Rows.boot_isinstance (pa_cons (pv 0) (pa_cons (pe_bltn (v := .ty "tuple") (by rfl) m_tuple PyProof.Rows.boot_tuple rfl) pa_nil))))) (pw_or1 (pt_cmpR op_ne (pe_callB call_len_seq (by rfl) m_len PySem.boot_len (pa_cons (pv 0) pa_nil)) (pe_callB call_len_seq (by rfl) m_len PySem.boot_len (pa_cons (pv 1) pa_nil)) (nomark _))))) (pss_one (ps_ret pe_bl)) (pss_nil))
      (pss_one (ps_ret (pe_callB (cr_all rfl) (by rfl) m_all PyProof.Rows.boot_all (pa_cons (pe_lc (own := [("value", 2), ("column", 3)]) (g := (gTup K 2 (gCons (gName 2) (gCons (gName 3) gNil)))) (tt := tYes) (te := tCall spOfKind [] E0 (tCons (tVar 2) (tCons (tOp (rIxT K) (tVar 3) (tC (.int 1))) tNil))) rfl nd (RZ.pi_zipA rfl m_zip (pa_cons (pv 0) (pa_cons (pv 1) pa_nil))) (blkOk_by (N := N_isrow) (sc := defScope sIsRow) (by decide +kernel)) (fun _ _ _ _ _ => pg_tup rfl (pgs_cons (pg_name (i := 2) nd rfl (.inl rfl)) (pgs_cons (pg_name (i := 3) nd rfl (.inl rfl)) pgs_nil))) (fun _ _ _ _ _ => pts_nil) (fun _ _ _ _ _ => (pe_fn (G_is_of_kind) (hr.mono (by decide)) (pa_cons (pv 2) (pa_cons (pe_ix ix_tup (pv 3) pe_int (fun _ _ => rfl)) pa_nil))))) pa_nil)))), ?_⟩
  cases t with
  | none =>
    cases hv
    exact ⟨_, rfl, _, _, _, _, false, rfl, .ty _, .base .non, kit_ty (by decide +kernel : kitB "NoneType" "tuple" = some false), _, rfl, q _ (Same.refl _)⟩
  | text x =>
    cases hv
    exact ⟨_, rfl, _, _, _, _, false, rfl, .ty _, .base (.str x), kit_ty (by decide +kernel : kitB "str" "tuple" = some false), _, rfl, q _ (Same.refl _)⟩
  | lst =>
    obtain ⟨a, xs, rfl, h⟩ := hv
    exact ⟨_, rfl, _, _, _, _, false, rfl, .ty _, ty_lst h, kit_ty (by decide +kernel : kitB "list" "tuple" = some false), _, rfl, q _ (Same.refl _)⟩
  | tup xs =>
    obtain ⟨a, rfl, h, fl⟩ := hv
    obtain ⟨as, c1, c2, c3⟩ := C
    refine ⟨_, rfl, _, _, _, _, true, rfl, .ty _, ty_tup h, kit_ty (by decide +kernel : kitB "tuple" "tuple" = some true), _, rfl, _, rfl, a, xs, rfl, .inr h, _, rfl, cols, _, rfl, .inr c1, rfl, _, rfl, ite2 (fun c => ?_) (fun c => ?_)⟩
    · have ne : xs.length ≠ cs.length := fun z => by
        rw [List.length_map, c2, z] at c
        exact absurd c (by simp)
      have q' := q H (Same.refl _)
      rw [rowB_len (by rw [List.length_map]; exact ne)] at q'
      exact q'
    have len : xs.length = cs.length := by
      by_cases z : xs.length = cs.length
      · exact z
      · refine absurd ?_ c
        show (!decide (V.int (xs.length : Nat) = V.int ((as.map V.ref).length : Nat))) = true
        rw [List.length_map, c2, decide_eq_false fun e => z (by injection e with e; omega)]
        rfl
    have eb := rowB_all (cs := cs.map (·.2)) (xs := xs) (by rw [List.length_map]; exact len)
    rw [eb] at q
    have lz : (xs.zip (cs.map (·.2))).length = xs.length := by
      rw [List.length_zip, List.length_map, len, Nat.min_self]
    generalize hbs : ((xs.zip (cs.map (·.2))).map fun p => okV p.2 p.1) = bs at q
    have lb : bs.length = xs.length := by
      rw [← hbs, List.length_map, lz]
    refine ⟨_, rfl, _, rfl, a, cols, xs, _, rfl, .inr ⟨h, c1, fun D hD => ?_⟩⟩
    refine lc_it (walk_zipT (n := xs.length) (by rw [List.length_map, c2, len, Nat.min_self])) (fun i H' => Same H H' ∧ H' D = some (.lst ((bs.take i).map V.bl))) ⟨same_upd hD, upd_same⟩ (fun i H' _ z => ⟨Same.sqT z.1 h, Same.sqT z.1 c1⟩) ?_ ?_
    · rintro i v H2 H3 hi ⟨sm, eD⟩ ⟨T, x, y, rfl, nT, rfl, ex, ey⟩
      replace ex : xs[i]? = some x := ex
      replace ey : (as.map V.ref)[i]? = some y := ey
      rw [List.getElem?_map] at ey
      obtain ⟨ac, eac, rfl⟩ := Option.map_eq_some_iff.mp ey
      have s3 := same_upd (o := .tup [x, .ref ac]) nT
      have hc : i < cs.length := by omega
      have ecs : cs[i]? = some cs[i] := List.getElem?_eq_getElem hc
      have col := Same.sqT s3 (Same.sqT sm (c3 i ac _ eac ecs))
      have hb : i < bs.length := by omega
      have eb2 : bs[i] = okV (cs[i]).2 x := by
        have e1 : bs[i]? = some (okV (cs[i]).2 x) := by
          rw [← hbs, List.getElem?_map, show (xs.zip (cs.map (·.2)))[i]? = some (x, (cs[i]).2) from List.getElem?_zip_eq_some.mpr ⟨ex, by rw [List.getElem?_map, ecs] <;> rfl⟩] <;> rfl
        rw [List.getElem?_eq_getElem hb] at e1
        exact Option.some.inj e1
      refine ⟨T, _, rfl, SqT.of upd_same, rfl, _, _, rfl, _, _, rfl, rfl, rfl, _, rfl, _, rfl, ac, _, 1, _, rfl, rfl, col, rfl, x, (cs[i]).2, rfl, fl x (List.mem_of_getElem? ex), ?_⟩
      refine ⟨_, s3 _ _ eD, Nat.lt_of_lt_of_le (show ((bs.take i).map V.bl).length < 64 by rw [List.length_map, List.length_take]; omega) (by decide), fun b o e => ?_, ?_⟩
      · rw [upd_ne (ne_of_none e hD)]
        exact s3 _ _ (sm _ _ e)
      · rw [upd_same, List.take_succ_eq_append_getElem hb, eb2, List.map_append]
        rfl
    · rintro H2 ⟨sm, eD⟩
      rw [List.take_of_length_le (by omega)] at eD
      exact ⟨D, bs, rfl, SqL.of eD, q _ sm⟩
end
end Kx

namespace Kx
open PySem PySem.Spec PyProof.Rows L2
section
variable {P : Program} {w : World} {K : PySem.W.Frag} {mg : Str → Option Value} {base : Heap}
/-- a list or a tuple of things -/
def ThsAt (K : PySem.W.Frag) (H : Hp) (a : Addr) (ts : List Th) : Prop := ∃ xs : List V, (SqL K H a xs ∨ SqT K H a xs) ∧ xs.length = ts.length ∧ ∀ (i : Nat) (x : V) (t : Th), xs[i]? = some x → ts[i]? = some t → ThAt K H x t
theorem ThsAt.same {H H' : Hp} {a : Addr} {ts : List Th} (T : ThsAt K H a ts) (h : Same H H') : ThsAt K H' a ts := by
  obtain ⟨xs, h1, h2, h3⟩ := T
  exact ⟨xs, h1.elim (fun z => .inl (Same.sqL h z)) (fun z => .inr (Same.sqT h z)), h2, fun i x t e1 e2 => ThAt.same h (h3 i x t e1 e2)⟩
theorem kit_two {K : PySem.W.Frag} {t : Value} (h : PySem.W.kitOne K t (.type "list") = some true ∨ (PySem.W.kitOne K t (.type "list") = some false ∧ PySem.W.kitOne K t (.type "tuple") = some true)) : PySem.W.kitAny K t [.type "list", .type "tuple"] = some true := by
  unfold PySem.W.kitAny
  rcases h with h | ⟨h, h2⟩
  · rw [h]
  · rw [h]
    show PySem.W.kitAny K t [.type "tuple"] = some true
    unfold PySem.W.kitAny
    rw [h2]
def spAreRows (K : PySem.W.Frag) : Sp := fun vs H Q _ => ∃ (a : Addr) (ts : List Th) (cols : Addr) (cs : List (Str × Str)), vs = [.ref a, .ref cols] ∧ ThsAt K H a ts ∧ ts.length < 64 ∧ ColsT K H cols cs ∧ cs.length < 64 ∧ ∀ H', Same H H' → Q (.bl (ts.all (rowB (cs.map (·.2))))) H'
abbrev N_arerows : List Str := ["thing", "columns", "row"]
theorem sc_arerows : FnScope N_arerows ["thing", "columns"] (defScope sAreRows) := ⟨rfl, rfl, rfl, by decide +kernel, rfl, by decide +kernel, by decide +kernel⟩
theorem ok_arerows {f : Addr} {fd : FuncData} (F : Fun K "are_rows" "are_rows" sAreRows f fd) (m_isinstance : mg "isinstance" = none) (m_tuple : mg "tuple" = none) (m_list : mg "list" = none) (m_all : mg "all" = none)
    (G_is_row : Ready P w K mg base 2 "is_row" ["thing", "columns"] (spIsRow K)) : FnOk P w K mg base CX0 3 f fd ["thing", "columns"] (spAreRows K) := by
  refine F.ok sc_arerows (fun vs H Q E h => ?_) (fun cdv A outer s H vs Q E hr h => ?_)
  · obtain ⟨a, ts, cols, cs, rfl, _⟩ := h
    rfl
  obtain ⟨a, ts, cols, cs, rfl, ⟨xs, hS, hl, ht⟩, h64, C, c64, q⟩ := h
  have nd := sc_arerows.nd
  refine ⟨_, pss_one (ps_ret (pe_and (pe_callB call_isiT (by rfl) m_isinstance PyProof.Rows.boot_isinstance (pa_cons (pv 0) (pa_cons (pe_tup (pa_cons (pe_bltn (v := .ty "list") (by rfl) m_list PyProof.Rows.boot_list rfl) (pa_cons (pe_bltn (v := .ty "tuple") (by rfl) m_tuple PyProof.Rows.boot_tuple rfl) pa_nil))) pa_nil))) (pe_one (pe_callB (cr_all rfl) (by rfl) m_all PyProof.Rows.boot_all (pa_cons (pe_lc (own := [("row", 2)]) (g := gName 2) (tt := tYes) rfl nd (pi_or (pi_list (pv 0)) (pi_tup (pv 0))) (blkOk_by (N := N_arerows) (sc := defScope sAreRows) (by decide +kernel)) (fun _ _ _ _ _ => pg_name (i := 2) nd rfl (Or.inl rfl)) (fun _ _ _ _ _ => pts_nil) (fun _ _ _ _ _ => (pe_fn (G_is_row) (hr.mono (by decide)) (pa_cons (pv 2) (pa_cons (pv 1) pa_nil))))) pa_nil))))), ?_⟩
  have z2 : 2 ≤ sizeLine := by decide
  refine ⟨_, rfl, z2, fun p hp => ?_⟩
  have s1 := same_upd (o := .tup [.ty "list", .ty "tuple"]) hp
  generalize hbs : ts.map (rowB (cs.map (·.2))) = bs
  have qb : ts.all (rowB (cs.map (·.2))) = bs.all id := by
    rw [← hbs, List.all_map]
    rfl
  rw [qb] at q
  have lb : bs.length = ts.length := by rw [← hbs, List.length_map]
  have ty : ∃ T, TyX K (upd H p (.tup [.ty "list", .ty "tuple"])) (.ref a) (.type T) ∧ PySem.W.kitAny K (.type T) [.type "list", .type "tuple"] = some true := by
    rcases hS with h | h
    · exact ⟨"list", ty_lst (Same.sqL s1 h), kit_two (.inl (kit_ty (by decide +kernel)))⟩
    · exact ⟨"tuple", ty_tup (Same.sqT s1 h), kit_two (.inr ⟨kit_ty (by decide +kernel), kit_ty (by decide +kernel)⟩)⟩
  obtain ⟨T, tT, kT⟩ := ty
  refine ⟨.ref a, p, [.ty "list", .ty "tuple"], .type T, [.type "list", .type "tuple"], true, rfl, upd_same, .cons (.ty _) (.cons (.ty _) .nil), tT, kT, _, rfl, ?_⟩
  -- one turn of the walk
  have step : ∀ (D : Addr), (upd H p (.tup [.ty "list", .ty "tuple"])) D = none → ∀ (i : Nat) (x : V) (H2 : Hp), i < xs.length → xs[i]? = some x → Same H H2 → H2 D = some (.lst ((bs.take i).map V.bl)) →
      spIsRow K [x, .ref cols] H2 (fun y H4 => ∃ acc, H4 D = some (.lst acc) ∧ acc.length < sizeLine ∧ (Same H (upd H4 D (.lst (acc ++ [y]))) ∧ (upd H4 D (.lst (acc ++ [y]))) D = some (.lst ((bs.take (i + 1)).map V.bl)))) E0 := by
    intro D hD i x H2 hi ex sm eD
    have hit : i < ts.length := by omega
    have et : ts[i]? = some ts[i] := List.getElem?_eq_getElem hit
    have hb : i < bs.length := by omega
    have eb : bs[i] = rowB (cs.map (·.2)) ts[i] := by
      have e1 : bs[i]? = some (rowB (cs.map (·.2)) ts[i]) := by
        rw [← hbs, List.getElem?_map, et] <;> rfl
      rw [List.getElem?_eq_getElem hb] at e1
      exact Option.some.inj e1
    refine ⟨x, ts[i], cols, cs, rfl, ThAt.same sm (ht i x _ ex et), C.same sm, c64, fun H4 s4 => ⟨_, s4 _ _ eD, Nat.lt_of_lt_of_le (show ((bs.take i).map V.bl).length < 64 by rw [List.length_map, List.length_take]; omega) (by decide), fun b o e => ?_, ?_⟩⟩
    · rw [upd_ne (ne_of_none (s1 _ _ e) hD)]
      exact s4 _ _ (sm _ _ e)
    · rw [upd_same, List.take_succ_eq_append_getElem hb, eb, List.map_append]
      rfl
  have fin : ∀ (D : Addr) (H2 : Hp), Same H H2 ∧ H2 D = some (.lst ((bs.take xs.length).map V.bl)) → rAll K [.ref D] H2 Q := by
    rintro D H2 ⟨sm, eD⟩
    rw [List.take_of_length_le (by omega)] at eD
    exact ⟨D, bs, rfl, SqL.of eD, q _ sm⟩
  rcases hS with h | h
  · refine .inl ⟨_, rfl, a, rfl, ⟨_, Same.sqL s1 h⟩, fun D hD => lc_list (K := K) (xs := xs) (fun i H' => Same H H' ∧ H' D = some (.lst ((bs.take i).map V.bl))) ⟨s1.trans (same_upd hD), upd_same⟩ (fun i H' _ z => Same.sqL z.1 h) ?_ (fin D)⟩
    rintro i x H2 ex ⟨sm, eD⟩
    exact ⟨rfl, _, rfl, _, rfl, step D hD i x H2 (List.getElem?_eq_some_iff.mp ex).1 ex sm eD⟩
  · refine .inr ⟨_, rfl, a, rfl, ⟨_, Same.sqT s1 h⟩, fun D hD => lc_tup (K := K) (xs := xs) (fun i H' => Same H H' ∧ H' D = some (.lst ((bs.take i).map V.bl))) ⟨s1.trans (same_upd hD), upd_same⟩ (fun i H' _ z => Same.sqT z.1 h) ?_ (fin D)⟩
    rintro i x H2 ex ⟨sm, eD⟩
    exact ⟨rfl, _, rfl, _, rfl, step D hD i x H2 (List.getElem?_eq_some_iff.mp ex).1 ex sm eD⟩
end
end Kx

namespace Kx
open PySem PySem.Spec PyProof.Rows L2
abbrev sUnlike : Stmt := topS 20
abbrev sRead : Stmt := topS 21
abbrev sUnion : Stmt := topS 27
abbrev sCols : Stmt := topS 31
theorem nodup_len : ∀ {M ks : List L2.Key}, M.Nodup → (∀ z ∈ M, z ∈ ks) → M.length ≤ ks.length
  | [], _, _, _ => Nat.zero_le _
  | x :: M, ks, hn, hs => by
    have hn' := List.nodup_cons.mp hn
    obtain ⟨u, t, rfl⟩ := List.append_of_mem (hs x List.mem_cons_self)
    have h1 : M.length ≤ (u ++ t).length := nodup_len hn'.2 fun z hz => by
      have h2 := List.mem_append.mp (hs z (List.mem_cons_of_mem _ hz))
      rcases h2 with h2 | h2
      · exact List.mem_append_left _ h2
      rcases List.mem_cons.mp h2 with e | h2
      · rw [e] at hz
        exact absurd hz hn'.1
      · exact List.mem_append_right _ h2
    rw [List.length_append] at h1
    rw [List.length_append, List.length_cons, List.length_cons]
    omega
section
variable {X : Cx}
/-- len of a set of ints and texts -/
def rLenK (P : Program) (w : World) : List V → Hp → VK → Prop := fun vs H Q => ∃ (a : Addr) (L : List L2.Key), vs = [.ref a] ∧ H a = some (Yk.SetKO P w a L) ∧ Q (.int (L.length : Nat)) H
theorem cr_lenK : CallR X (.builtin "len") (rLenK X.prog X.w) := by
  intro pins s σ H vs us Q I r h
  obtain ⟨a, L, rfl, ha, q⟩ := h
  rw [Vals.ref1 r]
  obtain ⟨o, es, ep, t, ho, hex, hd, _, eL, _, hb, hf, _⟩ := Yk.setKO_get I ha
  have len : L.length = es.size := by
    rw [eL, List.length_map, Array.length_toList]
  have hb2 : es.size < 2 ^ 63 := Nat.lt_of_lt_of_le hb (by decide)
  exact call_len_set ho hex hd hf (by omega) ⟨.int (L.length : Nat), H, I.tok _, ⟨_, by rw [len]⟩, q⟩
end
section
variable {P : Program} {w : World} {K : PySem.W.Frag} {mg : Str → Option Value} {base : Heap}
/-! ### unlike_columns, columns_of_read, columns_of_union -/
def spUnlike (K : PySem.W.Frag) : Sp := fun vs H Q _ => ∃ (name : V) (cols : Addr) (cs : List (Str × Str)), vs = [name, .ref cols] ∧ ColsT K H cols cs ∧ cs.length < 64 ∧ (cs.map (·.1)).Nodup ∧ ∀ H', Same H H' → Q (.ref cols) H'
abbrev N_unlike : List Str := ["name", "columns", "words", "column", "_"]
theorem sc_unlike : FnScope N_unlike ["name", "columns"] (defScope sUnlike) := ⟨rfl, rfl, rfl, by decide +kernel, rfl, by decide +kernel, by decide +kernel⟩
theorem ok_unlike {f : Addr} {fd : FuncData} (F : Fun K "unlike_columns" "unlike_columns" sUnlike f fd) (m_len : mg "len" = none) (m_set : mg "set" = none) (m_tuple : mg "tuple" = none) : FnOk P w K mg base CX0 1 f fd ["name", "columns"] (spUnlike K) := by
  refine F.ok sc_unlike (fun vs H Q E h => ?_) (fun cdv A outer s H vs Q E hr h => ?_)
  · obtain ⟨name, cols, cs, rfl, _⟩ := h
    rfl
  obtain ⟨name, cols, cs, rfl, ⟨as, c1, c2, c3⟩, h64, hnd, q⟩ := h
  have nd := sc_unlike.nd
  refine ⟨_, pss_cons (ps_setLc (i := 2) (own := [("column", 3), ("_", 4)]) (g := (gTup K 2 (gCons (gName 3) (gCons (gName 4) gNil)))) (tt := tYes) rfl nd rfl rfl (sw_true rfl rfl rfl (by decide +kernel)) (pi_tup (pv 1)) (blkOk_by (N := N_unlike) (sc := defScope sUnlike) (by decide +kernel)) (fun _ _ _ _ _ => pg_tup rfl (pgs_cons (pg_name (i := 3) nd rfl (.inl rfl)) (pgs_cons (pg_name (i := 4) nd rfl (.inl rfl)) pgs_nil))) (fun _ _ _ _ _ => pts_nil) (fun _ _ _ _ _ => (pv 3)))
      (pss_cons (ps_if (pt_cmpR op_ne (pe_callB cr_lenK (by rfl) m_len PySem.boot_len (pa_cons (pe_callTy (Yk.cr_setK rfl) (by rfl) m_set PyProof.Rows.boot_set (pa_cons (pv 2) pa_nil)) pa_nil)) (pe_callB call_len_seq (by rfl) m_len PySem.boot_len (pa_cons (pv 2) pa_nil)) (nomark _)) (pss_one ps_never) (pss_nil))
      (pss_one (ps_ret (pe_callTy call_tuple_of (by rfl) m_tuple PyProof.Rows.boot_tuple (pa_cons (pv 1) pa_nil))))), ?_⟩
  have len : (as.map V.ref).length = cs.length := by rw [List.length_map, c2]
  refine ⟨_, rfl, cols, rfl, ⟨_, c1⟩, fun D hD => lc_tup (K := K) (xs := as.map V.ref) (fun i H' => Same H H' ∧ H' D = some (.lst (((cs.map fun c => (Sum.inr c.1 : L2.Key)).take i).map kV))) ⟨same_upd hD, upd_same⟩ (fun i H' _ z => Same.sqT z.1 c1) ?_ ?_⟩
  · rintro i x H2 hx ⟨sm, eD⟩
    rw [List.getElem?_map] at hx
    obtain ⟨a, ea, rfl⟩ := Option.map_eq_some_iff.mp hx
    have hi : i < cs.length := by
      have := (List.getElem?_eq_some_iff.mp ea).1
      omega
    have ec : cs[i]? = some cs[i] := List.getElem?_eq_getElem hi
    have hk : i < (cs.map fun c => (Sum.inr c.1 : L2.Key)).length := by rw [List.length_map]; exact hi
    refine ⟨a, _, rfl, Same.sqT sm (c3 i a _ ea ec), rfl, _, _, rfl, _, _, rfl, rfl, rfl, _, rfl, _, eD, Nat.lt_of_lt_of_le (show (((cs.map fun c => (Sum.inr c.1 : L2.Key)).take i).map kV).length < 64 by rw [List.length_map, List.length_take, List.length_map]; omega) (by decide), fun b o e => ?_, ?_⟩
    · rw [upd_ne (ne_of_none e hD)]
      exact sm _ _ e
    · rw [upd_same, List.take_succ_eq_append_getElem hk, List.map_append, List.getElem_map]
      rfl
  · rintro H2 ⟨sm, eD⟩
    rw [List.take_of_length_le (by rw [List.length_map, len]; exact Nat.le_refl _)] at eD
    refine ⟨_, rfl, D, _, rfl, .inl (SqL.of eD), by rw [List.length_map]; omega, fun p M nM mM np => ?_⟩
    have s3 := same_upd (o := Yk.SetKO P w p M) np
    refine ⟨p, M, rfl, upd_same, ?_⟩
    refine ⟨_, rfl, D, _, rfl, .inl (SqL.of (s3 _ _ eD)), rfl, _, rfl, ?_⟩
    have nk : (cs.map fun c => (Sum.inr c.1 : L2.Key)).Nodup := by
      have z := List.pairwise_map.mp hnd
      refine List.pairwise_map.mpr (z.imp fun {a b} ne e => ne (Sum.inr.inj e))
    have lM : M.length = ((cs.map fun c => (Sum.inr c.1 : L2.Key)).map kV).length := by
      rw [List.length_map]
      exact Nat.le_antisymm (nodup_len nM fun z hz => (mM z).mp hz) (nodup_len nk fun z hz => (mM z).mpr hz)
    refine ite2 (fun c => absurd c ?_) (fun _ => ?_)
    · rw [lM]
      simp
    · exact ⟨_, rfl, cols, _, rfl, .inr ⟨Same.sqT (sm.trans s3) c1, q _ (sm.trans s3)⟩⟩
def spRead (K : PySem.W.Frag) : Sp := fun vs H Q _ => ∃ (name g : V) (cols : Addr) (cs : List (Str × Str)), vs = [name, g, .ref cols] ∧ ColsT K H cols cs ∧ cs.length < 64 ∧ (cs.map (·.1)).Nodup ∧ ∀ H', Same H H' → Q (.ref cols) H'
theorem sc_read : FnScope ["name", "given", "details"] ["name", "given", "details"] (defScope sRead) := ⟨rfl, rfl, rfl, by decide +kernel, rfl, by decide +kernel, by decide +kernel⟩
theorem ok_read {f : Addr} {fd : FuncData} (F : Fun K "columns_of_read" "columns_of_read" sRead f fd) (G_unlike_columns : Ready P w K mg base 1 "unlike_columns" ["name", "columns"] (spUnlike K)) : FnOk P w K mg base CX0 2 f fd ["name", "given", "details"] (spRead K) := by
  refine F.ok sc_read (fun vs H Q E h => ?_) (fun cdv A outer s H vs Q E hr h => ?_)
  · obtain ⟨name, g, cols, cs, rfl, _⟩ := h
    rfl
  obtain ⟨name, g, cols, cs, rfl, C, h64, hnd, q⟩ := h
  refine ⟨_, pss_one (ps_ret (pe_fn (G_unlike_columns) (hr.mono (by decide)) (pa_cons (pv 0) (pa_cons (pv 2) pa_nil)))), ?_⟩
  exact ⟨_, rfl, _, rfl, name, cols, cs, rfl, C, h64, hnd, q⟩
/-- columns as data -/
def datC (cs : List (Str × Str)) : PyData := .tuple (cs.map fun c => .tuple [.str c.1, .str c.2])
theorem dp_cols {H : Hp} : ∀ {as : List Addr} {cs : List (Str × Str)}, as.length = cs.length → (∀ (i : Nat) (a : Addr) (c : Str × Str), as[i]? = some a → cs[i]? = some c → SqT K H a [.str c.1, .str c.2]) → DpAll K H (as.map V.ref) (cs.map fun c => .tuple [.str c.1, .str c.2])
  | [], [], _, _ => .nil
  | a :: as, c :: cs, e, h => .cons (.tup (h 0 a c rfl rfl) (.cons (.str _) (.cons (.str _) .nil))) (dp_cols (by simpa using e) fun i a' c' h1 h2 => h (i + 1) a' c' h1 h2)
theorem ColsT.dp {H : Hp} {cols : Addr} {cs : List (Str × Str)} (C : ColsT K H cols cs) : Dp K H (.ref cols) (datC cs) := by
  obtain ⟨as, c1, c2, c3⟩ := C
  exact .tup c1 (dp_cols c2 c3)
def spUnion (K : PySem.W.Frag) : Sp := fun vs H Q _ => ∃ (name d : V) (g c1 c2 : Addr) (cs : List (Str × Str)), vs = [name, .ref g, d] ∧ SqL K H g [.ref c1, .ref c2] ∧ ColsT K H c1 cs ∧ ColsT K H c2 cs ∧ SeqAt.shaped (datC cs) = true ∧ Q (.ref c1) H
theorem sc_union : FnScope ["name", "given", "details"] ["name", "given", "details"] (defScope sUnion) := ⟨rfl, rfl, rfl, by decide +kernel, rfl, by decide +kernel, by decide +kernel⟩
theorem ok_union {f : Addr} {fd : FuncData} (F : Fun K "columns_of_union" "columns_of_union" sUnion f fd) : FnOk P w K mg base CX0 2 f fd ["name", "given", "details"] (spUnion K) := by
  refine F.ok sc_union (fun vs H Q E h => ?_) (fun cdv A outer s H vs Q E hr h => ?_)
  · obtain ⟨name, d, g, c1, c2, cs, rfl, _⟩ := h
    rfl
  obtain ⟨name, d, g, c1, c2, cs, rfl, hg, C1, C2, sh, q⟩ := h
  have hu64 : _ + 64 < cLine := hr.units
  refine ⟨_, pss_cons (ps_if (pt_cmpR (op_neD hu64) (pe_ix ix_list (pv 1) pe_int (fun _ _ => rfl)) (pe_ix ix_list (pv 1) pe_int (fun _ _ => rfl)) (nomark _)) (pss_one ps_never) (pss_nil))
      (pss_one (ps_ret (pe_ix ix_list (pv 1) pe_int (fun _ _ => rfl)))), ?_⟩
  refine ⟨_, rfl, g, _, 0, _, rfl, rfl, hg, rfl, _, rfl, g, _, 1, _, rfl, rfl, hg, rfl, datC cs, datC cs, C1.dp, C2.dp, sh, sh, _, rfl, ?_⟩
  have e : PyData.eqv (datC cs) (datC cs) = true := SeqAt.eqv_refl _ (SeqAt.canLay_of_shaped sh)
  refine ite2 (fun c => ?_) (fun _ => ⟨_, rfl, g, _, 0, _, rfl, rfl, hg, rfl, q⟩)
  rw [e] at c
  cases c
end
end Kx

namespace Kx
open PySem PySem.Spec PyProof.Rows L2
section
variable {P : Program} {w : World} {K : PySem.W.Frag} {mg : Str → Option Value} {base : Heap}
/-- the law's job: b and a are read, c is their union -/
structure JobIs (K : PySem.W.Frag) (H : Hp) (job cols steps s1 s2 s3 e1 e2 e3 in3 : Addr) : Prop where
  job : SqT K H job [.ref steps, .str "c"]
  steps : SqT K H steps [.ref s1, .ref s2, .ref s3]
  s1 : SqT K H s1 [.str "b", .str "read", .ref e1, .ref cols]
  s2 : SqT K H s2 [.str "a", .str "read", .ref e2, .ref cols]
  s3 : SqT K H s3 [.str "c", .str "union", .ref in3, .ref e3]
  e1 : SqT K H e1 []
  e2 : SqT K H e2 []
  in3 : SqT K H in3 [.str "a", .str "b"]
theorem JobIs.same {H H' : Hp} {job cols steps s1 s2 s3 e1 e2 e3 in3 : Addr} (J : JobIs K H job cols steps s1 s2 s3 e1 e2 e3 in3) (h : Same H H') : JobIs K H' job cols steps s1 s2 s3 e1 e2 e3 in3 :=
  ⟨Same.sqT h J.job, Same.sqT h J.steps, Same.sqT h J.s1, Same.sqT h J.s2, Same.sqT h J.s3, Same.sqT h J.e1, Same.sqT h J.e2, Same.sqT h J.in3⟩
def cs2 : List (Str × Str) := [("k", "int"), ("t", "text")]
theorem cs2_nodup : (cs2.map (·.1)).Nodup := by decide +kernel
theorem cs2_shaped : SeqAt.shaped (datC cs2) = true := by decide +kernel
/-- what is told of the columns -/
def kvC (cols : Addr) : Nat → List (L2.Key × V)
  | 0 => []
  | 1 => [(.inr "b", .ref cols)]
  | 2 => [(.inr "b", .ref cols), (.inr "a", .ref cols)]
  | _ => [(.inr "b", .ref cols), (.inr "a", .ref cols), (.inr "c", .ref cols)]
theorem ba : ("b" : Str) ≠ "a" := by decide +kernel
theorem bc : ("b" : Str) ≠ "c" := by decide +kernel
theorem ac : ("a" : Str) ≠ "c" := by decide +kernel
theorem kv0 (cols : Addr) : valV (kvC cols 0) (.inr "b") = none := rfl
theorem kv1 (cols : Addr) : valV (kvC cols 1) (.inr "a") = none := by simp [valV, kvC, ba]
theorem kv2 (cols : Addr) : valV (kvC cols 2) (.inr "c") = none := by simp [valV, kvC, bc, ac]
theorem kv2a (cols : Addr) : valV (kvC cols 2) (.inr "a") = some (.ref cols) := by simp [valV, kvC, ba]
theorem kv2b (cols : Addr) : valV (kvC cols 2) (.inr "b") = some (.ref cols) := by simp [valV, kvC]
theorem kv3c (cols : Addr) : valV (kvC cols 3) (.inr "c") = some (.ref cols) := by simp [valV, kvC, bc, ac]
theorem kp0 (cols : Addr) : putK (kvC cols 0) (.inr "b") (.ref cols) = kvC cols 1 := rfl
theorem kp1 (cols : Addr) : putK (kvC cols 1) (.inr "a") (.ref cols) = kvC cols 2 := by simp [putK, kvC, ba]
theorem kp2 (cols : Addr) : putK (kvC cols 2) (.inr "c") (.ref cols) = kvC cols 3 := by simp [putK, kvC, bc, ac]
/-- the table of the checkers, as far as it is read -/
def Checkers (P : Program) (w : World) (K : PySem.W.Frag) (mg : Str → Option Value) (base : Heap) : Prop :=
  ∃ dl f1 f2 : Addr, mg "CHECKERS" = some (.ref dl) ∧ KDct K w dl "read" (.ref f1) ∧ KDct K w dl "union" (.ref f2) ∧ C8.CalAt P w K mg base 2 f1 (spRead K) ∧ C8.CalAt P w K mg base 2 f2 (spUnion K)
def spCols (K : PySem.W.Frag) : Sp := fun vs H Q _ => ∃ (job cols steps s1 s2 s3 e1 e2 e3 in3 : Addr), vs = [.ref job] ∧ JobIs K H job cols steps s1 s2 s3 e1 e2 e3 in3 ∧ ColsT K H cols cs2 ∧ ∀ T H', Same H H' → H' T = some (.dK (kvC cols 3)) → Q (.ref T) H'
abbrev N_cols : List Str := ["job", "steps", "answer", "told", "name", "what", "inputs", "details", "source", "columns_of_what"]
theorem sc_cols : FnScope N_cols ["job"] (defScope sCols) := ⟨rfl, rfl, rfl, by decide +kernel, rfl, by decide +kernel, by decide +kernel⟩
set_option maxHeartbeats 16000000 in
theorem ok_cols {f : Addr} {fd : FuncData} (F : Fun K "columns_of" "columns_of" sCols f fd) (CK : Checkers P w K mg base) : FnOk P w K mg base CX0 3 f fd ["job"] (spCols K) := by
  refine F.ok sc_cols (fun vs H Q E h => ?_) (fun cdv A outer s H vs Q E hr h => ?_)
  · obtain ⟨job, cols, steps, s1, s2, s3, e1, e2, e3, in3, rfl, _⟩ := h
    rfl
  obtain ⟨job, cols, steps, s1, s2, s3, e1, e2, e3, in3, rfl, J, C, q⟩ := h
  obtain ⟨dl, f1, f2, m_ck, k1, k2, cal1, cal2⟩ := CK
  have nd := sc_cols.nd
  have hu := hu_of hr
  refine ⟨_, pss_cons (ps_asg (pv 0) (pg_tup rfl (pgs_cons (pg_name (i := 1) nd rfl (.inl rfl)) (pgs_cons (pg_name (i := 2) nd rfl (.inl rfl)) pgs_nil))))
      (pss_cons (ps_set (i := 3) nd rfl (.inr rfl) pe_dnewK)
      (pss_cons (ps_for PassesOwn.never rfl (pi_tup (pv 1)) (pg_tup rfl (pgs_cons (pg_name (i := 4) nd rfl (.inl rfl)) (pgs_cons (pg_name (i := 5) nd rfl (.inl rfl)) (pgs_cons (pg_name (i := 6) nd rfl (.inl rfl)) (pgs_cons (pg_name (i := 7) nd rfl (.inl rfl)) pgs_nil))))) (pss_cons (ps_if (pt_cmp (pc_din hu (pv 4) (pv 3)) rfl) (pss_one ps_never) (pss_nil))
      (pss_cons (ps_for PassesOwn.never rfl (pi_tup (pv 6)) (pg_name (i := 8) nd rfl (.inl rfl)) (pss_one (ps_if (pt_cmp (pc_dnotin hu (pv 8) (pv 3)) rfl) (pss_one ps_never) (pss_nil))))
      (pss_cons (ps_set (i := 9) nd rfl (.inl rfl) (pe_ix ix_kdict (pe_glob (v := .ref dl) rfl m_ck rfl) (pv 5) (fun _ _ => rfl)))
      (pss_one (ps_dput hu (pv 3) (pv 4) (C8.pe_cv (i := 9) cal1 cal2 hr (by decide) (by decide) rfl (.inl rfl) (pa_cons (pv 4) (pa_cons (pe_lc (own := [("source", 8)]) (g := gName 8) (tt := tYes) rfl nd (pi_tup (pv 6)) (blkOk_by (N := N_cols) (sc := defScope sCols) (by decide +kernel)) (fun _ _ _ _ _ => pg_name (i := 8) nd rfl (Or.inl rfl)) (fun _ _ _ _ _ => pts_nil) (fun _ _ _ _ _ => (pe_dget hu (pv 3) (pv 8) (fun _ _ => rfl)))) (pa_cons (pv 7) pa_nil)))) rfl))))))
      (pss_cons (ps_if (pt_cmp (pc_dnotin hu (pv 2) (pv 3)) rfl) (pss_one ps_never) (pss_nil))
      (pss_one (ps_ret (pv 3)))))), ?_⟩
  refine ⟨_, rfl, job, _, rfl, J.job, rfl, _, _, rfl, _, _, rfl, rfl, fun T nT => ?_⟩
  have s0 := same_upd (o := .dK []) nT
  have keepT : ∀ {H2 : Hp} {o : HO}, Same H H2 → Same H (upd H2 T o) := fun sm b o e => by
    rw [upd_ne (ne_of_none e nT)]
    exact sm _ _ e
  refine ⟨_, rfl, steps, rfl, ⟨_, Same.sqT s0 J.steps⟩, for_tup (K := K) (xs := [.ref s1, .ref s2, .ref s3]) (fun i σ H' => ∃ y4 y5 y6 y7 y8 y9, σ = [some (.ref job), some (.ref steps), some (.str "c"), some (.ref T), y4, y5, y6, y7, y8, y9] ∧ Same H H' ∧ H' T = some (.dK (kvC cols i)))
    ⟨none, none, none, none, none, none, rfl, s0, upd_same⟩ (fun i σ H' _ ⟨_, _, _, _, _, _, _, sm, _⟩ => Same.sqT sm J.steps) ?_ ?_⟩
  · rintro i x σ H' hx ⟨y4, y5, y6, y7, y8, y9, rfl, sm, eT⟩
    match i, hx with
    | 0, hx =>
      cases hx
      refine ⟨s1, _, rfl, Same.sqT sm J.s1, rfl, _, _, rfl, _, _, rfl, _, _, rfl, _, _, rfl, rfl, ?_⟩
      refine ⟨_, rfl, _, rfl, T, _, rfl, DGet.k (k := Sum.inr "b") eT, _, rfl, ?_⟩
      rw [kv0]
      refine iteF ⟨_, rfl, e1, rfl, ⟨_, Same.sqT sm J.e1⟩, for_tup (K := K) (xs := []) (fun i σ H2 => i = 0 ∧ H' = H2 ∧ σ = [some (.ref job), some (.ref steps), some (.str "c"), some (.ref T), some (.str "b"), some (.str "read"), some (.ref e1), some (.ref cols), y8, y9]) ⟨rfl, rfl, rfl⟩ (fun i σ H2 _ z => by rw [← z.2.1]; exact Same.sqT sm J.e1) (fun i x σ H2 ex _ => by cases ex) ?_⟩
      rintro σ H2 ⟨_, hH, rfl⟩
      subst hH
      refine ⟨_, rfl, dl, _, _, rfl, rfl, k1, ?_⟩
      refine .inl ⟨rfl, _, rfl, _, rfl, e1, rfl, ⟨_, Same.sqT sm J.e1⟩, fun D nD => lc_tup (K := K) (xs := []) (fun i H3 => i = 0 ∧ H3 = upd H' D (.lst [])) ⟨rfl, rfl⟩ (fun i H3 _ z => by rw [z.2]; exact Same.sqT (same_upd nD) (Same.sqT sm J.e1)) (fun i x H3 ex _ => by cases ex) ?_⟩
      rintro H3 ⟨_, rfl⟩
      have s4 := same_upd (o := .lst []) nD
      refine ⟨_, rfl, _, _, cols, cs2, rfl, (C.same sm).same s4, by decide, cs2_nodup, fun H4 s5 => ?_⟩
      refine ⟨_, rfl, _, rfl, T, _, rfl, DPut.k (k := Sum.inr "b") (s5 _ _ (s4 _ _ eT)) (by show 0 < sizeLine; decide), ?_⟩
      rw [kp0]
      exact ⟨_, _, _, _, _, _, rfl, keepT (sm.trans (s4.trans s5)), upd_same⟩
    | 1, hx =>
      cases hx
      refine ⟨s2, _, rfl, Same.sqT sm J.s2, rfl, _, _, rfl, _, _, rfl, _, _, rfl, _, _, rfl, rfl, ?_⟩
      refine ⟨_, rfl, _, rfl, T, _, rfl, DGet.k (k := Sum.inr "a") eT, _, rfl, ?_⟩
      rw [kv1]
      refine iteF ⟨_, rfl, e2, rfl, ⟨_, Same.sqT sm J.e2⟩, for_tup (K := K) (xs := []) (fun i σ H2 => i = 0 ∧ H' = H2 ∧ σ = [some (.ref job), some (.ref steps), some (.str "c"), some (.ref T), some (.str "a"), some (.str "read"), some (.ref e2), some (.ref cols), y8, y9]) ⟨rfl, rfl, rfl⟩ (fun i σ H2 _ z => by rw [← z.2.1]; exact Same.sqT sm J.e2) (fun i x σ H2 ex _ => by cases ex) ?_⟩
      rintro σ H2 ⟨_, hH, rfl⟩
      subst hH
      refine ⟨_, rfl, dl, _, _, rfl, rfl, k1, ?_⟩
      refine .inl ⟨rfl, _, rfl, _, rfl, e2, rfl, ⟨_, Same.sqT sm J.e2⟩, fun D nD => lc_tup (K := K) (xs := []) (fun i H3 => i = 0 ∧ H3 = upd H' D (.lst [])) ⟨rfl, rfl⟩ (fun i H3 _ z => by rw [z.2]; exact Same.sqT (same_upd nD) (Same.sqT sm J.e2)) (fun i x H3 ex _ => by cases ex) ?_⟩
      rintro H3 ⟨_, rfl⟩
      have s4 := same_upd (o := .lst []) nD
      refine ⟨_, rfl, _, _, cols, cs2, rfl, (C.same sm).same s4, by decide, cs2_nodup, fun H4 s5 => ?_⟩
      refine ⟨_, rfl, _, rfl, T, _, rfl, DPut.k (k := Sum.inr "a") (s5 _ _ (s4 _ _ eT)) (by show 1 < sizeLine; decide), ?_⟩
      rw [kp1]
      exact ⟨_, _, _, _, _, _, rfl, keepT (sm.trans (s4.trans s5)), upd_same⟩
    | 2, hx =>
      cases hx
      refine ⟨s3, _, rfl, Same.sqT sm J.s3, rfl, _, _, rfl, _, _, rfl, _, _, rfl, _, _, rfl, rfl, ?_⟩
      refine ⟨_, rfl, _, rfl, T, _, rfl, DGet.k (k := Sum.inr "c") eT, _, rfl, ?_⟩
      rw [kv2]
      refine iteF ⟨_, rfl, in3, rfl, ⟨_, Same.sqT sm J.in3⟩, for_tup (K := K) (xs := [.str "a", .str "b"]) (fun i σ H2 => ∃ y8, H' = H2 ∧ σ = [some (.ref job), some (.ref steps), some (.str "c"), some (.ref T), some (.str "c"), some (.str "union"), some (.ref in3), some (.ref e3), y8, y9]) ⟨_, rfl, rfl⟩ (fun i σ H2 _ z => by obtain ⟨_, e, _⟩ := z; rw [← e]; exact Same.sqT sm J.in3) ?_ ?_⟩
      · rintro j x σ H2 ex ⟨y8, hH, rfl⟩
        subst hH
        match j, ex with
        | 0, ex =>
          cases ex
          refine ⟨_, rfl, _, rfl, T, _, rfl, DGet.k (k := Sum.inr "a") eT, _, rfl, ?_⟩
          rw [kv2a]
          exact iteF ⟨_, rfl, rfl⟩
        | 1, ex =>
          cases ex
          refine ⟨_, rfl, _, rfl, T, _, rfl, DGet.k (k := Sum.inr "b") eT, _, rfl, ?_⟩
          rw [kv2b]
          exact iteF ⟨_, rfl, rfl⟩
        | j + 2, ex => cases ex
      rintro σ H2 ⟨y8, hH, rfl⟩
      subst hH
      refine ⟨_, rfl, dl, _, _, rfl, rfl, k2, ?_⟩
      refine .inr ⟨rfl, _, rfl, _, rfl, in3, rfl, ⟨_, Same.sqT sm J.in3⟩, fun D nD => lc_tup (K := K) (xs := [.str "a", .str "b"]) (fun i H3 => Same H' H3 ∧ H3 D = some (.lst (List.replicate i (.ref cols)))) ⟨same_upd nD, upd_same⟩ (fun i H3 _ z => Same.sqT z.1 (Same.sqT sm J.in3)) ?_ ?_⟩
      · rintro j x H3 ex ⟨s3', eD⟩
        have nx : ∀ {o : HO}, Same H' (upd H3 D o) := fun b o e => by
          rw [upd_ne (ne_of_none e nD)]
          exact s3' _ _ e
        match j, ex with
        | 0, ex =>
          cases ex
          have g : DGet H3 T (.str "a") (some (.ref cols)) := kv2a cols ▸ DGet.k (k := Sum.inr "a") (s3' _ _ eT)
          exact ⟨rfl, _, rfl, _, rfl, T, _, rfl, g, _, eD, by show 0 < sizeLine; decide, nx, upd_same⟩
        | 1, ex =>
          cases ex
          have g : DGet H3 T (.str "b") (some (.ref cols)) := kv2b cols ▸ DGet.k (k := Sum.inr "b") (s3' _ _ eT)
          exact ⟨rfl, _, rfl, _, rfl, T, _, rfl, g, _, eD, by show 1 < sizeLine; decide, nx, upd_same⟩
        | j + 2, ex => cases ex
      rintro H3 ⟨s4, eD⟩
      have C3 := (C.same sm).same s4
      refine ⟨_, rfl, .str "c", .ref e3, D, cols, cols, cs2, rfl, SqL.of eD, C3, C3, cs2_shaped, ?_⟩
      refine ⟨_, rfl, _, rfl, T, _, rfl, DPut.k (k := Sum.inr "c") (s4 _ _ eT) (by show 2 < sizeLine; decide), ?_⟩
      rw [kp2]
      exact ⟨_, _, _, _, _, _, rfl, keepT (sm.trans s4), upd_same⟩
    | i + 3, hx => cases hx
  · rintro σ H' ⟨y4, y5, y6, y7, y8, y9, rfl, sm, eT⟩
    refine ⟨_, rfl, _, rfl, T, _, rfl, DGet.k (k := Sum.inr "c") eT, _, rfl, ?_⟩
    have e3' : valV (kvC cols [V.ref s1, V.ref s2, V.ref s3].length) (.inr "c") = some (.ref cols) := kv3c cols
    rw [e3']
    exact iteF ⟨_, rfl, q T H' sm eT⟩
end
end Kx

namespace Kx
open PySem PySem.Spec PyProof.Rows L2
abbrev sPlaces : Stmt := topS 40
abbrev sStep : Stmt := topS 57
section
variable {P : Program} {w : World} {K : PySem.W.Frag} {mg : Str → Option Value} {base : Heap}
/-! ### places_of -/
def plc (cs : List (Str × Str)) : Nat → List (L2.Key × V)
  | 0 => []
  | i + 1 => match cs[i]? with
    | some c => putK (plc cs i) (.inr c.1) (.int (i : Nat))
    | none => plc cs i
theorem putK_len {kvs : List (L2.Key × V)} {k : L2.Key} {v : V} : (putK kvs k v).length ≤ kvs.length + 1 := by
  unfold putK
  split
  · rw [List.length_map]
    exact Nat.le_succ _
  · rw [List.length_append]
    exact Nat.le_refl _
theorem plc_len (cs : List (Str × Str)) : ∀ i, (plc cs i).length ≤ i
  | 0 => Nat.le_refl _
  | i + 1 => by
    have ih := plc_len cs i
    unfold plc
    split
    · exact Nat.le_trans putK_len (Nat.succ_le_succ ih)
    · exact Nat.le_succ_of_le ih
def spPlaces (K : PySem.W.Frag) : Sp := fun vs H Q _ => ∃ (cols : Addr) (cs : List (Str × Str)), vs = [.ref cols] ∧ ColsT K H cols cs ∧ cs.length < 64 ∧ ∀ D H', Same H H' → H' D = some (.dK (plc cs cs.length)) → Q (.ref D) H'
abbrev N_places : List Str := ["columns", "at", "column"]
theorem sc_places : FnScope N_places ["columns"] (defScope sPlaces) := ⟨rfl, rfl, rfl, by decide +kernel, rfl, by decide +kernel, by decide +kernel⟩
theorem ok_places {f : Addr} {fd : FuncData} (F : Fun K "places_of" "places_of" sPlaces f fd) (m_enumerate : mg "enumerate" = none) : FnOk P w K mg base CX0 1 f fd ["columns"] (spPlaces K) := by
  refine F.ok sc_places (fun vs H Q E h => ?_) (fun cdv A outer s H vs Q E hr h => ?_)
  · obtain ⟨cols, cs, rfl, _⟩ := h
    rfl
  obtain ⟨cols, cs, rfl, ⟨as, c1, c2, c3⟩, h64, q⟩ := h
  have nd := sc_places.nd
  refine ⟨_, pss_one (ps_ret (pe_dc (own := [("at", 1), ("column", 2)]) (g := (gTup K 2 (gCons (gName 1) (gCons (gName 2) gNil)))) (tt := tYes) (tk := tOp (rIxT K) (tVar 2) (tC (.int 0))) (tv := tVar 1) rfl nd (Dk.pi_enumT rfl m_enumerate (pa_cons (pv 0) pa_nil)) (blkOk_by (N := N_places) (sc := defScope sPlaces) (by decide +kernel)) (fun _ _ _ _ _ => pg_tup rfl (pgs_cons (pg_name (i := 1) nd rfl (.inl rfl)) (pgs_cons (pg_name (i := 2) nd rfl (.inl rfl)) pgs_nil))) (fun _ _ _ _ _ => pts_nil) (fun _ _ _ _ _ => (pe_ix ix_tup (pv 2) pe_int (fun _ _ => rfl))) (fun _ _ _ _ _ => (pv 1)))), ?_⟩
  have len : (as.map V.ref).length = cs.length := by rw [List.length_map, c2]
  refine ⟨_, rfl, cols, _, rfl, c1, fun D nD => ?_⟩
  have W := Dk.walk_enumT (K := K) (a := cols) (xs := as.map V.ref)
  rw [len] at W
  refine ⟨fun i m H' => m = cs.length - i ∧ i ≤ cs.length ∧ Same H H' ∧ H' D = some (.dK (plc cs i)), ⟨_, rfl, Nat.zero_le _, same_upd nD, upd_same⟩, ?_⟩
  rintro i m H' ⟨rfl, hi, sm, eD⟩
  have cq : SqT K H' cols (as.map V.ref) := Same.sqT sm c1
  by_cases hlt : i < cs.length
  · refine .inr ⟨W.goes i H' hlt cq, fun H2 => Same H H2 ∧ H2 D = some (.dK (plc cs (i + 1))), fun H2 z => ⟨cs.length - (i + 1), by omega, rfl, hlt, z⟩, fun x H2 y => ?_⟩
    obtain ⟨T, x1, x2, rfl, nT, rfl, e1, e2⟩ := W.yields i H' x H2 hlt cq y
    replace e1 : some (V.int (i : Nat)) = some x1 := e1
    replace e2 : (as.map V.ref)[i]? = some x2 := e2
    cases e1
    rw [List.getElem?_map] at e2
    obtain ⟨a, ea, rfl⟩ := Option.map_eq_some_iff.mp e2
    have ec : cs[i]? = some cs[i] := List.getElem?_eq_getElem hlt
    have s3 := same_upd (o := .tup [.int (i : Nat), .ref a]) nT
    refine ⟨T, _, rfl, SqT.of upd_same, rfl, _, _, rfl, _, _, rfl, rfl, rfl, _, rfl, a, _, 0, _, rfl, rfl, Same.sqT s3 (Same.sqT sm (c3 i a _ ea ec)), rfl, _, rfl, plc cs i, .inr (cs[i]).1, rfl, s3 _ _ eD, Nat.lt_of_le_of_lt (plc_len cs i) (Nat.lt_of_lt_of_le (show i < 64 by omega) (by decide)), fun b o e => ?_, ?_⟩
    · rw [upd_ne (ne_of_none e nD)]
      exact s3 _ _ (sm _ _ e)
    · rw [upd_same]
      have : plc cs (i + 1) = putK (plc cs i) (.inr (cs[i]).1) (.int (i : Nat)) := by
        show (match cs[i]? with | some c => putK (plc cs i) (.inr c.1) (.int (i : Nat)) | none => plc cs i) = _
        rw [ec]
      rw [this]
  · have e : i = cs.length := by omega
    subst e
    exact .inl ⟨W.stops H' cq, q D H' sm eD⟩
/-! ### step_rows, the union -/
def Sq (K : PySem.W.Frag) (H : Hp) (a : Addr) (xs : List V) : Prop := SqL K H a xs ∨ SqT K H a xs
theorem Sq.same {H H' : Hp} {a : Addr} {xs : List V} (s : Sq K H a xs) (h : Same H H') : Sq K H' a xs := s.elim (fun z => .inl (Same.sqL h z)) (fun z => .inr (Same.sqT h z))
def spStep (K : PySem.W.Frag) : Sp := fun vs H Q _ => ∃ (d : V) (L CL r1 r2 cols : Addr) (rest : List V) (cs : List (Str × Str)) (xs ys : List V), vs = [.str "union", d, .ref L, .ref CL] ∧ SqL K H L [.ref r1, .ref r2] ∧ SqL K H CL (.ref cols :: rest) ∧ ColsT K H cols cs ∧ cs.length < 64 ∧ Sq K H r1 xs ∧ Sq K H r2 ys ∧ xs.length + ys.length < 64 ∧
  ∀ p H', Same H H' → H' p = some (.lst (xs ++ ys)) → Q (.ref p) H'
abbrev N_step : List Str := ["what", "details", "lists", "columns", "rows", "places"]
theorem sc_step : FnScope N_step ["what", "details", "lists", "columns"] (defScope sStep) := ⟨rfl, rfl, rfl, by decide +kernel, rfl, by decide +kernel, by decide +kernel⟩
theorem at0 {x : V} {xs : List V} : atI (x :: xs) 0 = some x := atI_nat (j := 0) rfl
theorem uq : decide (V.str "union" = V.str "filter") = false ∧ decide (V.str "union" = V.str "map") = false ∧ decide (V.str "union" = V.str "fold") = false ∧ decide (V.str "union" = V.str "join") = false := by decide +kernel
theorem ok_step {f : Addr} {fd : FuncData} (F : Fun K "step_rows" "step_rows" sStep f fd) (m_list : mg "list" = none) (G_places_of : Ready P w K mg base 1 "places_of" ["columns"] (spPlaces K)) : FnOk P w K mg base CX0 2 f fd ["what", "details", "lists", "columns"] (spStep K) := by
  refine F.ok sc_step (fun vs H Q E h => ?_) (fun cdv A outer s H vs Q E hr h => ?_)
  · obtain ⟨d, L, CL, r1, r2, cols, rest, cs, xs, ys, rfl, _⟩ := h
    rfl
  obtain ⟨d, L, CL, r1, r2, cols, rest, cs, xs, ys, rfl, hL, hC, C, c64, h1, h2, hl, q⟩ := h
  have nd := sc_step.nd
  refine ⟨_, pss_cons (ps_set (i := 4) nd rfl (.inl rfl) (pe_ix ix_list (pv 2) pe_int (fun _ _ => rfl)))
      (pss_cons (ps_set (i := 5) nd rfl (.inl rfl) (pe_fn (G_places_of) (hr.mono (by decide)) (pa_cons (pe_ix ix_list (pv 3) pe_int (fun _ _ => rfl)) pa_nil)))
      (pss_cons (ps_if (pt_cmpR op_eq (pv 0) pe_str (nomark _)) (pss_one ps_never) (pss_nil))
      (pss_cons (ps_if (pt_cmpR op_eq (pv 0) pe_str (nomark _)) (pss_one ps_never) (pss_nil))
      (pss_cons (ps_if (pt_cmpR op_eq (pv 0) pe_str (nomark _)) (pss_one ps_never) (pss_nil))
      (pss_cons (ps_if (pt_cmpR op_eq (pv 0) pe_str (nomark _)) (pss_one ps_never) (pss_nil))
      (pss_cons (ps_if (pt_cmpR op_eq (pv 0) pe_str (nomark _)) (pss_one (ps_ret (pe_op op_cat (pe_callTy call_list_of (by rfl) m_list PyProof.Rows.boot_list (pa_cons (pv 4) pa_nil)) (pe_callTy call_list_of (by rfl) m_list PyProof.Rows.boot_list (pa_cons (pe_ix ix_list (pv 2) pe_int (fun _ _ => rfl)) pa_nil))))) (pss_nil))
      pss_never)))))), ?_⟩
  refine ⟨_, rfl, L, _, 0, _, rfl, rfl, hL, at0, ?_⟩
  refine ⟨_, rfl, CL, _, 0, _, rfl, rfl, hC, at0, cols, cs, rfl, C, c64, fun D H1 s1 _ => ?_⟩
  refine ⟨_, rfl, rfl, _, rfl, ?_⟩
  rw [uq.1]
  refine iteF ⟨_, rfl, rfl, _, rfl, ?_⟩
  rw [uq.2.1]
  refine iteF ⟨_, rfl, rfl, _, rfl, ?_⟩
  rw [uq.2.2.1]
  refine iteF ⟨_, rfl, rfl, _, rfl, ?_⟩
  rw [uq.2.2.2]
  refine iteF ⟨_, rfl, rfl, _, rfl, ite2 (fun _ => ?_) (fun c => absurd (decide_eq_true rfl) c)⟩
  refine ⟨_, rfl, r1, xs, rfl, h1.same s1, fun l1 n1 => ?_⟩
  have s2 := s1.trans (same_upd (o := .lst xs) n1)
  refine ⟨_, rfl, L, _, 1, _, rfl, rfl, Same.sqL s2 hL, rfl, r2, ys, rfl, h2.same s2, fun l2 n2 => ?_⟩
  have s3 := same_upd (o := .lst ys) n2
  refine ⟨l1, l2, xs, ys, rfl, rfl, s3 _ _ upd_same, upd_same, Nat.le_trans (Nat.le_of_lt hl) (by decide), fun p np => q p _ (s2.trans (s3.trans (same_upd np))) upd_same⟩
end
end Kx

namespace Kx
open PySem PySem.Spec PyProof.Rows L2
abbrev sCheck : Stmt := topS 59
abbrev sMeaning : Stmt := topS 60
section
variable {P : Program} {w : World} {K : PySem.W.Frag} {mg : Str → Option Value} {base : Heap}
/-- the tables a and b -/
def kvT (ra rb : Addr) : List (L2.Key × V) := [(.inr "a", .ref ra), (.inr "b", .ref rb)]
theorem kvTa (ra rb : Addr) : valV (kvT ra rb) (.inr "a") = some (.ref ra) := by simp [valV, kvT]
theorem kvTb (ra rb : Addr) : valV (kvT ra rb) (.inr "b") = some (.ref rb) := by simp [valV, kvT, ba.symm]
def okT (ts : List Th) : Bool := ts.all (rowB (cs2.map (·.2)))
def spCheck (K : PySem.W.Frag) (C : Addr) : Sp := fun vs H Q E => ∃ (job cols steps s1 s2 s3 e1 e2 e3 in3 data ra rb : Addr) (tsA tsB : List Th), vs = [.ref job, .ref data] ∧ JobIs K H job cols steps s1 s2 s3 e1 e2 e3 in3 ∧ ColsT K H cols cs2 ∧ H data = some (.dK (kvT ra rb)) ∧
  ThsAt K H ra tsA ∧ ThsAt K H rb tsB ∧ tsA.length < 64 ∧ tsB.length < 64 ∧
  (okT tsB = false → ∀ d H', Same H H' → H' d = none → E (.ref C) (some d) (upd H' d (.xd [("thing", .str "b")]))) ∧ (okT tsB = true → okT tsA = false → ∀ d H', Same H H' → H' d = none → E (.ref C) (some d) (upd H' d (.xd [("thing", .str "a")]))) ∧
  (okT tsB = true → okT tsA = true → ∀ H', Same H H' → Q .non H')
abbrev N_check : List Str := ["job", "data", "name", "what", "_", "columns"]
theorem sc_check : FnScope N_check ["job", "data"] (defScope sCheck) := ⟨rfl, rfl, rfl, by decide +kernel, rfl, by decide +kernel, by decide +kernel⟩
theorem ur : decide (V.str "union" = V.str "read") = false := by decide +kernel
set_option maxHeartbeats 16000000 in
theorem ok_check {f C fI : Addr} {fd : FuncData} (F : Fun K "check_tables" "check_tables" sCheck f fd) (T : PySem.BadX.BadTxt K mg C fI) (G_are_rows : Ready P w K mg base 3 "are_rows" ["thing", "columns"] (spAreRows K)) :
    FnOk P w K mg base (L2.CX P w) 4 f fd ["job", "data"] (spCheck K C) := by
  refine F.okX sc_check (fun vs H Q E h => ?_) (fun cdv A outer s H vs Q E hr h => ?_)
  · obtain ⟨job, cols, steps, s1, s2, s3, e1, e2, e3, in3, data, ra, rb, tsA, tsB, rfl, _⟩ := h
    rfl
  obtain ⟨job, cols, steps, s1, s2, s3, e1, e2, e3, in3, data, ra, rb, tsA, tsB, rfl, J, C, hD, hA, hB, lA, lB, qb, qa, q⟩ := h
  have nd := sc_check.nd
  have hu := hu_of hr
  refine ⟨_, pss_one (ps_for (passes_of rfl) rfl (pi_tup (pe_ix ix_tup (pv 0) pe_int (fun _ _ => rfl))) (pg_tup rfl (pgs_cons (pg_name (i := 2) nd rfl (.inl rfl)) (pgs_cons (pg_name (i := 3) nd rfl (.inl rfl)) (pgs_cons (pg_name (i := 4) nd rfl (.inl rfl)) (pgs_cons (pg_name (i := 5) nd rfl (.inl rfl)) pgs_nil))))) (pss_one (ps_if (PW.pt (pw_and (pt_cmpR op_eq (pv 3) pe_str (nomark _)) (pw_and1 (pt_not (pt_val (pe_fn (G_are_rows) hr (pa_cons (pe_dget2 hu (pv 1) (pv 2) (pe_lst pa_nil) ⟨rfl, rfl, rfl, rfl⟩) (pa_cons (pv 5) pa_nil)))))))) (pss_one (ps_raiseBad rfl T (hr.mono (by decide : 1 ≤ 3)) (takes_of rfl rfl rfl rfl) (pa_cons (pv 2) pa_nil))) (pss_nil)))), ?_⟩
  refine ⟨_, rfl, job, _, 0, _, rfl, rfl, J.job, at0, steps, rfl, ⟨_, J.steps⟩, for_tup (K := K) (xs := [.ref s1, .ref s2, .ref s3]) (fun i σ H' => ∃ y2 y3 y4 y5, σ = [some (.ref job), some (.ref data), y2, y3, y4, y5] ∧ Same H H' ∧ (i = 0 ∨ okT tsB = true) ∧ (i ≤ 1 ∨ okT tsA = true))
    ⟨none, none, none, none, rfl, Same.refl _, .inl rfl, .inl (by decide)⟩ (fun i σ H' _ ⟨_, _, _, _, _, sm, _⟩ => Same.sqT sm J.steps) ?_ ?_⟩
  · rintro i x σ H' hx ⟨y2, y3, y4, y5, rfl, sm, wB, wA⟩
    match i, hx with
    | 0, hx =>
      cases hx
      refine ⟨s1, _, rfl, Same.sqT sm J.s1, rfl, _, _, rfl, _, _, rfl, _, _, rfl, _, _, rfl, rfl, ?_⟩
      refine ⟨_, rfl, rfl, _, rfl, ite2 (fun _ => ?_) (fun c => absurd (decide_eq_true rfl) c)⟩
      refine ⟨_, rfl, data, rfl, .inl ⟨_, .inl (sm _ _ hD)⟩, _, rfl, Nat.zero_le _, fun l nl => ?_⟩
      have s4 := same_upd (o := .lst []) nl
      have g := DGet.k (k := Sum.inr "b") (s4 _ _ (sm _ _ hD))
      rw [kvTb] at g
      refine ⟨_, g, _, rfl, rb, tsB, cols, cs2, rfl, (hB.same sm).same s4, lB, (C.same sm).same s4, by decide, fun H5 s5 => ⟨_, rfl, ?_⟩⟩
      have S5 := sm.trans (s4.trans s5)
      refine ite2 (fun c => ?_) (fun c => ?_)
      · have c' : okT tsB = false := by
          have z : (!okT tsB) = true := c
          cases e : okT tsB with
          | true =>
            rw [e] at z
            cases z
          | false => rfl
        exact ⟨_, rfl, _, rfl, fun d nd' => qb c' d H5 S5 nd'⟩
      · have c' : okT tsB = true := by
          cases e : okT tsB with
          | true => rfl
          | false =>
            refine absurd ?_ c
            show (!okT tsB) = true
            rw [e]
            rfl
        exact ⟨_, _, _, _, rfl, S5, .inr c', .inl (Nat.le_refl _)⟩
    | 1, hx =>
      cases hx
      refine ⟨s2, _, rfl, Same.sqT sm J.s2, rfl, _, _, rfl, _, _, rfl, _, _, rfl, _, _, rfl, rfl, ?_⟩
      refine ⟨_, rfl, rfl, _, rfl, ite2 (fun _ => ?_) (fun c => absurd (decide_eq_true rfl) c)⟩
      refine ⟨_, rfl, data, rfl, .inl ⟨_, .inl (sm _ _ hD)⟩, _, rfl, Nat.zero_le _, fun l nl => ?_⟩
      have s4 := same_upd (o := .lst []) nl
      have g := DGet.k (k := Sum.inr "a") (s4 _ _ (sm _ _ hD))
      rw [kvTa] at g
      refine ⟨_, g, _, rfl, ra, tsA, cols, cs2, rfl, (hA.same sm).same s4, lA, (C.same sm).same s4, by decide, fun H5 s5 => ⟨_, rfl, ?_⟩⟩
      have S5 := sm.trans (s4.trans s5)
      refine ite2 (fun c => ?_) (fun c => ?_)
      · have c' : okT tsA = false := by
          have z : (!okT tsA) = true := c
          cases e : okT tsA with
          | true =>
            rw [e] at z
            cases z
          | false => rfl
        exact ⟨_, rfl, _, rfl, fun d nd' => qa (wB.resolve_left (by decide)) c' d H5 S5 nd'⟩
      · have c' : okT tsA = true := by
          cases e : okT tsA with
          | true => rfl
          | false =>
            refine absurd ?_ c
            show (!okT tsA) = true
            rw [e]
            rfl
        exact ⟨_, _, _, _, rfl, S5, .inr (wB.resolve_left (by decide)), .inr c'⟩
    | 2, hx =>
      cases hx
      refine ⟨s3, _, rfl, Same.sqT sm J.s3, rfl, _, _, rfl, _, _, rfl, _, _, rfl, _, _, rfl, rfl, ?_⟩
      refine ⟨_, rfl, rfl, _, rfl, ?_⟩
      rw [ur]
      exact iteF ⟨_, _, _, _, rfl, sm, .inr (wB.resolve_left (by decide)), .inr (wA.resolve_left (by decide))⟩
    | i + 3, hx => cases hx
  · rintro σ H' ⟨y2, y3, y4, y5, rfl, sm, wB, wA⟩
    exact q (wB.resolve_left (by show ¬ 3 = 0; decide)) (wA.resolve_left (by show ¬ 3 ≤ 1; decide)) _ sm
end
end Kx

namespace Kx
open PySem PySem.Spec PyProof.Rows L2
section
variable {P : Program} {w : World} {K : PySem.W.Frag} {mg : Str → Option Value} {base : Heap}
/-- a def of the top that keeps a promise and may raise -/
structure ReadyX (P : Program) (w : World) (K : PySem.W.Frag) (mg : Str → Option Value) (base : Heap) (k : Nat) (x : Str) (ps : List Str) (sp : Sp) : Prop where
  ex : ∃ f fd, FnOk P w K mg base (L2.CX P w) k f fd ps sp ∧ Binds K fd ps [] ∧ mg x = some (.ref f) ∧ PySem.W.keepIn K (.ref f) = true
end
theorem pe_fnX {X : Cx} {W : WX} {k : Nat} {x : Str} {ps : List Str} {sp : Sp} {p pos : Pos} {e : Expr} {es : List Expr} {t : TA} (G : ReadyX X.prog X.w X.K X.mg X.base k x ps sp) (hr : Room k X.A) (tk : Takes X W) (ha : PA X (e :: es) t) (hg : Gl X x := by rfl)
    (hdb : (x == ("__debug__" : Str)) = false := by decide) (he : starEach (e :: es) X.env = (false, eval e X.env) :: starEach es X.env := by rfl) (hpl : (backTo pos (starEach es X.env)).any (·.1) = false := by rfl) :
    PE X (.Call (.Name x p) (e :: es) [] pos) (tCallS sp (WE W) t) := by
  obtain ⟨f, fd, h, hb, hm, hk⟩ := G.ex
  exact pe_callS h hr hg hm hk hb (fun σ => passAt tk σ) ha hdb he hpl
section
variable {P : Program} {w : World} {K : PySem.W.Frag} {mg : Str → Option Value} {base : Heap}
def shape2 (i : Nat) : Bool := i == 1
/-- a right row has an int and a text -/
theorem th_row {H : Hp} {v : V} {t : Th} (h : ThAt K H v t) (r : rowB (cs2.map (·.2)) t = true) : ∃ ks : List L2.Key, ∃ a, v = .ref a ∧ SqT K H a (ks.map kV) ∧ ks ≠ [] ∧ Dk.Shp shape2 0 ks := by
  cases t with
  | none => cases r
  | text x => cases r
  | lst => cases r
  | tup xs =>
    obtain ⟨a, rfl, hx, fl⟩ := h
    by_cases len : xs.length = 2
    · match xs, len with
      | [x, y], _ =>
        have r2 : (okV "int" x && okV "text" y) = true := (rb2 x y).symm.trans r
        obtain ⟨r3, r4⟩ := Bool.and_eq_true_iff.mp r2
        have fx := fl x (by simp)
        have fy := fl y (by simp)
        cases fx with
        | non => cases r3
        | bl b => cases r3
        | str z =>
          have : decide (V.str "int" = V.str "text") = true := r3
          rw [decide_eq_false (by decide +kernel)] at this
          cases this
        | int i =>
          cases fy with
          | non => cases r4
          | bl b => cases r4
          | int j =>
            have : okV "text" (.int j) = false := by
              unfold okV
              rw [decide_eq_true rfl]
              rfl
            rw [this] at r4
            cases r4
          | str z => exact ⟨[.inl i, .inr z], a, rfl, hx, by simp, rfl, rfl, trivial⟩
    · rw [rowB_len (cs := cs2.map (·.2)) (by exact len)] at r
      cases r
theorem ths_rows {H : Hp} {a : Addr} {ts : List Th} (T : ThsAt K H a ts) (r : okT ts = true) : ∃ xs, Sq K H a xs ∧ xs.length = ts.length ∧ ∀ x ∈ xs, ∃ ks : List L2.Key, ∃ a, x = .ref a ∧ SqT K H a (ks.map kV) ∧ ks ≠ [] ∧ Dk.Shp shape2 0 ks := by
  obtain ⟨xs, h1, h2, h3⟩ := T
  refine ⟨xs, h1, h2, fun x hx => ?_⟩
  obtain ⟨i, hi, rfl⟩ := List.getElem_of_mem hx
  have et : ts[i]? = some ts[i] := List.getElem?_eq_getElem (by omega)
  exact th_row (h3 i _ _ (List.getElem?_eq_getElem hi) et) (List.all_eq_true.mp r _ (List.getElem_mem _))
/-- what is found, step by step -/
def kvF (ra rb : Addr) : Nat → List (L2.Key × V)
  | 0 => []
  | 1 => [(.inr "b", .ref rb)]
  | _ => [(.inr "b", .ref rb), (.inr "a", .ref ra)]
def kvF3 (ra rb p : Addr) : List (L2.Key × V) := [(.inr "b", .ref rb), (.inr "a", .ref ra), (.inr "c", .ref p)]
theorem fp0 (ra rb : Addr) : putK (kvF ra rb 0) (.inr "b") (.ref rb) = kvF ra rb 1 := rfl
theorem fp1 (ra rb : Addr) : putK (kvF ra rb 1) (.inr "a") (.ref ra) = kvF ra rb 2 := by simp [putK, kvF, ba]
theorem fp2 (ra rb p : Addr) : putK (kvF ra rb 2) (.inr "c") (.ref p) = kvF3 ra rb p := by simp [putK, kvF, kvF3, bc, ac]
theorem fv2a (ra rb : Addr) : valV (kvF ra rb 2) (.inr "a") = some (.ref ra) := by simp [valV, kvF, ba]
theorem fv2b (ra rb : Addr) : valV (kvF ra rb 2) (.inr "b") = some (.ref rb) := by simp [valV, kvF]
theorem fv3 (ra rb p : Addr) : valV (kvF3 ra rb p) (.inr "c") = some (.ref p) := by simp [valV, kvF3, bc, ac]
theorem kv3a (cols : Addr) : valV (kvC cols 3) (.inr "a") = some (.ref cols) := by simp [valV, kvC, ba]
theorem kv3b (cols : Addr) : valV (kvC cols 3) (.inr "b") = some (.ref cols) := by simp [valV, kvC]
theorem sbc : decide (V.str "b" = V.str "c") = false ∧ decide (V.str "a" = V.str "c") = false ∧ decide (V.str "union" = V.str "sort") = false := by decide +kernel
def spMeaning (K : PySem.W.Frag) (C : Addr) : Sp := fun vs H Q E => ∃ (job cols steps s1 s2 s3 e1 e2 e3 in3 data ra rb : Addr) (tsA tsB : List Th), vs = [.ref job, .ref data] ∧ JobIs K H job cols steps s1 s2 s3 e1 e2 e3 in3 ∧ ColsT K H cols cs2 ∧ H data = some (.dK (kvT ra rb)) ∧
  ThsAt K H ra tsA ∧ ThsAt K H rb tsB ∧ tsA.length < 32 ∧ tsB.length < 32 ∧
  (okT tsB = false → ∀ d H', Same H H' → H' d = none → E (.ref C) (some d) (upd H' d (.xd [("thing", .str "b")]))) ∧ (okT tsB = true → okT tsA = false → ∀ d H', Same H H' → H' d = none → E (.ref C) (some d) (upd H' d (.xd [("thing", .str "a")]))) ∧
  (okT tsB = true → okT tsA = true → ∀ v H', Same H H' → Q v H')
abbrev N_meaning : List Str := ["job", "data", "steps", "answer", "columns", "found", "answer_what", "name", "what", "inputs", "details", "lists", "source"]
theorem sc_meaning : FnScope N_meaning ["job", "data"] (defScope sMeaning) := ⟨rfl, rfl, rfl, by decide +kernel, rfl, by decide +kernel, by decide +kernel⟩
set_option maxHeartbeats 16000000 in
theorem ok_meaning {f C : Addr} {fd : FuncData} (F : Fun K "meaning" "meaning" sMeaning f fd) (m_sorted : mg "sorted" = none) (G_columns_of : Ready P w K mg base 3 "columns_of" ["job"] (spCols K)) (G_check : ReadyX P w K mg base 4 "check_tables" ["job", "data"] (spCheck K C))
    (G_step_rows : Ready P w K mg base 2 "step_rows" ["what", "details", "lists", "columns"] (spStep K)) : FnOk P w K mg base (L2.CX P w) 5 f fd ["job", "data"] (spMeaning K C) := by
  refine F.okX sc_meaning (fun vs H Q E h => ?_) (fun cdv A outer s H vs Q E hr h => ?_)
  · obtain ⟨job, cols, steps, s1, s2, s3, e1, e2, e3, in3, data, ra, rb, tsA, tsB, rfl, _⟩ := h
    rfl
  obtain ⟨job, cols, steps, s1, s2, s3, e1, e2, e3, in3, data, ra, rb, tsA, tsB, rfl, J, C, hD, hA, hB, lA, lB, qb, qa, q⟩ := h
  have nd := sc_meaning.nd
  have hu := hu_of hr
  refine ⟨_, pss_cons (ps_asg (pv 0) (pg_tup rfl (pgs_cons (pg_name (i := 2) nd rfl (.inl rfl)) (pgs_cons (pg_name (i := 3) nd rfl (.inl rfl)) pgs_nil))))
      (pss_cons (ps_set (i := 4) nd rfl (.inr rfl) (pe_fn (G_columns_of) (hr.mono (by decide)) (pa_cons (pv 0) pa_nil)))
      (pss_cons (ps_expr (pe_fnX G_check hr (takes_of rfl rfl rfl rfl) (pa_cons (pv 0) (pa_cons (pv 1) pa_nil))))
      (pss_cons (ps_set (i := 5) nd rfl (.inr rfl) pe_dnewK)
      (pss_cons (ps_set (i := 6) nd rfl (.inl rfl) pe_non)
      (pss_cons (ps_for (passes_of rfl) rfl (pi_tup (pv 2)) (pg_tup rfl (pgs_cons (pg_name (i := 7) nd rfl (.inl rfl)) (pgs_cons (pg_name (i := 8) nd rfl (.inl rfl)) (pgs_cons (pg_name (i := 9) nd rfl (.inl rfl)) (pgs_cons (pg_name (i := 10) nd rfl (.inl rfl)) pgs_nil))))) (pss_cons (ps_if (pt_cmpR op_eq (pv 8) pe_str (nomark _)) (pss_one (ps_dput hu (pv 5) (pv 7) (pe_dget2 hu (pv 1) (pv 7) (pe_lst pa_nil) ⟨rfl, rfl, rfl, rfl⟩) rfl)) (pss_cons (ps_setLc (i := 11) (own := [("source", 12)]) (g := gName 12) (tt := tYes) rfl nd rfl rfl (sw_true rfl rfl rfl (by decide +kernel)) (pi_tup (pv 9)) (blkOk_by (N := N_meaning) (sc := defScope sMeaning) (by decide +kernel)) (fun _ _ _ _ _ => pg_name (i := 12) nd rfl (Or.inl rfl)) (fun _ _ _ _ _ => pts_nil) (fun _ _ _ _ _ => (pe_dget hu (pv 5) (pv 12) (fun _ _ => rfl))))
      (pss_one (ps_dput hu (pv 5) (pv 7) (pe_fn (G_step_rows) (hr.mono (by decide)) (pa_cons (pv 8) (pa_cons (pv 10) (pa_cons (pv 11) (pa_cons (pe_lc (own := [("source", 12)]) (g := gName 12) (tt := tYes) rfl nd (pi_tup (pv 9)) (blkOk_by (N := N_meaning) (sc := defScope sMeaning) (by decide +kernel)) (fun _ _ _ _ _ => pg_name (i := 12) nd rfl (Or.inl rfl)) (fun _ _ _ _ _ => pts_nil) (fun _ _ _ _ _ => (pe_dget hu (pv 4) (pv 12) (fun _ _ => rfl)))) pa_nil))))) rfl))))
      (pss_one (ps_if (pt_cmpR op_eq (pv 7) (pv 3) (nomark _)) (pss_one (ps_set (i := 6) nd rfl (.inl rfl) (pv 8))) (pss_nil)))))
      (pss_cons (ps_if (pt_cmpR op_eq (pv 6) pe_str (nomark _)) (pss_one ps_never) (pss_nil))
      (pss_one (ps_ret (pe_callB Dk.cr_sortR (by rfl) m_sorted boot_sorted (pa_cons (pe_dget hu (pv 5) (pv 3) (fun _ _ => rfl)) pa_nil)))))))))), ?_⟩
  refine ⟨_, rfl, job, _, rfl, J.job, rfl, _, _, rfl, _, _, rfl, rfl, ?_⟩
  refine ⟨_, rfl, job, cols, steps, s1, s2, s3, e1, e2, e3, in3, rfl, J, C, fun T H1 sm1 eT1 => ?_⟩
  refine ⟨_, rfl, _, rfl, job, cols, steps, s1, s2, s3, e1, e2, e3, in3, data, ra, rb, tsA, tsB, rfl, J.same sm1, C.same sm1, sm1 _ _ hD, hA.same sm1, hB.same sm1, by omega, by omega, fun z d H2 sm2 n2 => qb z d H2 (sm1.trans sm2) n2, fun z z2 d H2 sm2 n2 => qa z z2 d H2 (sm1.trans sm2) n2, fun okB okA H2 sm2 => ?_⟩
  have S2 := sm1.trans sm2
  have J2 := J.same S2
  have C2 := C.same S2
  have eT2 := sm2 _ _ eT1
  have hD2 := S2 _ _ hD
  obtain ⟨xA, sA, lenA, rowsA⟩ := ths_rows (hA.same S2) okA
  obtain ⟨xB, sB, lenB, rowsB⟩ := ths_rows (hB.same S2) okB
  intro F nF
  have s0 := same_upd (o := .dK []) nF
  have keepF : ∀ {H3 : Hp} {o : HO}, Same H2 H3 → Same H2 (upd H3 F o) := fun sm b o e => by
    rw [upd_ne (ne_of_none e nF)]
    exact sm _ _ e
  refine ⟨_, rfl, steps, rfl, ⟨_, Same.sqT s0 J2.steps⟩, for_tup (K := K) (xs := [.ref s1, .ref s2, .ref s3]) (fun i σ H' => ∃ y6 y7 y8 y9 y10 y11 y12, σ = [some (.ref job), some (.ref data), some (.ref steps), some (.str "c"), some (.ref T), some (.ref F), y6, y7, y8, y9, y10, y11, y12] ∧ Same H2 H' ∧
      ((i ≤ 2 ∧ H' F = some (.dK (kvF ra rb i)) ∧ y6 = some .non) ∨ (i = 3 ∧ ∃ p, H' F = some (.dK (kvF3 ra rb p)) ∧ H' p = some (.lst (xA ++ xB)) ∧ y6 = some (.str "union"))))
    ⟨_, none, none, none, none, none, none, rfl, s0, .inl ⟨by decide, upd_same, rfl⟩⟩ (fun i σ H' _ ⟨_, _, _, _, _, _, _, _, sm, _⟩ => Same.sqT sm J2.steps) ?_ ?_⟩
  · rintro i x σ H' hx ⟨y6, y7, y8, y9, y10, y11, y12, rfl, sm, w⟩
    match i, hx with
    | 0, hx =>
      cases hx
      obtain ⟨_, eF, rfl⟩ := w.resolve_right fun z => absurd z.1 (by decide)
      refine ⟨s1, _, rfl, Same.sqT sm J2.s1, rfl, _, _, rfl, _, _, rfl, _, _, rfl, _, _, rfl, rfl, ?_⟩
      refine ⟨_, rfl, rfl, _, rfl, ite2 (fun _ => ?_) (fun c => absurd (decide_eq_true rfl) c)⟩
      refine ⟨_, rfl, data, rfl, .inl ⟨_, .inl (sm _ _ hD2)⟩, _, rfl, Nat.zero_le _, fun l nl => ?_⟩
      have s4 := same_upd (o := .lst []) nl
      have g := DGet.k (k := Sum.inr "b") (s4 _ _ (sm _ _ hD2))
      rw [kvTb] at g
      have dp := DPut.k (k := Sum.inr "b") (v := .ref rb) (s4 _ _ eF) (by show 0 < sizeLine; decide)
      rw [fp0] at dp
      refine ⟨_, g, _, rfl, _, rfl, F, _, rfl, dp, ?_⟩
      refine ⟨_, rfl, _, rfl, rfl, _, rfl, ?_⟩
      rw [sbc.1]
      exact iteF ⟨_, _, _, _, _, _, _, rfl, keepF (sm.trans s4), .inl ⟨by decide, upd_same, rfl⟩⟩
    | 1, hx =>
      cases hx
      obtain ⟨_, eF, rfl⟩ := w.resolve_right fun z => absurd z.1 (by decide)
      refine ⟨s2, _, rfl, Same.sqT sm J2.s2, rfl, _, _, rfl, _, _, rfl, _, _, rfl, _, _, rfl, rfl, ?_⟩
      refine ⟨_, rfl, rfl, _, rfl, ite2 (fun _ => ?_) (fun c => absurd (decide_eq_true rfl) c)⟩
      refine ⟨_, rfl, data, rfl, .inl ⟨_, .inl (sm _ _ hD2)⟩, _, rfl, Nat.zero_le _, fun l nl => ?_⟩
      have s4 := same_upd (o := .lst []) nl
      have g := DGet.k (k := Sum.inr "a") (s4 _ _ (sm _ _ hD2))
      rw [kvTa] at g
      have dp := DPut.k (k := Sum.inr "a") (v := .ref ra) (s4 _ _ eF) (by show 1 < sizeLine; decide)
      rw [fp1] at dp
      refine ⟨_, g, _, rfl, _, rfl, F, _, rfl, dp, ?_⟩
      refine ⟨_, rfl, _, rfl, rfl, _, rfl, ?_⟩
      rw [sbc.2.1]
      exact iteF ⟨_, _, _, _, _, _, _, rfl, keepF (sm.trans s4), .inl ⟨by decide, upd_same, rfl⟩⟩
    | 2, hx =>
      cases hx
      obtain ⟨_, eF, rfl⟩ := w.resolve_right fun z => absurd z.1 (by decide)
      refine ⟨s3, _, rfl, Same.sqT sm J2.s3, rfl, _, _, rfl, _, _, rfl, _, _, rfl, _, _, rfl, rfl, ?_⟩
      refine ⟨_, rfl, rfl, _, rfl, ?_⟩
      rw [ur]
      refine iteF ⟨_, rfl, in3, rfl, ⟨_, Same.sqT sm J2.in3⟩, fun D nD => lc_tup (K := K) (xs := [.str "a", .str "b"]) (fun i H3 => Same H' H3 ∧ H3 D = some (.lst (([.ref ra, .ref rb] : List V).take i))) ⟨same_upd nD, upd_same⟩ (fun i H3 _ z => Same.sqT z.1 (Same.sqT sm J2.in3)) ?_ ?_⟩
      · rintro j x H3 ex ⟨s3', eD⟩
        have nx : ∀ {o : HO}, Same H' (upd H3 D o) := fun b o e => by
          rw [upd_ne (ne_of_none e nD)]
          exact s3' _ _ e
        match j, ex with
        | 0, ex =>
          cases ex
          have g : DGet H3 F (.str "a") (some (.ref ra)) := fv2a ra rb ▸ DGet.k (k := Sum.inr "a") (s3' _ _ eF)
          exact ⟨rfl, _, rfl, _, rfl, F, _, rfl, g, _, eD, by show 0 < sizeLine; decide, nx, upd_same⟩
        | 1, ex =>
          cases ex
          have g : DGet H3 F (.str "b") (some (.ref rb)) := fv2b ra rb ▸ DGet.k (k := Sum.inr "b") (s3' _ _ eF)
          exact ⟨rfl, _, rfl, _, rfl, F, _, rfl, g, _, eD, by show 1 < sizeLine; decide, nx, upd_same⟩
        | j + 2, ex => cases ex
      rintro H3 ⟨s4, eD⟩
      refine ⟨_, rfl, _, rfl, _, rfl, _, rfl, in3, rfl, ⟨_, Same.sqT s4 (Same.sqT sm J2.in3)⟩, fun D2 nD2 => lc_tup (K := K) (xs := [.str "a", .str "b"]) (fun i H4 => Same H3 H4 ∧ H4 D2 = some (.lst (List.replicate i (.ref cols)))) ⟨same_upd nD2, upd_same⟩ (fun i H4 _ z => Same.sqT z.1 (Same.sqT s4 (Same.sqT sm J2.in3))) ?_ ?_⟩
      · rintro j x H4 ex ⟨s5, eD2⟩
        have nx : ∀ {o : HO}, Same H3 (upd H4 D2 o) := fun b o e => by
          rw [upd_ne (ne_of_none e nD2)]
          exact s5 _ _ e
        match j, ex with
        | 0, ex =>
          cases ex
          have g : DGet H4 T (.str "a") (some (.ref cols)) := kv3a cols ▸ DGet.k (k := Sum.inr "a") (s5 _ _ (s4 _ _ (sm _ _ eT2)))
          exact ⟨rfl, _, rfl, _, rfl, T, _, rfl, g, _, eD2, by show 0 < sizeLine; decide, nx, upd_same⟩
        | 1, ex =>
          cases ex
          have g : DGet H4 T (.str "b") (some (.ref cols)) := kv3b cols ▸ DGet.k (k := Sum.inr "b") (s5 _ _ (s4 _ _ (sm _ _ eT2)))
          exact ⟨rfl, _, rfl, _, rfl, T, _, rfl, g, _, eD2, by show 1 < sizeLine; decide, nx, upd_same⟩
        | j + 2, ex => cases ex
      rintro H4 ⟨s5, eD2⟩
      have sh := s4.trans s5
      refine ⟨.ref e3, D, D2, ra, rb, cols, [.ref cols], cs2, xA, xB, rfl, SqL.of (s5 _ _ eD), SqL.of eD2, (C2.same sm).same sh, by decide, (sA.same sm).same sh, (sB.same sm).same sh, by omega, fun p H5 s6 ep => ?_⟩
      have s7 := sh.trans s6
      have dp := DPut.k (k := Sum.inr "c") (v := .ref p) (s7 _ _ eF) (by show 2 < sizeLine; decide)
      rw [fp2] at dp
      refine ⟨_, rfl, _, rfl, F, _, rfl, dp, ?_⟩
      refine ⟨_, rfl, _, rfl, rfl, _, rfl, ite2 (fun _ => ?_) (fun c => absurd (decide_eq_true rfl) c)⟩
      refine ⟨_, rfl, _, _, _, _, _, _, _, rfl, keepF (sm.trans s7), .inr ⟨rfl, p, upd_same, ?_, rfl⟩⟩
      rw [upd_ne (fun z => ?_)]
      · exact ep
      · rw [z, s7 _ _ eF] at ep
        cases ep
    | i + 3, hx => cases hx
  · rintro σ H' ⟨y6, y7, y8, y9, y10, y11, y12, rfl, sm, w⟩
    obtain ⟨_, p, eF, ep, rfl⟩ := w.resolve_left fun z => absurd z.1 (by show ¬ 3 ≤ 2; decide)
    refine ⟨_, rfl, rfl, _, rfl, ?_⟩
    rw [sbc.2.2]
    have g : DGet H' F (.str "c") (some (.ref p)) := fv3 ra rb p ▸ DGet.k (k := Sum.inr "c") eF
    refine iteF ⟨_, rfl, _, rfl, F, _, rfl, g, ?_⟩
    have rows : ∀ x ∈ xA ++ xB, ∃ ks : List L2.Key, ∃ a, x = .ref a ∧ SqT K H' a (ks.map kV) ∧ ks ≠ [] ∧ Dk.Shp shape2 0 ks := fun x hx => by
      rcases List.mem_append.mp hx with hx | hx
      · obtain ⟨ks, a, h1, h2, h3, h4⟩ := rowsA x hx
        exact ⟨ks, a, h1, Same.sqT sm h2, h3, h4⟩
      · obtain ⟨ks, a, h1, h2, h3, h4⟩ := rowsB x hx
        exact ⟨ks, a, h1, Same.sqT sm h2, h3, h4⟩
    have pick : ∀ x : V, ∃ ks : List L2.Key, x ∈ xA ++ xB → ∃ a, x = .ref a ∧ SqT K H' a (ks.map kV) ∧ ks ≠ [] ∧ Dk.Shp shape2 0 ks := fun x => by
      by_cases hx : x ∈ xA ++ xB
      · obtain ⟨ks, h⟩ := rows x hx
        exact ⟨ks, fun _ => h⟩
      · exact ⟨[], fun z => absurd z hx⟩
    obtain ⟨key, hkey⟩ := Classical.axiomOfChoice pick
    exact ⟨p, xA ++ xB, shape2, key, rfl, SqL.of ep, fun x hx => hkey x hx, fun ys p' _ _ np => q okB okA _ _ (S2.trans (sm.trans (same_upd np)))⟩
end
end Kx

namespace Kx
open PySem PySem.Spec PyProof.Rows L2
abbrev sTold : Stmt := topS 69
abbrev sSpoilt : Stmt := topS 67
section
variable {P : Program} {w : World} {K : PySem.W.Frag} {mg : Str → Option Value} {base : Heap}
/-! ### _law_told -/
def toldT (tsA tsB : List Th) : V := if okT tsB = false then .str "b" else if okT tsA = false then .str "a" else .non
def spTold (K : PySem.W.Frag) : Sp := fun vs H Q _ => ∃ (job cols steps s1 s2 s3 e1 e2 e3 in3 data ra rb : Addr) (tsA tsB : List Th), vs = [.ref job, .ref data] ∧ JobIs K H job cols steps s1 s2 s3 e1 e2 e3 in3 ∧ ColsT K H cols cs2 ∧ H data = some (.dK (kvT ra rb)) ∧
  ThsAt K H ra tsA ∧ ThsAt K H rb tsB ∧ tsA.length < 32 ∧ tsB.length < 32 ∧ ∀ H', Same H H' → Q (toldT tsA tsB) H'
abbrev N_told : List Str := ["job", "data", "error"]
theorem sc_told : FnScope N_told ["job", "data"] (defScope sTold) := ⟨rfl, rfl, rfl, by decide +kernel, rfl, by decide +kernel, by decide +kernel⟩
theorem ok_told {f C fI : Addr} {fd : FuncData} (F : Fun K "_law_told" "_law_told" sTold f fd) (T : PySem.BadX.BadTxt K mg C fI) (G_meaning : ReadyX P w K mg base 5 "meaning" ["job", "data"] (spMeaning K C)) : FnOk P w K mg base CX0 6 f fd ["job", "data"] (spTold K) := by
  refine F.ok sc_told (fun vs H Q E h => ?_) (fun cdv A outer s H vs Q E hr h => ?_)
  · obtain ⟨job, cols, steps, s1, s2, s3, e1, e2, e3, in3, data, ra, rb, tsA, tsB, rfl, _⟩ := h
    rfl
  obtain ⟨job, cols, steps, s1, s2, s3, e1, e2, e3, in3, data, ra, rb, tsA, tsB, rfl, J, C', hD, hA, hB, lA, lB, q⟩ := h
  have nd := sc_told.nd
  refine ⟨_, pss_one (ps_try_asE (i := 2) (tb := fun W => tDrop (tCallS (spMeaning K C) (WE W) (tCons (tVar 0) (tCons (tVar 1) tNil)))) (ts := fun a cls d => tRet (tByBad C a cls d (tVar 2))) (pss_one (ps_ret pe_non)) rfl rfl nd rfl rfl ⟨rfl, by decide, .inl T.gC⟩
      (fun W pn xe tk _ => pss_one (ps_expr (pe_fnX (W := W) G_meaning hr tk (pa_cons (pv 0) (pa_cons (pv 1) pa_nil)))))
      (fun a oe cls d pn hz hf => pss_one (ps_ret (pe_byBad T hz hf (pv 2))))), ?_⟩
  unfold toldT at q
  refine ⟨_, rfl, _, rfl, job, cols, steps, s1, s2, s3, e1, e2, e3, in3, data, ra, rb, tsA, tsB, rfl, J, C', hD, hA, hB, lA, lB, fun z d H2 sm n2 => ?_, fun z z2 d H2 sm n2 => ?_, fun z z2 v H2 sm => ?_⟩
  · rw [if_pos z] at q
    exact ⟨T.te, fun a na => ⟨_, rfl, rfl, rfl, d, _, rfl, upd_same, q _ (sm.trans (same_upd n2))⟩⟩
  · rw [if_neg (by rw [z]; decide), if_pos z2] at q
    exact ⟨T.te, fun a na => ⟨_, rfl, rfl, rfl, d, _, rfl, upd_same, q _ (sm.trans (same_upd n2))⟩⟩
  · rw [if_neg (by rw [z]; decide), if_neg (by rw [z2]; decide)] at q
    exact q _ sm
end
end Kx

namespace Kx
open PySem PySem.Spec PyProof.Rows L2
section
variable {P : Program} {w : World} {K : PySem.W.Frag} {mg : Str → Option Value} {base : Heap}
/-! ### _law_spoilt -/
/-- t + u: somewhere stands what they are together -/
theorem cat_any {H : Hp} {a b : Addr} {xs ys : List V} {Q : VK} (ha : SqT K H a xs) (hb : SqT K H b ys) (hz : xs.length + ys.length ≤ sizeLine) (q : ∀ p H', Same H H' → SqT K H' p (xs ++ ys) → Q (.ref p) H') : rCatA K (.ref a) (.ref b) H Q := by
  refine ⟨a, b, xs, ys, rfl, rfl, ha, hb, hz, fun e => ?_, fun _ e => ?_, fun _ _ p hp => ?_⟩
  · subst e
    exact q b H (Same.refl _) hb
  · subst e
    refine q a H (Same.refl _) ?_
    rw [List.append_nil]
    exact ha
  · exact q p _ (same_upd hp) (SqT.of upd_same)
/-- t[lo:hi]: somewhere stands the part -/
theorem cut_any {H : Hp} {a : Addr} {xs ys : List V} {lo hi : Option Int} {Q : VK} (ha : SqT K H a xs) (e : cutV xs lo hi = ys) (q : ∀ p H', Same H H' → SqT K H' p ys → Q (.ref p) H') : rSlA K (.ref a) lo hi H Q := by
  refine ⟨a, xs, rfl, ha, fun h => ?_, fun _ p hp => ?_⟩
  · refine q a H (Same.refl _) ?_
    have : ys = xs := by
      rw [← e]
      unfold cutV
      rw [h.1, h.2, List.drop_zero, Nat.sub_zero, List.take_length]
    rw [this]
    exact ha
  · subst e
    exact q p _ (same_upd hp) (SqT.of upd_same)
theorem cut1 (x y : V) : cutV [x, y] (some 1) none = [y] := rfl
theorem cutm1 (x y : V) : cutV [x, y] none (some (-1)) = [x] := rfl
theorem cut01 (x y : V) : cutV [x, y] none (some 1) = [x] := rfl
/-- a thing, and no list that is one of N -/
def GoodTh (K : PySem.W.Frag) (H : Hp) (N : Addr → Prop) (v : V) : Prop := ∃ t, ThAt K H v t ∧ (t = .lst → ∀ b, N b → v ≠ .ref b)
def AllG (K : PySem.W.Frag) (H : Hp) (N : Addr → Prop) (vs : List V) : Prop := ∀ v ∈ vs, GoodTh K H N v
theorem GoodTh.weak {H : Hp} {N N' : Addr → Prop} {v : V} (g : GoodTh K H N v) (h : ∀ b, N' b → N b) : GoodTh K H N' v := let ⟨t, k, n⟩ := g; ⟨t, k, fun e b hb => n e b (h b hb)⟩
theorem AllG.same {H H' : Hp} {N : Addr → Prop} {vs : List V} (g : AllG K H N vs) (h : Same H H') : AllG K H' N vs := fun v hv => let ⟨t, k, n⟩ := g v hv; ⟨t, ThAt.same h k, n⟩
theorem AllG.add {H : Hp} {N : Addr → Prop} {vs : List V} {v : V} (g : AllG K H N vs) (k : GoodTh K H N v) : AllG K H N (vs ++ [v]) := fun u hu => by
  rcases List.mem_append.mp hu with hu | hu
  · exact g u hu
  · rw [List.mem_singleton.mp hu]
    exact k
theorem GoodTh.but {H H' : Hp} {N : Addr → Prop} {d : Addr} {l : List V} (h : But d H H') (hd : H d = some (.lst l)) (hN : N d) {v : V} (g : GoodTh K H N v) : GoodTh K H' N v := by
  obtain ⟨t, k, n⟩ := g
  refine ⟨t, ?_, n⟩
  cases t with
  | none => exact k
  | text x => exact k
  | lst =>
    obtain ⟨a, xs, rfl, k⟩ := k
    have na : a ≠ d := fun z => n rfl d hN (by rw [z])
    rcases h.seq na (.inl k) with z | z
    · exact ⟨a, xs, rfl, z⟩
    · rcases k with (k | ⟨o, k⟩) | k
      · exact ⟨a, xs, rfl, .inl (.inl (h _ _ na k))⟩
      · exact ⟨a, xs, rfl, .inl (.inr ⟨o, h _ _ na k⟩)⟩
      · exact ⟨a, xs, rfl, .inr k⟩
  | tup xs =>
    obtain ⟨a, rfl, k, f⟩ := k
    exact ⟨a, rfl, h.sqT ⟨_, hd⟩ k, f⟩
theorem good_tup {H : Hp} {N : Addr → Prop} {a : Addr} {xs : List V} (h : SqT K H a xs) (f : ∀ x ∈ xs, Flat x) : GoodTh K H N (.ref a) := ⟨.tup xs, ⟨a, rfl, h, f⟩, fun z => by cases z⟩
theorem flat1 {x : V} (h : Flat x) : ∀ y ∈ [x], Flat y := fun y hy => by rw [List.mem_singleton.mp hy]; exact h
theorem flat2 {x y : V} (h : Flat x) (k : Flat y) : ∀ u ∈ [x, y], Flat u := fun u hu => by
  rcases List.mem_cons.mp hu with e | hu
  · rw [e]
    exact h
  · exact flat1 k u hu
theorem flat3 {x y v : V} (h : Flat x) (k : Flat y) (l : Flat v) : ∀ u ∈ [x, y, v], Flat u := fun u hu => by
  rcases List.mem_cons.mp hu with e | hu
  · rw [e]
    exact h
  · exact flat2 k l u hu
def spSpoilt (K : PySem.W.Frag) : Sp := fun vs H Q _ => ∃ (d s row : Addr) (ns : List Int) (n i : Int) (z : Str), vs = [.ref d, .ref row] ∧ DrawAt H d s ns n ∧ SqT K H row [.int i, .str z] ∧ ∀ v n' H', But d H H' → DrawAt H' d s ns n' → GoodTh K H' (fun b => ∃ l, H b = some (HO.lst l)) v → Q v H'
theorem sc_spoilt : FnScope ["draw", "row"] ["draw", "row"] (defScope sSpoilt) := ⟨rfl, rfl, rfl, by decide +kernel, rfl, by decide +kernel, by decide +kernel⟩
set_option maxHeartbeats 16000000 in
theorem ok_spoilt {f : Addr} {fd : FuncData} (F : Fun K "_law_spoilt" "_law_spoilt" sSpoilt f fd) (m_list : mg "list" = none) (G_law_pick : Ready P w K mg base 4 "_law_pick" ["draw", "things"] (spPick K)) : FnOk P w K mg base CX0 5 f fd ["draw", "row"] (spSpoilt K) := by
  refine F.ok sc_spoilt (fun vs H Q E h => ?_) (fun cdv A outer s0 H vs Q E hr h => ?_)
  · obtain ⟨d, s, row, ns, n, i, z, rfl, _⟩ := h
    rfl
  obtain ⟨d, s, row, ns, n, i, z, rfl, D, hrow, q⟩ := h
  have hp : CPow 2 63 := by show _ ∧ _ ∧ _; decide
  refine ⟨_, pss_one (ps_ret (pe_fn (G_law_pick) (hr.mono (by decide)) (pa_cons (pv 0) (pa_cons (pe_lst (pa_cons (pv 1) (pa_cons (pv 1) (pa_cons (pe_op op_catA (pv 1) (pe_tup (pa_cons pe_int pa_nil))) (pa_cons (pe_slice sl_tupA (pv 1) po_none (po_some (pe_un un_neg pe_int))) (pa_cons (pe_callTy call_list_of (by rfl) m_list PyProof.Rows.boot_list (pa_cons (pv 1) pa_nil)) (pa_cons (pe_op op_catA (pe_tup (pa_cons pe_bl pa_nil)) (pe_slice sl_tupA (pv 1) (po_some pe_int) po_none)) (pa_cons (pe_op op_catA (pe_tup (pa_cons pe_str pa_nil)) (pe_slice sl_tupA (pv 1) (po_some pe_int) po_none)) (pa_cons (pe_op op_catA (pe_tup (pa_cons (pe_op op_pow pe_int pe_int) pa_nil)) (pe_slice sl_tupA (pv 1) (po_some pe_int) po_none)) (pa_cons (pe_op op_catA (pe_tup (pa_cons (pe_op op_sub (pe_un un_neg (pe_op op_pow pe_int pe_int)) pe_int) pa_nil)) (pe_slice sl_tupA (pv 1) (po_some pe_int) po_none)) (pa_cons (pe_op op_catA (pe_tup (pa_cons pe_non pa_nil)) (pe_slice sl_tupA (pv 1) (po_some pe_int) po_none)) (pa_cons (pe_op op_catA (pe_tup (pa_cons (pe_un un_neg (pe_op op_pow pe_int pe_int)) pa_nil)) (pe_slice sl_tupA (pv 1) (po_some pe_int) po_none)) (pa_cons pe_non (pa_cons pe_str (pa_cons (pe_op op_catA (pe_slice sl_tupA (pv 1) po_none (po_some pe_int)) (pe_tup (pa_cons pe_int pa_nil))) pa_nil))))))))))))))) pa_nil)))), ?_⟩
  have z1 : 1 ≤ sizeLine := by decide
  have z3 : 3 ≤ sizeLine := by decide
  have z2 : 2 ≤ sizeLine := by decide
  -- row, row, row + (1,)
  have fi := Flat.int i
  have fz := Flat.str z
  have g0 : GoodTh K H (fun b => ∃ l, H b = some (HO.lst l)) (.ref row) := good_tup hrow (flat2 fi fz)
  have G0 : AllG K H (fun b => ∃ l, H b = some (HO.lst l)) ([.ref row, .ref row] : List V) := fun v hv => by
    rcases List.mem_cons.mp hv with e | hv
    · rw [e]
      exact g0
    · rw [List.mem_singleton.mp hv]
      exact g0
  refine ⟨_, rfl, _, rfl, _, rfl, _, rfl, z1, fun t1 n1 => ?_⟩
  have s1 := same_upd (o := .tup [.int 1]) n1
  refine cat_any (Same.sqT s1 hrow) (SqT.of upd_same) z3 fun p1 H1 m1 q1 => ?_
  have S1 := s1.trans m1
  have G1 := (G0.same S1).add (good_tup q1 (flat3 fi fz (.int 1)))
  clear s1 m1 n1 G0 g0
  -- row[:-1]
  refine ⟨_, rfl, _, rfl, _, rfl, ?_⟩
  refine cut_any (Same.sqT S1 hrow) (cutm1 _ _) fun p2 H2 m2 q2 => ?_
  have S2 := S1.trans m2
  have G2 := (G1.same m2).add (good_tup q2 (flat1 fi))
  clear G1 S1
  -- list(row)
  refine ⟨_, rfl, row, _, rfl, .inr (Same.sqT S2 hrow), fun p3 n3 => ?_⟩
  have m3 := same_upd (o := .lst [.int i, .str z]) n3
  have S3 := S2.trans m3
  have G3 := (G2.same m3).add ⟨.lst, ⟨p3, _, rfl, SqL.of upd_same⟩, fun _ b hb e => by
    obtain ⟨lb, hb⟩ := hb
    injection e with e
    rw [e, S2 _ _ hb] at n3
    cases n3⟩
  have hS3 := S3
  generalize upd H2 p3 (.lst [.int i, .str z]) = H3 at S3 G3 hS3 ⊢
  clear S2 G2 m3 n3
  -- (.bl true,) + row[1:]
  refine ⟨z1, fun t4 n4 => ?_⟩
  have a4 := same_upd (o := .tup [.bl true]) n4
  refine ⟨_, rfl, _, rfl, ?_⟩
  dsimp only [tNoPart]
  refine cut_any (Same.sqT (S3.trans a4) hrow) (cut1 _ _) fun u4 K4 b4 c4 => ?_
  refine cat_any (Same.sqT b4 (SqT.of upd_same)) c4 z2 fun p4 H4 m4 q4 => ?_
  have S4 := S3.trans (a4.trans (b4.trans m4))
  have G4 := (G3.same (a4.trans (b4.trans m4))).add (good_tup q4 (flat2 (.bl true) fz))
  clear S3 G3 a4 b4 m4 n4
  -- (.str "a",) + row[1:]
  refine ⟨z1, fun t5 n5 => ?_⟩
  have a5 := same_upd (o := .tup [.str "a"]) n5
  refine ⟨_, rfl, _, rfl, ?_⟩
  dsimp only [tNoPart]
  refine cut_any (Same.sqT (S4.trans a5) hrow) (cut1 _ _) fun u5 K5 b5 c5 => ?_
  refine cat_any (Same.sqT b5 (SqT.of upd_same)) c5 z2 fun p5 H5 m5 q5 => ?_
  have S5 := S4.trans (a5.trans (b5.trans m5))
  have G5 := (G4.same (a5.trans (b5.trans m5))).add (good_tup q5 (flat2 (.str "a") fz))
  clear S4 G4 a5 b5 m5 n5
  -- (.int (2 ^ (63 : Int).toNat),) + row[1:]
  refine ⟨_, _, rfl, rfl, hp, z1, fun t6 n6 => ?_⟩
  have a6 := same_upd (o := .tup [.int (2 ^ (63 : Int).toNat)]) n6
  refine ⟨_, rfl, _, rfl, ?_⟩
  dsimp only [tNoPart]
  refine cut_any (Same.sqT (S5.trans a6) hrow) (cut1 _ _) fun u6 K6 b6 c6 => ?_
  refine cat_any (Same.sqT b6 (SqT.of upd_same)) c6 z2 fun p6 H6 m6 q6 => ?_
  have S6 := S5.trans (a6.trans (b6.trans m6))
  have G6 := (G5.same (a6.trans (b6.trans m6))).add (good_tup q6 (flat2 (.int _) fz))
  clear S5 G5 a6 b6 m6 n6
  -- (.int (-(2 ^ (63 : Int).toNat) - 1),) + row[1:]
  refine ⟨_, _, rfl, rfl, hp, _, rfl, _, _, rfl, rfl, z1, fun t7 n7 => ?_⟩
  have a7 := same_upd (o := .tup [.int (-(2 ^ (63 : Int).toNat) - 1)]) n7
  refine ⟨_, rfl, _, rfl, ?_⟩
  dsimp only [tNoPart]
  refine cut_any (Same.sqT (S6.trans a7) hrow) (cut1 _ _) fun u7 K7 b7 c7 => ?_
  refine cat_any (Same.sqT b7 (SqT.of upd_same)) c7 z2 fun p7 H7 m7 q7 => ?_
  have S7 := S6.trans (a7.trans (b7.trans m7))
  have G7 := (G6.same (a7.trans (b7.trans m7))).add (good_tup q7 (flat2 (.int _) fz))
  clear S6 G6 a7 b7 m7 n7
  -- (.non,) + row[1:]
  refine ⟨z1, fun t8 n8 => ?_⟩
  have a8 := same_upd (o := .tup [.non]) n8
  refine ⟨_, rfl, _, rfl, ?_⟩
  dsimp only [tNoPart]
  refine cut_any (Same.sqT (S7.trans a8) hrow) (cut1 _ _) fun u8 K8 b8 c8 => ?_
  refine cat_any (Same.sqT b8 (SqT.of upd_same)) c8 z2 fun p8 H8 m8 q8 => ?_
  have S8 := S7.trans (a8.trans (b8.trans m8))
  have G8 := (G7.same (a8.trans (b8.trans m8))).add (good_tup q8 (flat2 .non fz))
  clear S7 G7 a8 b8 m8 n8
  -- (.int (-(2 ^ (63 : Int).toNat)),) + row[1:]
  refine ⟨_, _, rfl, rfl, hp, _, rfl, z1, fun t9 n9 => ?_⟩
  have a9 := same_upd (o := .tup [.int (-(2 ^ (63 : Int).toNat))]) n9
  refine ⟨_, rfl, _, rfl, ?_⟩
  dsimp only [tNoPart]
  refine cut_any (Same.sqT (S8.trans a9) hrow) (cut1 _ _) fun u9 K9 b9 c9 => ?_
  refine cat_any (Same.sqT b9 (SqT.of upd_same)) c9 z2 fun p9 H9 m9 q9 => ?_
  have S9 := S8.trans (a9.trans (b9.trans m9))
  have G9 := (G8.same (a9.trans (b9.trans m9))).add (good_tup q9 (flat2 (.int _) fz))
  clear S8 G8 a9 b9 m9 n9
  -- None, "ab", row[:1] + (3,)
  have G10 := (G9.add ⟨.none, rfl, fun e => by cases e⟩).add (v := .str "ab") ⟨.text "ab", rfl, fun e => by cases e⟩
  refine ⟨_, rfl, _, rfl, ?_⟩
  refine cut_any (Same.sqT S9 hrow) (cut01 _ _) fun u KK b c => ?_
  refine ⟨z1, fun t nt => ?_⟩
  have a := same_upd (o := .tup [.int 3]) nt
  refine cat_any (Same.sqT a c) (SqT.of upd_same) z2 fun p11 H11 m11 q11 => ?_
  have S11 := S9.trans (b.trans (a.trans m11))
  have G11 := (G10.same (b.trans (a.trans m11))).add (good_tup q11 (flat2 fi (.int 3)))
  refine ⟨by show 14 ≤ sizeLine; decide, fun l nl => ?_⟩
  have D11 := D.keep S11
  have sl := same_upd (o := .lst [.ref row, .ref row, .ref p1, .ref p2, .ref p3, .ref p4, .ref p5, .ref p6, .ref p7, .ref p8, .ref p9, .non, .str "ab", .ref p11]) nl
  have G12 := G11.same sl
  refine ⟨d, s, l, ns, n, [.ref row, .ref row, .ref p1, .ref p2, .ref p3, .ref p4, .ref p5, .ref p6, .ref p7, .ref p8, .ref p9, .non, .str "ab", .ref p11], rfl, D11.keep sl, (ne_of_none D11.at_d nl).symm, .inl (SqL.of upd_same), (by intro e; cases e), fun v H' hv bd D' => ?_⟩
  exact q v _ H' ((same_but (S11.trans sl)).trans bd) D' (GoodTh.but bd (D11.keep sl).at_d ⟨_, D.at_d⟩ (G12 v hv))
end
end Kx

namespace Kx
open PySem PySem.Spec PyProof.Rows L2
abbrev sLaw : Stmt := topS 70
def spLaw (K : PySem.W.Frag) : Sp := fun vs H Q _ => ∃ (a : Addr) (xs : List Int), vs = [.ref a] ∧ SqL K H a (xs.map V.int) ∧ ∀ H', Q (.bl true) H'
theorem JobIs.but {K : PySem.W.Frag} {H H' : Hp} {d job cols steps s1 s2 s3 e1 e2 e3 in3 : Addr} (J : JobIs K H job cols steps s1 s2 s3 e1 e2 e3 in3) (h : But d H H') (hd : ∃ l, H d = some (.lst l)) : JobIs K H' job cols steps s1 s2 s3 e1 e2 e3 in3 :=
  ⟨h.sqT hd J.job, h.sqT hd J.steps, h.sqT hd J.s1, h.sqT hd J.s2, h.sqT hd J.s3, h.sqT hd J.e1, h.sqT hd J.e2, h.sqT hd J.in3⟩
theorem ColsT.but {K : PySem.W.Frag} {H H' : Hp} {d cols : Addr} {cs : List (Str × Str)} (C : ColsT K H cols cs) (h : But d H H') (hd : ∃ l, H d = some (.lst l)) : ColsT K H' cols cs := by
  obtain ⟨as, h1, h2, h3⟩ := C
  exact ⟨as, h.sqT hd h1, h2, fun i a c e1 e2 => h.sqT hd (h3 i a c e1 e2)⟩
theorem th_but {K : PySem.W.Frag} {H H' : Hp} {d : Addr} {l : List V} (h : But d H H') (hd : H d = some (.lst l)) {v : V} {t : Th} (k : ThAt K H v t) (n : t = .lst → v ≠ .ref d) : ThAt K H' v t := by
  cases t with
  | none => exact k
  | text x => exact k
  | lst =>
    obtain ⟨a, xs, rfl, k⟩ := k
    have na : a ≠ d := fun z => n rfl (by rw [z])
    rcases k with (k | ⟨o, k⟩) | k
    · exact ⟨a, xs, rfl, .inl (.inl (h _ _ na k))⟩
    · exact ⟨a, xs, rfl, .inl (.inr ⟨o, h _ _ na k⟩)⟩
    · exact ⟨a, xs, rfl, .inr k⟩
  | tup xs =>
    obtain ⟨a, rfl, k, f⟩ := k
    exact ⟨a, rfl, h.sqT ⟨_, hd⟩ k, f⟩
/-- a list or a tuple of things, apart from the draw -/
def ThsG (K : PySem.W.Frag) (H : Hp) (d a : Addr) (ts : List Th) : Prop := ∃ xs, Sq K H a xs ∧ a ≠ d ∧ xs.length = ts.length ∧ ∀ (i : Nat) (x : V) (t : Th), xs[i]? = some x → ts[i]? = some t → ThAt K H x t ∧ (t = .lst → x ≠ .ref d)
theorem ThsG.at {K : PySem.W.Frag} {H : Hp} {d a : Addr} {ts : List Th} (T : ThsG K H d a ts) : ThsAt K H a ts := by
  obtain ⟨xs, h1, _, h2, h3⟩ := T
  exact ⟨xs, h1, h2, fun i x t e1 e2 => (h3 i x t e1 e2).1⟩
theorem ThsG.but {K : PySem.W.Frag} {H H' : Hp} {d a : Addr} {ts : List Th} {l : List V} (T : ThsG K H d a ts) (h : But d H H') (hd : H d = some (.lst l)) : ThsG K H' d a ts := by
  obtain ⟨xs, h1, na, h2, h3⟩ := T
  exact ⟨xs, h.seq na h1, na, h2, fun i x t e1 e2 => ⟨th_but h hd (h3 i x t e1 e2).1 (h3 i x t e1 e2).2, (h3 i x t e1 e2).2⟩⟩
theorem allG_list {K : PySem.W.Frag} {H : Hp} {d : Addr} : ∀ {xs : List V}, AllG K H (fun b => b = d) xs → ∃ ts : List Th, xs.length = ts.length ∧ ∀ (i : Nat) (x : V) (t : Th), xs[i]? = some x → ts[i]? = some t → ThAt K H x t ∧ (t = .lst → x ≠ .ref d)
  | [], _ => ⟨[], rfl, fun i x t e1 => by cases e1⟩
  | x :: xs, g => by
    obtain ⟨t, k, kn⟩ := g x List.mem_cons_self
    obtain ⟨ts, e, h⟩ := allG_list fun v hv => g v (List.mem_cons_of_mem _ hv)
    refine ⟨t :: ts, by rw [List.length_cons, List.length_cons, e], fun i y u e1 e2 => ?_⟩
    cases i with
    | zero =>
      cases e1
      cases e2
      exact ⟨k, fun e => kn e d rfl⟩
    | succ i => exact h i y u e1 e2
/-- the tables, as far as they are drawn -/
def TabSt (K : PySem.W.Frag) (H : Hp) (d Tb : Addr) : Nat → Prop
  | 0 => H Tb = some (.dK [])
  | 1 => ∃ ra tsA, H Tb = some (.dK [(.inr "a", .ref ra)]) ∧ ThsG K H d ra tsA ∧ tsA.length < 32
  | _ => ∃ ra tsA rb tsB, H Tb = some (.dK (kvT ra rb)) ∧ ThsG K H d ra tsA ∧ tsA.length < 32 ∧ ThsG K H d rb tsB ∧ tsB.length < 32
theorem TabSt.but {K : PySem.W.Frag} {H H' : Hp} {d Tb : Addr} {l : List V} (h : But d H H') (hd : H d = some (.lst l)) (nT : Tb ≠ d) : ∀ {i : Nat}, TabSt K H d Tb i → TabSt K H' d Tb i
  | 0, q => h _ _ nT q
  | 1, ⟨ra, tsA, q, t, n⟩ => ⟨ra, tsA, h _ _ nT q, t.but h hd, n⟩
  | _ + 2, ⟨ra, tsA, rb, tsB, q, t, n, t2, n2⟩ => ⟨ra, tsA, rb, tsB, h _ _ nT q, t.but h hd, n, t2.but h hd, n2⟩
/-- what stands at every turn -/
structure LawSt (K : PySem.W.Frag) (H : Hp) (d s job cols steps s1 s2 s3 e1 e2 e3 in3 : Addr) (ns : List Int) (n : Int) : Prop where
  dr : DrawAt H d s ns n
  jb : JobIs K H job cols steps s1 s2 s3 e1 e2 e3 in3
  co : ColsT K H cols cs2
theorem LawSt.step {K : PySem.W.Frag} {H H' : Hp} {d s job cols steps s1 s2 s3 e1 e2 e3 in3 : Addr} {ns : List Int} {n n' : Int} (S : LawSt K H d s job cols steps s1 s2 s3 e1 e2 e3 in3 ns n) (b : But d H H') (D : DrawAt H' d s ns n') : LawSt K H' d s job cols steps s1 s2 s3 e1 e2 e3 in3 ns n' :=
  ⟨D, S.jb.but b ⟨_, S.dr.at_d⟩, S.co.but b ⟨_, S.dr.at_d⟩⟩
theorem LawSt.same {K : PySem.W.Frag} {H H' : Hp} {d s job cols steps s1 s2 s3 e1 e2 e3 in3 : Addr} {ns : List Int} {n : Int} (S : LawSt K H d s job cols steps s1 s2 s3 e1 e2 e3 in3 ns n) (h : Same H H') : LawSt K H' d s job cols steps s1 s2 s3 e1 e2 e3 in3 ns n := S.step (same_but h) (S.dr.keep h)
section
variable {K : PySem.W.Frag} {H : Hp} {b : Addr} {kvs : List (L2.Key × V)} {o : HO}
/-! what stands while a dict changes -/
theorem dk_T (e : H b = some (.dK kvs)) {a : Addr} {xs : List V} (q : SqT K H a xs) : SqT K (upd H b o) a xs := by
  rcases q with (q | ⟨u, q⟩) | q
  · refine .inl (.inl ?_)
    rw [upd_ne fun z => by rw [z, e] at q; cases q]
    exact q
  · refine .inl (.inr ⟨u, ?_⟩)
    rw [upd_ne fun z => by rw [z, e] at q; cases q]
    exact q
  · exact .inr q
theorem dk_L (e : H b = some (.dK kvs)) {a : Addr} {xs : List V} (q : SqL K H a xs) : SqL K (upd H b o) a xs := by
  rcases q with (q | ⟨u, q⟩) | q
  · refine .inl (.inl ?_)
    rw [upd_ne fun z => by rw [z, e] at q; cases q]
    exact q
  · refine .inl (.inr ⟨u, ?_⟩)
    rw [upd_ne fun z => by rw [z, e] at q; cases q]
    exact q
  · exact .inr q
theorem dk_Sq (e : H b = some (.dK kvs)) {a : Addr} {xs : List V} (q : Sq K H a xs) : Sq K (upd H b o) a xs := q.elim (fun z => .inl (dk_L e z)) (fun z => .inr (dk_T e z))
theorem dk_Th (e : H b = some (.dK kvs)) : ∀ {v : V} {t : Th}, ThAt K H v t → ThAt K (upd H b o) v t
  | _, .none, q => q
  | _, .text _, q => q
  | _, .lst, ⟨a, xs, h, q⟩ => ⟨a, xs, h, dk_L e q⟩
  | _, .tup _, ⟨a, h, q, f⟩ => ⟨a, h, dk_T e q, f⟩
theorem dk_G (e : H b = some (.dK kvs)) {d a : Addr} {ts : List Th} (T : ThsG K H d a ts) : ThsG K (upd H b o) d a ts := by
  obtain ⟨xs, h1, na, h2, h3⟩ := T
  exact ⟨xs, dk_Sq e h1, na, h2, fun i x t e1 e2 => ⟨dk_Th e (h3 i x t e1 e2).1, (h3 i x t e1 e2).2⟩⟩
theorem dk_C (e : H b = some (.dK kvs)) {cols : Addr} {cs : List (Str × Str)} (C : ColsT K H cols cs) : ColsT K (upd H b o) cols cs := by
  obtain ⟨as, h1, h2, h3⟩ := C
  exact ⟨as, dk_T e h1, h2, fun i a c e1 e2 => dk_T e (h3 i a c e1 e2)⟩
theorem dk_S (e : H b = some (.dK kvs)) {d s job cols steps s1 s2 s3 e1 e2 e3 in3 : Addr} {ns : List Int} {n : Int} (S : LawSt K H d s job cols steps s1 s2 s3 e1 e2 e3 in3 ns n) : LawSt K (upd H b o) d s job cols steps s1 s2 s3 e1 e2 e3 in3 ns n := by
  obtain ⟨⟨D1, D2, D3⟩, J, C⟩ := S
  refine ⟨⟨?_, ?_, D3⟩, ⟨dk_T e J.job, dk_T e J.steps, dk_T e J.s1, dk_T e J.s2, dk_T e J.s3, dk_T e J.e1, dk_T e J.e2, dk_T e J.in3⟩, dk_C e C⟩
  · rw [upd_ne fun z => by rw [z, e] at D1; cases D1]
    exact D1
  · rw [upd_ne fun z => by rw [z, e] at D2; cases D2]
    exact D2
theorem frz_T {od : Obj} (e : H b = some (.frz od (.dK kvs))) {a : Addr} {xs : List V} (q : SqT K H a xs) : SqT K (upd H b o) a xs := by
  rcases q with (q | ⟨u, q⟩) | q
  · refine .inl (.inl ?_)
    rw [upd_ne fun z => by rw [z, e] at q; cases q]
    exact q
  · refine .inl (.inr ⟨u, ?_⟩)
    rw [upd_ne fun z => by rw [z, e] at q; cases q]
    exact q
  · exact .inr q
/-- what a lock leaves -/
theorem unlock {u : HO} {H' : Hp} {od : Obj} (e : H b = some u) (h : Same (upd H b (.frz od u)) H') : Same H (upd H' b u) := fun a v k => by
  by_cases z : a = b
  · subst z
    rw [e] at k
    rw [upd_same]
    exact k
  · rw [upd_ne z]
    refine h _ _ ?_
    rw [upd_ne z]
    exact k
end
theorem putT1 (ra rb : Addr) : putK ([(.inr "a", .ref ra)] : List (L2.Key × V)) (.inr "b") (.ref rb) = kvT ra rb := by simp [putK, kvT, ba.symm]
/-- which tables are right -/
def kvR (x y : Bool) : List (L2.Key × V) := [(.inr "a", .bl x), (.inr "b", .bl y)]
theorem mergeR (x y : Bool) : mergeK [] (kvR x y) = kvR x y := by simp [mergeK, kvR, putK, ba.symm]
theorem kvRa (x y : Bool) : valV (kvR x y) (.inr "a") = some (.bl x) := by simp [valV, kvR]
theorem kvRb (x y : Bool) : valV (kvR x y) (.inr "b") = some (.bl y) := by simp [valV, kvR, ba.symm]
/-- all the rows of a table, by the law's look -/
abbrev teAll (K : PySem.W.Frag) : TE := tCB (rAll K) (tCons (tLc (fun σ H R => iList K (tDGet (tVar 5) (tVar 6)) σ H R ∨ iTup K (tDGet (tVar 5) (tVar 6)) σ H R) (gName 9) tYes (tCall (spLRow K) [] E0 (tCons (tVar 9) tNil)) [9]) tNil)
theorem all_rows {K : PySem.W.Frag} {σ : L2.St} {H : Hp} {Tb r : Addr} {nm : V} {ts : List Th} {Q : VK} (h5 : σ[5]? = some (some (.ref Tb))) (h6 : σ[6]? = some (some nm)) (g : DGet H Tb nm (some (.ref r))) (T : ThsAt K H r ts) (hl : ts.length < 32) (h9 : 9 < σ.length)
    (q : ∀ H', Same H H' → Q (.bl (okT ts)) H') : teAll K σ H Q := by
  obtain ⟨xs, hS, hx, ht⟩ := T
  generalize hbs : ts.map (rowB (cs2.map (·.2))) = bs
  have qb : okT ts = bs.all id := by
    unfold okT
    rw [← hbs, List.all_map]
    rfl
  rw [qb] at q
  have lb : bs.length = ts.length := by rw [← hbs, List.length_map]
  have step : ∀ (D : Addr), H D = none → ∀ (i : Nat) (x : V) (H2 : Hp), i < xs.length → xs[i]? = some x → Same H H2 → H2 D = some (.lst ((bs.take i).map V.bl)) →
      spLRow K [x] H2 (fun y H4 => ∃ acc, H4 D = some (.lst acc) ∧ acc.length < sizeLine ∧ (Same H (upd H4 D (.lst (acc ++ [y]))) ∧ (upd H4 D (.lst (acc ++ [y]))) D = some (.lst ((bs.take (i + 1)).map V.bl)))) E0 := by
    intro D hD i x H2 hi ex sm eD
    have hit : i < ts.length := by omega
    have et : ts[i]? = some ts[i] := List.getElem?_eq_getElem hit
    have hb : i < bs.length := by omega
    have eb : bs[i] = rowB ["int", "text"] ts[i] := by
      have e1 : bs[i]? = some (rowB (cs2.map (·.2)) ts[i]) := by
        rw [← hbs, List.getElem?_map, et] <;> rfl
      rw [List.getElem?_eq_getElem hb] at e1
      exact Option.some.inj e1
    refine ⟨x, ts[i], rfl, ThAt.same sm (ht i x _ ex et), _, eD, Nat.lt_of_lt_of_le (show ((bs.take i).map V.bl).length < 64 by rw [List.length_map, List.length_take]; omega) (by decide), fun b o e => ?_, ?_⟩
    · rw [upd_ne (ne_of_none e hD)]
      exact sm _ _ e
    · rw [upd_same, List.take_succ_eq_append_getElem hb, eb, List.map_append]
      rfl
  have fin : ∀ (D : Addr) (H2 : Hp), Same H H2 ∧ H2 D = some (.lst ((bs.take xs.length).map V.bl)) → rAll K [.ref D] H2 Q := by
    rintro D H2 ⟨sm, eD⟩
    rw [List.take_of_length_le (by omega)] at eD
    exact ⟨D, bs, rfl, SqL.of eD, q _ sm⟩
  have w9 : ∀ x : V, ((wipe σ [9]).set 9 (some x))[9]? = some (some x) := fun x => by
    rw [List.getElem?_set_self]
    show 9 < (σ.set 9 none).length
    rw [List.length_set]
    exact h9
  have ww : ∀ x : V, wipe ((wipe σ [9]).set 9 (some x)) [9] = wipe σ [9] := fun x => by
    show ((σ.set 9 none).set 9 (some x)).set 9 none = σ.set 9 none
    rw [List.set_set, List.set_set]
  rcases hS with h | h
  · refine .inl ⟨_, h5, _, h6, Tb, _, rfl, g, r, rfl, ⟨_, h⟩, fun D hD => lc_list (K := K) (xs := xs) (fun i H' => Same H H' ∧ H' D = some (.lst ((bs.take i).map V.bl))) ⟨same_upd hD, upd_same⟩ (fun i H' _ z => Same.sqL z.1 h) ?_ (fin D)⟩
    rintro i x H2 ex ⟨sm, eD⟩
    exact ⟨ww x, _, w9 x, step D hD i x H2 (List.getElem?_eq_some_iff.mp ex).1 ex sm eD⟩
  · refine .inr ⟨_, h5, _, h6, Tb, _, rfl, g, r, rfl, ⟨_, h⟩, fun D hD => lc_tup (K := K) (xs := xs) (fun i H' => Same H H' ∧ H' D = some (.lst ((bs.take i).map V.bl))) ⟨same_upd hD, upd_same⟩ (fun i H' _ z => Same.sqT z.1 h) ?_ (fin D)⟩
    rintro i x H2 ex ⟨sm, eD⟩
    exact ⟨ww x, _, w9 x, step D hD i x H2 (List.getElem?_eq_some_iff.mp ex).1 ex sm eD⟩
theorem iteNB {c : Bool} {A B : Prop} (h : c = true) (q : B) : if (!c) = true then A else B := by
  rw [h]
  exact q
theorem cut_map (xs : List Int) (lo hi : Option Int) : ∃ ys : List Int, cutV (xs.map V.int) lo hi = ys.map V.int := by
  unfold cutV
  rw [← List.map_drop, ← List.map_take]
  exact ⟨_, rfl⟩
section
variable {P : Program} {w : World} {K : PySem.W.Frag} {mg : Str → Option Value} {base : Heap}
theorem blk_nofree {N : List Str} {sc0 sc scope : Scope} {own : List (Str × Nat)} (b : BlkOk N sc0 scope own) (nf : ∀ y ∈ scope.names, y.2 ≠ .free) : BlkOk N sc scope own :=
  ⟨b.kind, b.uniq, b.ix, fun y hy e => absurd e (nf y hy), b.own⟩
abbrev N_law : List Str := ["script", "draw", "columns", "job", "turn", "tables", "name", "rows", "by", "row", "right", "due"]
theorem sc_law : FnScope N_law ["script"] (defScope sLaw) := ⟨rfl, rfl, rfl, by decide +kernel, rfl, by decide +kernel, by decide +kernel⟩
set_option maxHeartbeats 16000000 in
theorem ok_law {f : Addr} {fd : FuncData} (F : Fun K "law" "law" sLaw f fd) (m_range : mg "range" = none) (m_dict : mg "dict" = none) (m_all : mg "all" = none) (m_tuple : mg "tuple" = none) (G_law_next : Ready P w K mg base 3 "_law_next" ["draw", "bound"] spNext) (G_law_pick : Ready P w K mg base 4 "_law_pick" ["draw", "things"] (spPick K))
    (G_law_spoilt : Ready P w K mg base 5 "_law_spoilt" ["draw", "row"] (spSpoilt K)) (G_law_is_row : Ready P w K mg base 1 "_law_is_row" ["thing"] (spLRow K)) (G_are_rows : Ready P w K mg base 3 "are_rows" ["thing", "columns"] (spAreRows K)) (G_law_told : Ready P w K mg base 6 "_law_told" ["job", "data"] (spTold K)) :
    FnOk P w K mg base CX0 7 f fd ["script"] (spLaw K) := by
  refine F.ok sc_law (fun vs H Q E h => ?_) (fun cdv A outer s0 H vs Q E hr h => ?_)
  · obtain ⟨a, xs, rfl, _⟩ := h
    rfl
  obtain ⟨a, xs, rfl, hS, q⟩ := h
  have nd := sc_law.nd
  have hu := hu_of hr
  have hr5 : Room 5 _ := hr.mono (by decide)
  have hr4 : Room 4 _ := hr.mono (by decide)
  have hr3 : Room 3 _ := hr.mono (by decide)
  have hr1 : Room 1 _ := hr.mono (by decide)
  refine ⟨_, pss_cons (ps_set (i := 1) nd rfl (.inr rfl) (pe_lst (pa_cons (pe_slice sl_list (pv 0) po_none (po_some pe_int)) (pa_cons pe_int (pa_cons pe_int pa_nil)))))
      (pss_cons (ps_set (i := 2) nd rfl (.inl rfl) (pe_tup (pa_cons (pe_tup (pa_cons pe_str (pa_cons pe_str pa_nil))) (pa_cons (pe_tup (pa_cons pe_str (pa_cons pe_str pa_nil))) pa_nil))))
      (pss_cons (ps_set (i := 3) nd rfl (.inl rfl) (pe_tup (pa_cons (pe_tup (pa_cons (pe_tup (pa_cons pe_str (pa_cons pe_str (pa_cons (pe_tup pa_nil) (pa_cons (pv 2) pa_nil))))) (pa_cons (pe_tup (pa_cons pe_str (pa_cons pe_str (pa_cons (pe_tup pa_nil) (pa_cons (pv 2) pa_nil))))) (pa_cons (pe_tup (pa_cons pe_str (pa_cons pe_str (pa_cons (pe_tup (pa_cons pe_str (pa_cons pe_str pa_nil))) (pa_cons (pe_tup pa_nil) pa_nil))))) pa_nil)))) (pa_cons pe_str pa_nil))))
      (pss_cons (ps_for PassesOwn.never rfl (pi_range1 rfl m_range (pa_cons pe_int pa_nil)) (pg_name (i := 4) nd rfl (.inl rfl)) (pss_cons (ps_set (i := 5) nd rfl (.inr rfl) pe_dnewK)
      (pss_cons (ps_for PassesOwn.never rfl (pi_tup (pe_tup (pa_cons pe_str (pa_cons pe_str pa_nil)))) (pg_name (i := 6) nd rfl (.inl rfl)) (pss_cons (ps_setLc (i := 7) (own := [("by", 8)]) (g := gName 8) (tt := tYes) rfl nd rfl rfl (sw_true rfl rfl rfl (by decide +kernel)) (pi_range1 rfl m_range (pa_cons (pe_fn (G_law_next) hr3 (pa_cons (pv 1) (pa_cons pe_int pa_nil))) pa_nil)) (blkOk_by (N := N_law) (sc := defScope sLaw) (by decide +kernel)) (fun _ _ _ _ _ => pg_name (i := 8) nd rfl (Or.inl rfl)) (fun _ _ _ _ _ => pts_nil) (fun _ _ _ _ _ => (pe_tup (pa_cons (pe_fn (G_law_next) hr3 (pa_cons (pv 1) (pa_cons pe_int pa_nil))) (pa_cons (pe_fn (G_law_pick) hr4 (pa_cons (pv 1) (pa_cons (pe_lst (pa_cons pe_str (pa_cons pe_str pa_nil))) pa_nil))) pa_nil)))))
      (C8.pss_cut (ps_if (pt_cmpR op_eq (pe_fn (G_law_next) hr3 (pa_cons (pv 1) (pa_cons pe_int pa_nil))) pe_int (nomark _)) (pss_one (ps_setLc (i := 7) (own := [("row", 9)]) (g := gName 9) (tt := tYes) rfl nd rfl rfl (sw_true rfl rfl rfl (by decide +kernel)) (pi_list (pv 7)) (blkOk_by (N := N_law) (sc := defScope sLaw) (by decide +kernel)) (fun _ _ _ _ _ => pg_name (i := 9) nd rfl (Or.inl rfl)) (fun _ _ _ _ _ => pts_nil) (fun _ _ _ _ _ => (pe_fn (G_law_spoilt) hr5 (pa_cons (pv 1) (pa_cons (pv 9) pa_nil)))))) (pss_nil))
      (pss_one (ps_dput hu (pv 5) (pv 6) (pe_fn (G_law_pick) hr4 (pa_cons (pv 1) (pa_cons (pe_lst (pa_cons (pv 7) (pa_cons (pe_callTy call_tuple_of (by rfl) m_tuple PyProof.Rows.boot_tuple (pa_cons (pv 7) pa_nil)) pa_nil))) pa_nil))) rfl)))))
      (pss_cons (ps_set (i := 10) nd rfl (.inl rfl) (pe_callTy (call_dictP rfl) (by rfl) m_dict PyProof.Rows.boot_dict (pa_cons (pe_lock (pe_lc (own := [("name", 6)]) (g := gName 6) (tt := tYes) (te := tTup (tCons (tVar 6) (tCons (teAll K) tNil))) rfl nd (pi_keys (pv 5)) (blkOk_by (N := N_law) (sc := defScope sLaw) (by decide +kernel)) (fun _ _ _ _ _ => pg_name (i := 6) nd rfl (Or.inl rfl)) (fun _ _ _ _ _ => pts_nil) (fun _ _ _ _ _ => (pe_tup (pa_cons (pv 6) (pa_cons (pe_callB (cr_all rfl) (by rfl) m_all PyProof.Rows.boot_all (pa_cons (pe_lc (own := [("row", 9)]) (g := gName 9) (tt := tYes) rfl nd (pi_or (pi_list (pe_dget hu (pv 5) (pv 6) (fun _ _ => rfl))) (pi_tup (pe_dget hu (pv 5) (pv 6) (fun _ _ => rfl)))) (blk_nofree (blkOk_by (N := N_law) (sc := defScope sLaw) (by decide +kernel)) (by decide +kernel)) (fun _ _ _ _ _ => pg_name (i := 9) nd rfl (Or.inl rfl)) (fun _ _ _ _ _ => pts_nil) (fun _ _ _ _ _ => (pe_fn (G_law_is_row) hr1 (pa_cons (pv 9) pa_nil)))) pa_nil)) pa_nil)))))) pa_nil)))
      (pss_cons (ps_lock (ps_for PassesOwn.never rfl (pi_keys (pv 5)) (pg_name (i := 6) nd rfl (.inl rfl)) (pss_one (ps_if (pt_cmpR op_ne (pe_fn (G_are_rows) hr3 (pa_cons (pe_dget hu (pv 5) (pv 6) (fun _ _ => rfl)) (pa_cons (pv 2) pa_nil))) (pe_dget hu (pv 10) (pv 6) (fun _ _ => rfl)) (nomark _)) (pss_one (ps_ret pe_bl)) (pss_nil)))))
      (pss_cons (ps_set (i := 11) nd rfl (.inl rfl) (pe_ifExp (PW.pt (pw_and (pt_val (pe_dget hu (pv 10) pe_str (fun _ _ => rfl))) (pw_and1 (pt_val (pe_dget hu (pv 10) pe_str (fun _ _ => rfl)))))) pe_non (pe_ifExp (pt_not (pt_val (pe_dget hu (pv 10) pe_str (fun _ _ => rfl)))) pe_str pe_str)))
      (pss_one (ps_if (pt_cmpR op_ne (pe_fn (G_law_told) hr (pa_cons (pv 3) (pa_cons (pv 5) pa_nil))) (pv 11) (nomark _)) (pss_one (ps_ret pe_bl)) (pss_nil)))))))))
      (pss_one (ps_ret pe_bl))))), ?_⟩
  have z0 : 0 ≤ sizeLine := by decide
  have z2 : 2 ≤ sizeLine := by decide
  have z3 : 3 ≤ sizeLine := by decide
  have z4 : 4 ≤ sizeLine := by decide
  obtain ⟨ns, ens⟩ := cut_map xs none (some 63)
  -- draw
  refine ⟨_, rfl, _, rfl, a, _, rfl, hS, fun s ns0 => ⟨z3, fun d nd0 => ?_⟩⟩
  rw [ens] at nd0 ⊢
  have D0 : DrawAt (upd (upd H s (.lst (ns.map V.int))) d (.lst [.ref s, .int 0, .int 0])) d s ns 0 := ⟨upd_same, by rw [upd_ne (ne_of_none upd_same nd0)]; exact upd_same, Int.le_refl 0⟩
  generalize upd (upd H s (.lst (ns.map V.int))) d (.lst [.ref s, .int 0, .int 0]) = H0 at D0 ⊢
  -- columns
  refine ⟨z2, fun c1 n1 => ⟨z2, fun c2 n2 => ⟨z2, fun cols n3 => ?_⟩⟩⟩
  have m1 := same_upd (o := .tup [.str "k", .str "int"]) n1
  have m2 := same_upd (o := .tup [.str "t", .str "text"]) n2
  have m3 := same_upd (o := .tup [.ref c1, .ref c2]) n3
  have C0 : ColsT K (upd (upd (upd H0 c1 (.tup [.str "k", .str "int"])) c2 (.tup [.str "t", .str "text"])) cols (.tup [.ref c1, .ref c2])) cols cs2 := by
    refine ⟨[c1, c2], SqT.of upd_same, rfl, fun i a c h1 h2 => ?_⟩
    match i, h1, h2 with
    | 0, h1, h2 =>
      cases h1
      cases h2
      exact SqT.of (m3 _ _ (m2 _ _ upd_same))
    | 1, h1, h2 =>
      cases h1
      cases h2
      exact SqT.of (m3 _ _ upd_same)
    | i + 2, h1, h2 => cases h1
  have D1 := D0.keep (m1.trans (m2.trans m3))
  generalize upd (upd (upd H0 c1 (.tup [.str "k", .str "int"])) c2 (.tup [.str "t", .str "text"])) cols (.tup [.ref c1, .ref c2]) = H1 at C0 D1 ⊢
  -- job
  refine ⟨z0, fun e1 k1 => ⟨_, rfl, z4, fun s1 k2 => ⟨z0, fun e2 k3 => ⟨_, rfl, z4, fun s2 k4 => ⟨z2, fun in3 k5 => ⟨z0, fun e3 k6 => ⟨z4, fun s3 k7 => ⟨z3, fun steps k8 => ⟨z2, fun job k9 => ?_⟩⟩⟩⟩⟩⟩⟩⟩⟩
  have t1 := same_upd (o := .tup []) k1
  have t2 := same_upd (o := .tup [.str "b", .str "read", .ref e1, .ref cols]) k2
  have t3 := same_upd (o := .tup []) k3
  have t4 := same_upd (o := .tup [.str "a", .str "read", .ref e2, .ref cols]) k4
  have t5 := same_upd (o := .tup [.str "a", .str "b"]) k5
  have t6 := same_upd (o := .tup []) k6
  have t7 := same_upd (o := .tup [.str "c", .str "union", .ref in3, .ref e3]) k7
  have t8 := same_upd (o := .tup [.ref s1, .ref s2, .ref s3]) k8
  have t9 := same_upd (o := .tup [.ref steps, .str "c"]) k9
  have f8 := t9
  have f7 := t8.trans f8
  have f6 := t7.trans f7
  have f5 := t6.trans f6
  have f4 := t5.trans f5
  have f3 := t4.trans f4
  have f2 := t3.trans f3
  have f1 := t2.trans f2
  have f0 := t1.trans f1
  have S0 := LawSt.mk (D1.keep f0) (JobIs.mk (SqT.of upd_same) (SqT.of (f8 _ _ upd_same)) (SqT.of (f2 _ _ upd_same)) (SqT.of (f4 _ _ upd_same)) (SqT.of (f7 _ _ upd_same)) (SqT.of (f1 _ _ upd_same)) (SqT.of (f3 _ _ upd_same)) (SqT.of (f5 _ _ upd_same))) (C0.same f0)
  clear t1 t2 t3 t4 t5 t6 t7 t8 t9 f1 f2 f3 f4 f5 f6 f7 f8 f0
  revert S0
  generalize upd _ job (.tup [.ref steps, .str "c"]) = H2
  intro S0
  refine ⟨6, rfl, by decide, by decide, for_range (n := 6) (fun i σ H' => ∃ n y4 y5 y6 y7 y8 y9 y10 y11, σ = [some (.ref a), some (.ref d), some (.ref cols), some (.ref job), y4, y5, y6, y7, y8, y9, y10, y11] ∧ LawSt K H' d s job cols steps s1 s2 s3 e1 e2 e3 in3 ns n)
    ⟨0, none, none, none, none, none, none, none, none, rfl, S0⟩ ?_ ?_⟩
  · rintro turn σ H' hturn ⟨n, y4, y5, y6, y7, y8, y9, y10, y11, rfl, S⟩
    intro Tb nT
    have nTd : Tb ≠ d := (ne_of_none S.dr.at_d nT).symm
    have sT := same_upd (o := .dK []) nT
    have ST := S.same sT
    -- for name in ("a", "b")
    refine ⟨z2, fun tp ntp => ⟨tp, rfl, ⟨_, SqT.of upd_same⟩, ?_⟩⟩
    have sp := same_upd (o := .tup [.str "a", .str "b"]) ntp
    refine for_tup (K := K) (xs := [.str "a", .str "b"]) (fun i σ H' => ∃ n y6 y7 y8 y9, σ = [some (.ref a), some (.ref d), some (.ref cols), some (.ref job), some (.int (0 + (turn : Nat))), some (.ref Tb), y6, y7, y8, y9, y10, y11] ∧ LawSt K H' d s job cols steps s1 s2 s3 e1 e2 e3 in3 ns n ∧ SqT K H' tp [.str "a", .str "b"] ∧ TabSt K H' d Tb i)
      ⟨_, _, _, _, _, rfl, ST.same sp, SqT.of upd_same, sp _ _ upd_same⟩ (fun i σ H' _ ⟨_, _, _, _, _, _, _, k, _⟩ => k) ?_ ?_
    · rintro j x σ H' hx ⟨n, y6, y7, y8, y9, rfl, S, hTp, tab⟩
      have nm : ∃ nm : Str, x = .str nm ∧ ((j = 0 ∧ nm = "a") ∨ (j = 1 ∧ nm = "b")) := by
        match j, hx with
        | 0, hx =>
          cases hx
          exact ⟨_, rfl, .inl ⟨rfl, rfl⟩⟩
        | 1, hx =>
          cases hx
          exact ⟨_, rfl, .inr ⟨rfl, rfl⟩⟩
        | j + 2, hx => cases hx
      obtain ⟨nm, rfl, hnm⟩ := nm
      -- rows
      refine ⟨_, rfl, d, s, ns, n, 4, rfl, S.dr, (by show (0 : Int) < 4; decide), fun r H1 r0 r1 b1 D1 => ⟨_, rfl, by omega, by omega, fun Dr nDr => ?_⟩⟩
      have nDd : Dr ≠ d := (ne_of_none D1.at_d nDr).symm
      have sr := same_upd (o := .lst []) nDr
      refine lc_range (lo := 0) (n := r.toNat) (fun i H2 => ∃ n' xs, DrawAt H2 d s ns n' ∧ But d H1 H2 ∧ H2 Dr = some (.lst xs) ∧ xs.length = i ∧ ∀ x ∈ xs, ∃ p i z, x = .ref p ∧ SqT K H2 p [.int i, .str z]) ⟨_, [], D1.keep sr, same_but sr, upd_same, rfl, fun x hx => by cases hx⟩ ?_ ?_
      · rintro i H2 hi ⟨n', xs', D2, b2, eR, el, rows⟩
        refine ⟨rfl, _, rfl, d, s, ns, n', 5, rfl, D2, (by show (0 : Int) < 5; decide), fun r5 H3 _ _ b3 D3 => ?_⟩
        refine ⟨_, rfl, z2, fun pl npl => ?_⟩
        have u1 := same_upd (o := .lst ((["", "x"] : List Str).map V.str)) npl
        refine ⟨d, s, pl, ns, _, (["", "x"] : List Str).map V.str, rfl, D3.keep u1, (ne_of_none D3.at_d npl).symm, .inl (SqL.of upd_same), (by intro z; cases z), fun v H5 hv b5 D5 => ⟨z2, fun p np => ?_⟩⟩
        obtain ⟨z, hz, rfl⟩ := List.mem_map.mp hv
        have u2 := same_upd (o := .tup [.int r5, .str z]) np
        have bb : But d H2 (upd H5 p (.tup [.int r5, .str z])) := b3.trans ((same_but u1).trans (b5.trans (same_but u2)))
        have D6 := D5.keep u2
        have eR6 := bb _ _ nDd eR
        have nDs : Dr ≠ s := fun e => by
          rw [e, D1.at_s] at nDr
          cases nDr
        refine ⟨xs', eR6, Nat.lt_of_lt_of_le (show xs'.length < 64 by omega) (by decide), _, xs' ++ [.ref p], ⟨by rw [upd_ne nDd.symm]; exact D6.at_d, by rw [upd_ne nDs.symm]; exact D6.at_s, D6.n0⟩, fun b o hb e => ?_, upd_same, by rw [List.length_append, el]; rfl, fun x hx => ?_⟩
        · rw [upd_ne (ne_of_none e nDr)]
          exact bb _ _ hb (b2 _ _ hb e)
        · have keepR : ∀ {p2 : Addr} {ys : List V}, SqT K (upd H5 p (.tup [.int r5, .str z])) p2 ys → SqT K (upd (upd H5 p (.tup [.int r5, .str z])) Dr (.lst (xs' ++ [.ref p]))) p2 ys := fun k => But.sqT (d := Dr) (fun b o hb e => by rw [upd_ne hb]; exact e) ⟨_, eR6⟩ k
          rcases List.mem_append.mp hx with hx | hx
          · obtain ⟨p2, i2, z2', e, k⟩ := rows x hx
            exact ⟨p2, i2, z2', e, keepR (bb.sqT ⟨_, D2.at_d⟩ k)⟩
          · rw [List.mem_singleton.mp hx]
            exact ⟨p, r5, z, rfl, keepR (SqT.of upd_same)⟩
      rintro H2 ⟨n2', xsR, D2, b2, eR, el, rows⟩
      have len3 : xsR.length < 32 := by omega
      -- perhaps spoilt
      refine ⟨fun σ' H3 => ∃ n' Rw xs y8 y9, σ' = [some (.ref a), some (.ref d), some (.ref cols), some (.ref job), some (.int (0 + (turn : Nat))), some (.ref Tb), some (.str nm), some (.ref Rw), y8, y9, y10, y11] ∧ DrawAt H3 d s ns n' ∧ But d H1 H3 ∧ H3 Rw = some (.lst xs) ∧ Rw ≠ d ∧ xs.length < 32 ∧ AllG K H3 (fun b => b = d) xs, ?_, ?_⟩
      · refine ⟨_, rfl, d, s, ns, _, 2, rfl, D2, (by show (0 : Int) < 2; decide), fun r2 H3 _ _ b3 D3 => ⟨rfl, _, rfl, ite2 (fun _ => ?_) (fun _ => ?_)⟩⟩
        · refine ⟨_, rfl, Dr, rfl, ⟨_, SqL.of (b3 _ _ nDd eR)⟩, fun Ds nDs => lc_list (K := K) (xs := xsR) (fun i H4 => ∃ n' ys, DrawAt H4 d s ns n' ∧ But d H3 H4 ∧ H4 Ds = some (.lst ys) ∧ ys.length = i ∧ AllG K H4 (fun b => b = d ∨ b = Ds) ys) ⟨_, [], D3.keep (same_upd nDs), same_but (same_upd nDs), upd_same, rfl, fun x hx => by cases hx⟩ (fun i H4 _ ⟨_, _, _, b4, _⟩ => SqL.of (b4 _ _ nDd (b3 _ _ nDd eR))) ?_ ?_⟩
          · rintro i x H4 hx ⟨n', ys, D4, b4, eS, el2, ga⟩
            obtain ⟨p, i0, z, rfl, k⟩ := rows x (List.mem_of_getElem? hx)
            have hi := (List.getElem?_eq_some_iff.mp hx).1
            have nSd : Ds ≠ d := (ne_of_none D3.at_d nDs).symm
            have nSs : Ds ≠ s := fun e => by
              rw [e, D3.at_s] at nDs
              cases nDs
            refine ⟨rfl, _, rfl, _, rfl, d, s, p, ns, n', i0, z, rfl, D4, b4.sqT ⟨_, D3.at_d⟩ (b3.sqT ⟨_, D2.at_d⟩ k), fun v n'' H5 b5 D5 gv => ?_⟩
            have eS5 := b5 _ _ nSd eS
            have upS : But Ds H5 (upd H5 Ds (.lst (ys ++ [v]))) := fun b o hb e => by rw [upd_ne hb]; exact e
            refine ⟨ys, eS5, Nat.lt_of_lt_of_le (show ys.length < 64 by omega) (by decide), _, ys ++ [v], ⟨by rw [upd_ne nSd.symm]; exact D5.at_d, by rw [upd_ne nSs.symm]; exact D5.at_s, D5.n0⟩, fun b o hb e => ?_, upd_same, by rw [List.length_append, el2]; rfl, fun u hu => ?_⟩
            · rw [upd_ne (ne_of_none e nDs)]
              exact b5 _ _ hb (b4 _ _ hb e)
            · rcases List.mem_append.mp hu with hu | hu
              · exact GoodTh.but upS eS5 (.inr rfl) (GoodTh.but b5 D4.at_d (.inl rfl) (ga u hu))
              · rw [List.mem_singleton.mp hu]
                refine GoodTh.but upS eS5 (.inr rfl) (gv.weak fun b hb => ?_)
                rcases hb with e | e
                · rw [e]
                  exact ⟨_, D4.at_d⟩
                · rw [e]
                  exact ⟨_, eS⟩
          · rintro H4 ⟨n', ys, D4, b4, eS, el2, ga⟩
            exact ⟨n', Ds, ys, _, _, rfl, D4, b2.trans (b3.trans b4), eS, (ne_of_none D3.at_d nDs).symm, by omega, fun u hu => (ga u hu).weak fun b hb => .inl hb⟩
        · refine ⟨_, Dr, xsR, _, _, rfl, D3, b2.trans b3, b3 _ _ nDd eR, nDd, len3, fun x hx => ?_⟩
          obtain ⟨p, i0, z, rfl, k⟩ := rows x hx
          exact good_tup (b3.sqT ⟨_, D2.at_d⟩ k) (flat2 (.int i0) (.str z))
      · rintro σ' H3 ⟨n', Rw, xsW, y8, y9, rfl, D3, b3, eW, nWd, lW, ga⟩
        have b13 := b1.trans b3
        have S3 := S.step b13 D3
        have tab3 := tab.but b13 S.dr.at_d nTd
        have hTp3 := b13.sqT ⟨_, S.dr.at_d⟩ hTp
        obtain ⟨ts, lts, hts⟩ := allG_list ga
        refine ⟨_, rfl, _, rfl, _, rfl, Rw, _, rfl, .inl ⟨SqL.of eW, fun tl ntl => ?_⟩⟩
        refine ⟨z2, fun pl npl => ?_⟩
        have u1 := same_upd (o := .tup xsW) ntl
        have u2 := same_upd (o := .lst [.ref Rw, .ref tl]) npl
        have u := u1.trans u2
        have TG : ∀ v ∈ ([.ref Rw, .ref tl] : List V), ∃ rv, v = .ref rv ∧ ThsG K (upd (upd H3 tl (.tup xsW)) pl (.lst [.ref Rw, .ref tl])) d rv ts := fun v hv => by
          rcases List.mem_cons.mp hv with e | hv
          · exact ⟨Rw, e, xsW, .inl (SqL.of (u _ _ eW)), nWd, lts, fun i x t e1 e2 => ⟨ThAt.same u (hts i x t e1 e2).1, (hts i x t e1 e2).2⟩⟩
          · exact ⟨tl, List.mem_singleton.mp hv, xsW, .inr (SqT.of (u2 _ _ upd_same)), (ne_of_none D3.at_d ntl).symm, lts, fun i x t e1 e2 => ⟨ThAt.same u (hts i x t e1 e2).1, (hts i x t e1 e2).2⟩⟩
        have S5 := S3.same u
        refine ⟨d, s, pl, ns, n', [.ref Rw, .ref tl], rfl, S5.dr, (ne_of_none (u1 _ _ D3.at_d) npl).symm, .inl (SqL.of upd_same), (by intro z; cases z), fun v H6 hv b6 D6 => ?_⟩
        obtain ⟨rv, rfl, tg⟩ := TG v hv
        have tg6 := tg.but b6 S5.dr.at_d
        have S6 := S5.step b6 D6
        have tab6 := (tab3.but (same_but u) S3.dr.at_d nTd).but b6 S5.dr.at_d nTd
        have hTp6 := b6.sqT ⟨_, S5.dr.at_d⟩ (Same.sqT u hTp3)
        have lts2 : ts.length < 32 := by omega
        rcases hnm with ⟨rfl, rfl⟩ | ⟨rfl, rfl⟩
        · have eT6 : H6 Tb = some (.dK []) := tab6
          refine ⟨_, rfl, _, rfl, Tb, _, rfl, DPut.k (k := Sum.inr "a") eT6 (by show 0 < sizeLine; decide), ?_⟩
          exact ⟨_, _, _, _, _, rfl, dk_S eT6 S6, dk_T eT6 hTp6, rv, ts, upd_same, dk_G eT6 tg6, lts2⟩
        · obtain ⟨ra, tsA, eT6, tA, lA⟩ := tab6
          refine ⟨_, rfl, _, rfl, Tb, _, rfl, DPut.k (k := Sum.inr "b") eT6 (by show 1 < sizeLine; decide), ?_⟩
          rw [putT1]
          exact ⟨_, _, _, _, _, rfl, dk_S eT6 S6, dk_T eT6 hTp6, ra, tsA, rv, ts, upd_same, dk_G eT6 tA, lA, dk_G eT6 tg6, lts2⟩
    · rintro σ H' ⟨n, y6, y7, y8, y9, rfl, S, _, tab⟩
      obtain ⟨ra, tsA, rb, tsB, eT, tA, lA, tB, lB⟩ := tab
      -- right
      refine ⟨Tb, .dK (kvT ra rb), eT, trivial, fun od => ?_⟩
      have gA : ∀ {H2 : Hp}, Same (upd H' Tb (.frz od (.dK (kvT ra rb)))) H2 → DGet H2 Tb (.str "a") (some (.ref ra)) := fun sm => .inl ⟨_, .inr "a", .inr ⟨od, sm _ _ upd_same⟩, rfl, (kvTa ra rb).symm⟩
      have gB : ∀ {H2 : Hp}, Same (upd H' Tb (.frz od (.dK (kvT ra rb)))) H2 → DGet H2 Tb (.str "b") (some (.ref rb)) := fun sm => .inl ⟨_, .inr "b", .inr ⟨od, sm _ _ upd_same⟩, rfl, (kvTb ra rb).symm⟩
      have tA1 := (dk_G (o := .frz od (.dK (kvT ra rb))) eT tA).at
      have tB1 := (dk_G (o := .frz od (.dK (kvT ra rb))) eT tB).at
      refine ⟨_, rfl, Tb, od, rfl, .inl ⟨kvT ra rb, upd_same, fun D nD => ?_⟩⟩
      have nDT : D ≠ Tb := (ne_of_none upd_same nD).symm
      refine lc_it (walk_keys (d := Tb) (o := od) (kvs := kvT ra rb)) (fun i H2 => Same (upd H' Tb (.frz od (.dK (kvT ra rb)))) H2 ∧ ∃ ps : List Addr, H2 D = some (.lst (ps.map V.ref)) ∧ ps.length = i ∧ ∀ (j : Nat) (p : Addr) (kv : L2.Key × V), ps[j]? = some p → (kvR (okT tsA) (okT tsB))[j]? = some kv → SqT K H2 p [kV kv.1, kv.2])
        ⟨same_upd nD, [], upd_same, rfl, fun j p kv h1 _ => by cases h1⟩ (fun i H2 _ z => z.1 _ _ upd_same) ?_ ?_
      · rintro i x H2 H3 hi ⟨sm, ps, eD, el, hp⟩ ⟨rfl, k, v, e1, rfl⟩
        match i, e1 with
        | 0, e1 =>
          cases e1
          refine ⟨rfl, _, rfl, ?_⟩
          refine all_rows (Tb := Tb) (nm := .str "a") rfl rfl (gA sm) (tA1.same sm) lA (Nat.lt_of_lt_of_le (by decide : 9 < 12) (Nat.le_of_eq rfl)) fun H4 s4 => ?_
          refine ⟨z2, fun p np => ?_⟩
          have u := same_upd (o := .tup [.str "a", .bl (okT tsA)]) np
          have eD4 := u _ _ (s4 _ _ eD)
          refine ⟨_, eD4, Nat.lt_of_lt_of_le (show (ps.map V.ref).length < 64 by rw [List.length_map]; omega) (by decide), fun b o e => ?_, ps ++ [p], ?_, by rw [List.length_append, el]; rfl, fun j q kv h1 h2 => ?_⟩
          · rw [upd_ne (ne_of_none e nD)]
            exact u _ _ (s4 _ _ (sm _ _ e))
          · rw [upd_same, List.map_append]
            rfl
          · have keepP : ∀ {p2 : Addr} {ys : List V}, SqT K (upd H4 p (.tup [.str "a", .bl (okT tsA)])) p2 ys → SqT K (upd (upd H4 p (.tup [.str "a", .bl (okT tsA)])) D (.lst (ps.map V.ref ++ [.ref p]))) p2 ys := fun k => But.sqT (d := D) (fun b o hb e => by rw [upd_ne hb]; exact e) ⟨_, eD4⟩ k
            by_cases c : j < ps.length
            · rw [List.getElem?_append_left c] at h1
              exact keepP (Same.sqT u (Same.sqT s4 (hp j q kv h1 h2)))
            · rw [List.getElem?_append_right (by omega)] at h1
              have ej : j = 0 := by
                have := (List.getElem?_eq_some_iff.mp h1).1
                rw [List.length_singleton] at this
                omega
              subst ej
              rw [el] at h1
              cases h1
              cases h2
              exact keepP (SqT.of upd_same)
        | 1, e1 =>
          cases e1
          refine ⟨rfl, _, rfl, ?_⟩
          refine all_rows (Tb := Tb) (nm := .str "b") rfl rfl (gB sm) (tB1.same sm) lB (Nat.lt_of_lt_of_le (by decide : 9 < 12) (Nat.le_of_eq rfl)) fun H4 s4 => ?_
          refine ⟨z2, fun p np => ?_⟩
          have u := same_upd (o := .tup [.str "b", .bl (okT tsB)]) np
          have eD4 := u _ _ (s4 _ _ eD)
          refine ⟨_, eD4, Nat.lt_of_lt_of_le (show (ps.map V.ref).length < 64 by rw [List.length_map]; omega) (by decide), fun b o e => ?_, ps ++ [p], ?_, by rw [List.length_append, el]; rfl, fun j q kv h1 h2 => ?_⟩
          · rw [upd_ne (ne_of_none e nD)]
            exact u _ _ (s4 _ _ (sm _ _ e))
          · rw [upd_same, List.map_append]
            rfl
          · have keepP : ∀ {p2 : Addr} {ys : List V}, SqT K (upd H4 p (.tup [.str "b", .bl (okT tsB)])) p2 ys → SqT K (upd (upd H4 p (.tup [.str "b", .bl (okT tsB)])) D (.lst (ps.map V.ref ++ [.ref p]))) p2 ys := fun k => But.sqT (d := D) (fun b o hb e => by rw [upd_ne hb]; exact e) ⟨_, eD4⟩ k
            by_cases c : j < ps.length
            · rw [List.getElem?_append_left c] at h1
              exact keepP (Same.sqT u (Same.sqT s4 (hp j q kv h1 h2)))
            · rw [List.getElem?_append_right (by omega)] at h1
              have ej : j = 1 := by
                have := (List.getElem?_eq_some_iff.mp h1).1
                rw [List.length_singleton] at this
                omega
              subst ej
              rw [el] at h1
              cases h1
              cases h2
              exact keepP (SqT.of upd_same)
        | i + 2, e1 => cases e1
      rintro H2 ⟨sm, ps, eD, el, hp⟩
      have eF := sm _ _ upd_same
      refine ⟨eF, D, ps, kvR (okT tsA) (okT tsB), rfl, SqL.of (by rw [upd_ne nDT]; exact eD), ?_, fun R nR => ?_⟩
      · match ps, el, hp with
        | [p1, p2], _, hp => exact .cons (frz_T eF (hp 0 p1 _ rfl rfl)) (.cons (frz_T eF (hp 1 p2 _ rfl rfl)) .nil)
      rw [mergeR]
      have S2 := S.same (unlock eT sm)
      have u5 := same_upd (o := .dK (kvR (okT tsA) (okT tsB))) nR
      have S5 := S2.same u5
      have eT5 := u5 _ _ (upd_same (H := H2) (a := Tb) (o := .dK (kvT ra rb)))
      have eR5 : upd (upd H2 Tb (.dK (kvT ra rb))) R (.dK (kvR (okT tsA) (okT tsB))) R = some (.dK (kvR (okT tsA) (okT tsB))) := upd_same
      have nRT : R ≠ Tb := (ne_of_none upd_same nR).symm
      have sAll := (unlock eT sm).trans u5
      have tA5 := tA.at.same sAll
      have tB5 := tB.at.same sAll
      have gA5 := tA.but (same_but sAll) S.dr.at_d
      have gB5 := tB.but (same_but sAll) S.dr.at_d
      generalize upd (upd H2 Tb (.dK (kvT ra rb))) R (.dK (kvR (okT tsA) (okT tsB))) = H5 at S5 eT5 eR5 tA5 tB5 gA5 gB5 ⊢
      -- are_rows tells the same
      refine ⟨Tb, .dK (kvT ra rb), eT5, trivial, fun od2 => ?_⟩
      have gA : ∀ {H2 : Hp}, Same (upd H5 Tb (.frz od2 (.dK (kvT ra rb)))) H2 → DGet H2 Tb (.str "a") (some (.ref ra)) := fun sm => .inl ⟨_, .inr "a", .inr ⟨od2, sm _ _ upd_same⟩, rfl, (kvTa ra rb).symm⟩
      have gB : ∀ {H2 : Hp}, Same (upd H5 Tb (.frz od2 (.dK (kvT ra rb)))) H2 → DGet H2 Tb (.str "b") (some (.ref rb)) := fun sm => .inl ⟨_, .inr "b", .inr ⟨od2, sm _ _ upd_same⟩, rfl, (kvTb ra rb).symm⟩
      have tA6 := (dk_G (o := .frz od2 (.dK (kvT ra rb))) eT5 gA5).at
      have tB6 := (dk_G (o := .frz od2 (.dK (kvT ra rb))) eT5 gB5).at
      have C6 := dk_C (o := .frz od2 (.dK (kvT ra rb))) eT5 S5.co
      have eR6 : upd H5 Tb (.frz od2 (.dK (kvT ra rb))) R = some (.dK (kvR (okT tsA) (okT tsB))) := by
        rw [upd_ne nRT]
        exact eR5
      refine ⟨_, rfl, Tb, od2, rfl, .inl ⟨kvT ra rb, upd_same, for_it (walk_keys (d := Tb) (o := od2) (kvs := kvT ra rb)) (fun i σ H6 => ∃ y6, σ = [some (.ref a), some (.ref d), some (.ref cols), some (.ref job), some (.int (0 + (turn : Nat))), some (.ref Tb), y6, y7, y8, y9, some (.ref R), y11] ∧ Same (upd H5 Tb (.frz od2 (.dK (kvT ra rb)))) H6)
        ⟨_, rfl, Same.refl _⟩ (fun i σ H6 _ ⟨_, _, sm6⟩ => sm6 _ _ upd_same) ?_ ?_⟩⟩
      · rintro i x σ H6 H7 hi ⟨y6, rfl, sm6⟩ ⟨rfl, k, v, e1, rfl⟩
        match i, e1 with
        | 0, e1 =>
          cases e1
          refine ⟨_, rfl, _, rfl, Tb, _, rfl, gA sm6, _, rfl, ra, tsA, cols, cs2, rfl, tA6.same sm6, by omega, C6.same sm6, by decide, fun H7 s7 => ?_⟩
          refine ⟨_, rfl, _, rfl, R, _, rfl, (show DGet H7 R (.str "a") (some (.bl (okT tsA))) from kvRa _ _ ▸ DGet.k (k := Sum.inr "a") (s7 _ _ (sm6 _ _ eR6))), rfl, _, rfl, iteNS rfl ?_⟩
          exact ⟨_, rfl, sm6.trans s7⟩
        | 1, e1 =>
          cases e1
          refine ⟨_, rfl, _, rfl, Tb, _, rfl, gB sm6, _, rfl, rb, tsB, cols, cs2, rfl, tB6.same sm6, by omega, C6.same sm6, by decide, fun H7 s7 => ?_⟩
          refine ⟨_, rfl, _, rfl, R, _, rfl, (show DGet H7 R (.str "b") (some (.bl (okT tsB))) from kvRb _ _ ▸ DGet.k (k := Sum.inr "b") (s7 _ _ (sm6 _ _ eR6))), rfl, _, rfl, iteNS rfl ?_⟩
          exact ⟨_, rfl, sm6.trans s7⟩
        | i + 2, e1 => cases e1
      rintro σ H6 ⟨y6, rfl, sm6⟩
      refine ⟨sm6 _ _ upd_same, ?_⟩
      have s8 := unlock eT5 sm6
      have S8 := S5.same s8
      have eR8 := s8 _ _ eR5
      have eT8 := s8 _ _ eT5
      have tA8 := tA5.same s8
      have tB8 := tB5.same s8
      generalize upd H6 Tb (.dK (kvT ra rb)) = H8 at S8 eR8 eT8 tA8 tB8 ⊢
      have ga : DGet H8 R (.str "a") (some (.bl (okT tsA))) := kvRa _ _ ▸ DGet.k (k := Sum.inr "a") eR8
      have gb : DGet H8 R (.str "b") (some (.bl (okT tsB))) := kvRb _ _ ▸ DGet.k (k := Sum.inr "b") eR8
      clear eR8
      cases hA : okT tsA with
      | true =>
        rw [hA] at ga
        cases hB : okT tsB with
        | true =>
          rw [hB] at gb
          have e : toldT tsA tsB = .non := by
            unfold toldT
            rw [hB, hA]
            rfl
          refine ⟨_, rfl, R, _, rfl, ga, _, rfl, _, rfl, R, _, rfl, gb, _, rfl, _, rfl, _, rfl, job, cols, steps, s1, s2, s3, e1, e2, e3, in3, Tb, ra, rb, tsA, tsB, rfl, S8.jb, S8.co, eT8, tA8, tB8, lA, lB, fun H9 s9 => ⟨_, rfl, by rw [e]; rfl, _, rfl, iteNB (by rw [e]; exact decide_eq_true rfl) ?_⟩⟩
          exact ⟨_, _, _, _, _, _, _, _, _, rfl, S8.same s9⟩
        | false =>
          rw [hB] at gb
          have e : toldT tsA tsB = .str "b" := by
            unfold toldT
            rw [hB]
            rfl
          refine ⟨_, rfl, R, _, rfl, ga, _, rfl, _, rfl, R, _, rfl, gb, _, rfl, _, rfl, R, _, rfl, gb, _, rfl, _, rfl, _, rfl, job, cols, steps, s1, s2, s3, e1, e2, e3, in3, Tb, ra, rb, tsA, tsB, rfl, S8.jb, S8.co, eT8, tA8, tB8, lA, lB, fun H9 s9 => ⟨_, rfl, by rw [e]; rfl, _, rfl, iteNB (by rw [e]; exact decide_eq_true rfl) ?_⟩⟩
          exact ⟨_, _, _, _, _, _, _, _, _, rfl, S8.same s9⟩
      | false =>
        rw [hA] at ga
        cases hB : okT tsB with
        | true =>
          rw [hB] at gb
          have e : toldT tsA tsB = .str "a" := by
            unfold toldT
            rw [hB, hA]
            rfl
          refine ⟨_, rfl, R, _, rfl, ga, _, rfl, _, rfl, R, _, rfl, gb, _, rfl, _, rfl, _, rfl, job, cols, steps, s1, s2, s3, e1, e2, e3, in3, Tb, ra, rb, tsA, tsB, rfl, S8.jb, S8.co, eT8, tA8, tB8, lA, lB, fun H9 s9 => ⟨_, rfl, by rw [e]; rfl, _, rfl, iteNB (by rw [e]; exact decide_eq_true rfl) ?_⟩⟩
          exact ⟨_, _, _, _, _, _, _, _, _, rfl, S8.same s9⟩
        | false =>
          rw [hB] at gb
          have e : toldT tsA tsB = .str "b" := by
            unfold toldT
            rw [hB]
            rfl
          refine ⟨_, rfl, R, _, rfl, ga, _, rfl, _, rfl, R, _, rfl, gb, _, rfl, _, rfl, _, rfl, job, cols, steps, s1, s2, s3, e1, e2, e3, in3, Tb, ra, rb, tsA, tsB, rfl, S8.jb, S8.co, eT8, tA8, tB8, lA, lB, fun H9 s9 => ⟨_, rfl, by rw [e]; rfl, _, rfl, iteNB (by rw [e]; exact decide_eq_true rfl) ?_⟩⟩
          exact ⟨_, _, _, _, _, _, _, _, _, rfl, S8.same s9⟩
  · rintro σ H' ⟨n, y4, y5, y6, y7, y8, y9, y10, y11, rfl, S⟩
    exact q _
end
end Kx

namespace Kx
open PySem PySem.Spec PyProof.Rows L2
/-- an error of the class at S is what «except S» names -/
theorem exm_own {K : PySem.W.Frag} {S : Addr} (h1 : PySem.W.subIn K (.ref S) (.type "BaseException") = some true) (h2 : PySem.W.isClsIn K S = true) (h3 : PySem.W.typeIn K (.ref S) = some (.type "type")) (h4 : PySem.W.subIn K (.ref S) (.ref S) = some true) : PySem.W.exmOne K (.ref S) (.ref S) = some true := by
  have sub : (PySem.W.subIn K (.ref S) (.type "BaseException") == some true) = true := by rw [h1] <;> rfl
  have cls : ((PySem.W.clsIn K S).isSome && PySem.W.typeIn K (.ref S) == some (.type "type")) = true := by
    rw [show (PySem.W.clsIn K S).isSome = true from h2, h3] <;> rfl
  show (if (PySem.W.subIn K (.ref S) (.type "BaseException") == some true) = true then (if ((PySem.W.clsIn K S).isSome && PySem.W.typeIn K (.ref S) == some (.type "type")) = true then PySem.W.subIn K (.ref S) (.ref S) else none) else none) = some true
  rw [if_pos sub, if_pos cls, h4]
theorem all_mk {l : PySem.W.OpenLaw} {w : World} {K : PySem.W.Frag} {h : Heap} {mg : Str → Option Value} {fa : Addr} (X : K.In h) (G : h.Ns mainGlobals mg) (hfa : mg "law" = some (.ref fa))
    {f1 f2 f3 f4 f5 f6 f7 f8 f9 f10 f11 f12 f13 f14 f15 f16 f17 f18 f19 f20 : Addr} {od1 an1 od2 an2 od3 an3 od4 an4 od5 an5 od6 an6 od7 an7 od8 an8 od9 an9 od10 an10 od11 an11 od12 an12 od13 an13 od14 an14 od15 an15 od16 an16 od17 an17 od18 an18 od19 an19 od20 an20 : Option Addr} {sl1 sl2 sl3 sl4 sl5 sl6 sl7 sl8 sl9 sl10 sl11 sl12 sl13 sl14 sl15 sl16 sl17 sl18 sl19 sl20 : Array (Option Value)} {oc1 kV1 dc1 pm1 cd1 ct1 oc2 kV2 dc2 pm2 cd2 ct2 oc3 kV3 dc3 pm3 cd3 ct3 oc4 kV4 dc4 pm4 cd4 ct4 oc5 kV5 dc5 pm5 cd5 ct5 oc6 kV6 dc6 pm6 cd6 ct6 oc7 kV7 dc7 pm7 cd7 ct7 oc8 kV8 dc8 pm8 cd8 ct8 oc9 kV9 dc9 pm9 cd9 ct9 oc10 kV10 dc10 pm10 cd10 ct10 oc11 kV11 dc11 pm11 cd11 ct11 oc12 kV12 dc12 pm12 cd12 ct12 oc13 kV13 dc13 pm13 cd13 ct13 oc14 kV14 dc14 pm14 cd14 ct14 oc15 kV15 dc15 pm15 cd15 ct15 oc16 kV16 dc16 pm16 cd16 ct16 oc17 kV17 dc17 pm17 cd17 ct17 oc18 kV18 dc18 pm18 cd18 ct18 oc19 kV19 dc19 pm19 cd19 ct19 oc20 kV20 dc20 pm20 cd20 ct20 : Value} {u1 u2 : Tok} {C fI N BE dl : Addr} {nm qn : Str} {bs : List Value} {sn : List Str} {sub : List Value} {ab : Bool} {col : Option Bool} {dd odI anI : Option Addr} {n0 n1 n2 n3 n5 : Option Value} {slI : Array (Option Value)} {ocI dcI pmI cdI ctI : Value} {es : Array DictEntry} {nn : Nat}
    (a1 : PySem.W.nsIn K mainGlobals "is_of_kind" = some (some (.ref f1))) (l1 : K.lookup f1 = some ⟨oc1, od1, .func (PySem.W.fnOf "is_of_kind" "is_of_kind" (defArgs sOfKind) (defBody sOfKind) (defScope sOfKind) .none kV1 dc1 pm1 an1 cd1 ct1), sl1⟩) (c1 : PySem.W.codeIn K cd1 "is_of_kind" = true) (k1 : PySem.W.keepIn K (.ref f1) = true)
    (a2 : PySem.W.nsIn K mainGlobals "is_row" = some (some (.ref f2))) (l2 : K.lookup f2 = some ⟨oc2, od2, .func (PySem.W.fnOf "is_row" "is_row" (defArgs sIsRow) (defBody sIsRow) (defScope sIsRow) .none kV2 dc2 pm2 an2 cd2 ct2), sl2⟩) (c2 : PySem.W.codeIn K cd2 "is_row" = true) (k2 : PySem.W.keepIn K (.ref f2) = true)
    (a3 : PySem.W.nsIn K mainGlobals "are_rows" = some (some (.ref f3))) (l3 : K.lookup f3 = some ⟨oc3, od3, .func (PySem.W.fnOf "are_rows" "are_rows" (defArgs sAreRows) (defBody sAreRows) (defScope sAreRows) .none kV3 dc3 pm3 an3 cd3 ct3), sl3⟩) (c3 : PySem.W.codeIn K cd3 "are_rows" = true) (k3 : PySem.W.keepIn K (.ref f3) = true)
    (a4 : PySem.W.nsIn K mainGlobals "unlike_columns" = some (some (.ref f4))) (l4 : K.lookup f4 = some ⟨oc4, od4, .func (PySem.W.fnOf "unlike_columns" "unlike_columns" (defArgs sUnlike) (defBody sUnlike) (defScope sUnlike) .none kV4 dc4 pm4 an4 cd4 ct4), sl4⟩) (c4 : PySem.W.codeIn K cd4 "unlike_columns" = true) (k4 : PySem.W.keepIn K (.ref f4) = true)
    (a5 : PySem.W.nsIn K mainGlobals "columns_of_read" = some (some (.ref f5))) (l5 : K.lookup f5 = some ⟨oc5, od5, .func (PySem.W.fnOf "columns_of_read" "columns_of_read" (defArgs sRead) (defBody sRead) (defScope sRead) .none kV5 dc5 pm5 an5 cd5 ct5), sl5⟩) (c5 : PySem.W.codeIn K cd5 "columns_of_read" = true) (k5 : PySem.W.keepIn K (.ref f5) = true)
    (a6 : PySem.W.nsIn K mainGlobals "columns_of_union" = some (some (.ref f6))) (l6 : K.lookup f6 = some ⟨oc6, od6, .func (PySem.W.fnOf "columns_of_union" "columns_of_union" (defArgs sUnion) (defBody sUnion) (defScope sUnion) .none kV6 dc6 pm6 an6 cd6 ct6), sl6⟩) (c6 : PySem.W.codeIn K cd6 "columns_of_union" = true) (k6 : PySem.W.keepIn K (.ref f6) = true)
    (a7 : PySem.W.nsIn K mainGlobals "columns_of" = some (some (.ref f7))) (l7 : K.lookup f7 = some ⟨oc7, od7, .func (PySem.W.fnOf "columns_of" "columns_of" (defArgs sCols) (defBody sCols) (defScope sCols) .none kV7 dc7 pm7 an7 cd7 ct7), sl7⟩) (c7 : PySem.W.codeIn K cd7 "columns_of" = true) (k7 : PySem.W.keepIn K (.ref f7) = true)
    (a8 : PySem.W.nsIn K mainGlobals "places_of" = some (some (.ref f8))) (l8 : K.lookup f8 = some ⟨oc8, od8, .func (PySem.W.fnOf "places_of" "places_of" (defArgs sPlaces) (defBody sPlaces) (defScope sPlaces) .none kV8 dc8 pm8 an8 cd8 ct8), sl8⟩) (c8 : PySem.W.codeIn K cd8 "places_of" = true) (k8 : PySem.W.keepIn K (.ref f8) = true)
    (a9 : PySem.W.nsIn K mainGlobals "step_rows" = some (some (.ref f9))) (l9 : K.lookup f9 = some ⟨oc9, od9, .func (PySem.W.fnOf "step_rows" "step_rows" (defArgs sStep) (defBody sStep) (defScope sStep) .none kV9 dc9 pm9 an9 cd9 ct9), sl9⟩) (c9 : PySem.W.codeIn K cd9 "step_rows" = true) (k9 : PySem.W.keepIn K (.ref f9) = true)
    (a10 : PySem.W.nsIn K mainGlobals "check_tables" = some (some (.ref f10))) (l10 : K.lookup f10 = some ⟨oc10, od10, .func (PySem.W.fnOf "check_tables" "check_tables" (defArgs sCheck) (defBody sCheck) (defScope sCheck) .none kV10 dc10 pm10 an10 cd10 ct10), sl10⟩) (c10 : PySem.W.codeIn K cd10 "check_tables" = true) (k10 : PySem.W.keepIn K (.ref f10) = true)
    (a11 : PySem.W.nsIn K mainGlobals "meaning" = some (some (.ref f11))) (l11 : K.lookup f11 = some ⟨oc11, od11, .func (PySem.W.fnOf "meaning" "meaning" (defArgs sMeaning) (defBody sMeaning) (defScope sMeaning) .none kV11 dc11 pm11 an11 cd11 ct11), sl11⟩) (c11 : PySem.W.codeIn K cd11 "meaning" = true) (k11 : PySem.W.keepIn K (.ref f11) = true)
    (a12 : PySem.W.nsIn K mainGlobals "_law_cell_at" = some (some (.ref f12))) (l12 : K.lookup f12 = some ⟨oc12, od12, .func (PySem.W.fnOf "_law_cell_at" "_law_cell_at" (defArgs sCell) (defBody sCell) (defScope sCell) .none kV12 dc12 pm12 an12 cd12 ct12), sl12⟩) (c12 : PySem.W.codeIn K cd12 "_law_cell_at" = true) (k12 : PySem.W.keepIn K (.ref f12) = true)
    (a13 : PySem.W.nsIn K mainGlobals "_law_draw" = some (some (.ref f13))) (l13 : K.lookup f13 = some ⟨oc13, od13, .func (PySem.W.fnOf "_law_draw" "_law_draw" (defArgs sDraw) (defBody sDraw) (defScope sDraw) .none kV13 dc13 pm13 an13 cd13 ct13), sl13⟩) (c13 : PySem.W.codeIn K cd13 "_law_draw" = true) (k13 : PySem.W.keepIn K (.ref f13) = true)
    (a14 : PySem.W.nsIn K mainGlobals "_law_number" = some (some (.ref f14))) (l14 : K.lookup f14 = some ⟨oc14, od14, .func (PySem.W.fnOf "_law_number" "_law_number" (defArgs sNumb) (defBody sNumb) (defScope sNumb) .none kV14 dc14 pm14 an14 cd14 ct14), sl14⟩) (c14 : PySem.W.codeIn K cd14 "_law_number" = true) (k14 : PySem.W.keepIn K (.ref f14) = true)
    (a15 : PySem.W.nsIn K mainGlobals "_law_next" = some (some (.ref f15))) (l15 : K.lookup f15 = some ⟨oc15, od15, .func (PySem.W.fnOf "_law_next" "_law_next" (defArgs sNext) (defBody sNext) (defScope sNext) .none kV15 dc15 pm15 an15 cd15 ct15), sl15⟩) (c15 : PySem.W.codeIn K cd15 "_law_next" = true) (k15 : PySem.W.keepIn K (.ref f15) = true)
    (a16 : PySem.W.nsIn K mainGlobals "_law_pick" = some (some (.ref f16))) (l16 : K.lookup f16 = some ⟨oc16, od16, .func (PySem.W.fnOf "_law_pick" "_law_pick" (defArgs sPick) (defBody sPick) (defScope sPick) .none kV16 dc16 pm16 an16 cd16 ct16), sl16⟩) (c16 : PySem.W.codeIn K cd16 "_law_pick" = true) (k16 : PySem.W.keepIn K (.ref f16) = true)
    (a17 : PySem.W.nsIn K mainGlobals "_law_spoilt" = some (some (.ref f17))) (l17 : K.lookup f17 = some ⟨oc17, od17, .func (PySem.W.fnOf "_law_spoilt" "_law_spoilt" (defArgs sSpoilt) (defBody sSpoilt) (defScope sSpoilt) .none kV17 dc17 pm17 an17 cd17 ct17), sl17⟩) (c17 : PySem.W.codeIn K cd17 "_law_spoilt" = true) (k17 : PySem.W.keepIn K (.ref f17) = true)
    (a18 : PySem.W.nsIn K mainGlobals "_law_is_row" = some (some (.ref f18))) (l18 : K.lookup f18 = some ⟨oc18, od18, .func (PySem.W.fnOf "_law_is_row" "_law_is_row" (defArgs sLRow) (defBody sLRow) (defScope sLRow) .none kV18 dc18 pm18 an18 cd18 ct18), sl18⟩) (c18 : PySem.W.codeIn K cd18 "_law_is_row" = true) (k18 : PySem.W.keepIn K (.ref f18) = true)
    (a19 : PySem.W.nsIn K mainGlobals "_law_told" = some (some (.ref f19))) (l19 : K.lookup f19 = some ⟨oc19, od19, .func (PySem.W.fnOf "_law_told" "_law_told" (defArgs sTold) (defBody sTold) (defScope sTold) .none kV19 dc19 pm19 an19 cd19 ct19), sl19⟩) (c19 : PySem.W.codeIn K cd19 "_law_told" = true) (k19 : PySem.W.keepIn K (.ref f19) = true)
    (a20 : PySem.W.nsIn K mainGlobals "law" = some (some (.ref f20))) (l20 : K.lookup f20 = some ⟨oc20, od20, .func (PySem.W.fnOf "law" "law" (defArgs sLaw) (defBody sLaw) (defScope sLaw) .none kV20 dc20 pm20 an20 cd20 ct20), sl20⟩) (c20 : PySem.W.codeIn K cd20 "law" = true) (k20 : PySem.W.keepIn K (.ref f20) = true)
    (z1 : PySem.W.nsIn K mainGlobals "len" = some none)
    (z2 : PySem.W.nsIn K mainGlobals "int" = some none)
    (z3 : PySem.W.nsIn K mainGlobals "range" = some none)
    (z4 : PySem.W.nsIn K mainGlobals "sorted" = some none)
    (z5 : PySem.W.nsIn K mainGlobals "set" = some none)
    (z6 : PySem.W.nsIn K mainGlobals "tuple" = some none)
    (z7 : PySem.W.nsIn K mainGlobals "list" = some none)
    (z8 : PySem.W.nsIn K mainGlobals "str" = some none)
    (z9 : PySem.W.nsIn K mainGlobals "bool" = some none)
    (z10 : PySem.W.nsIn K mainGlobals "dict" = some none)
    (z11 : PySem.W.nsIn K mainGlobals "isinstance" = some none)
    (z12 : PySem.W.nsIn K mainGlobals "all" = some none)
    (z13 : PySem.W.nsIn K mainGlobals "zip" = some none)
    (z14 : PySem.W.nsIn K mainGlobals "enumerate" = some none)
    (g1 : PySem.W.nsIn K mainGlobals "LEAST_INT" = some (some (.int (-9223372036854775808) u1)))
    (g2 : PySem.W.nsIn K mainGlobals "GREATEST_INT" = some (some (.int (9223372036854775807) u2)))
    (aC : PySem.W.nsIn K mainGlobals "BadThing" = some (some (.ref C)))
    (xL : K.lookup C = some (excClassObj nm qn C N bs [.ref BE, .type "Exception", .type "BaseException", .type "object"] true sn sub ab col dd n0 n1 n2 n3 n5 "Exception.__new__"))
    (sa : PySem.W.findIn K (.ref C) "__setattr__" = some (some (.builtin "object.__setattr__"))) (gat : PySem.W.findIn K (.ref C) "__getattribute__" = some (some (.builtin "BaseException.__getattribute__"))) (gg : PySem.W.findIn K (.ref C) "__getattr__" = some none) (nb : PySem.W.findIn K (.ref C) "thing" = some none)
    (ai : PySem.W.findIn K (.ref C) "__init__" = some (some (.ref fI))) (ti : PySem.W.typeIn K (.ref fI) = some (.type "function"))
    (li : K.lookup fI = some ⟨ocI, odI, .func (PySem.W.fnOf "__init__" "BadThing.__init__" (PySem.BadX.iA ⟨6, 17, 6, 21⟩ ⟨6, 23, 6, 28⟩) (PySem.BadX.iB ⟨7, 8, 7, 12⟩ ⟨7, 8, 7, 18⟩ ⟨7, 21, 7, 26⟩ ⟨7, 8, 7, 26⟩) PySem.BadX.iS .none .none dcI pmI anI cdI ctI), slI⟩) (ci : PySem.W.codeIn K cdI "BadThing.__init__" = true)
    (kC : PySem.W.keepIn K (.ref C) = true) (eC : PySem.W.subIn K (.ref C) (.type "BaseException") = some true) (tyC : PySem.W.typeIn K (.ref C) = some (.type "type")) (hC : PySem.W.hasDictIn K C = true) (iC : PySem.W.isClsIn K C = true) (sC : PySem.W.subIn K (.ref C) (.ref C) = some true)
    (gD : PySem.W.nsIn K mainGlobals "CHECKERS" = some (some (.ref dl))) (lD : K.lookup dl = some ⟨.type "dict", none, .dict es nn, #[]⟩) (gR : PySem.W.nsIn K dl "read" = some (some (.ref f5))) (gU : PySem.W.nsIn K dl "union" = some (some (.ref f6))) (gK : PySem.W.KeysLit w.params es.toList) :
    ∃ fd : FuncData, (∀ (s : Shared) (v : Value), BindsTo s fd ⟨[v], []⟩ [("script", v)]) ∧ ∀ base : Heap, K.In base → base.Ns mainGlobals mg → FnOk l.prog w K mg base CX0 7 fa fd ["script"] (spLaw K) := by
  have e := hfa.symm.trans (PySem.W.mg_of X G a20)
  cases e
  have F1 := fun_mk (st := sOfKind) l1 c1 k1
  have b1 := F1.binds (ps := ["thing", "kind"]) fun _ _ _ _ _ _ us hl => match us, hl with | [_, _], _ => rfl
  have m1 := PySem.W.mg_of X G a1
  have F2 := fun_mk (st := sIsRow) l2 c2 k2
  have b2 := F2.binds (ps := ["thing", "columns"]) fun _ _ _ _ _ _ us hl => match us, hl with | [_, _], _ => rfl
  have m2 := PySem.W.mg_of X G a2
  have F3 := fun_mk (st := sAreRows) l3 c3 k3
  have b3 := F3.binds (ps := ["thing", "columns"]) fun _ _ _ _ _ _ us hl => match us, hl with | [_, _], _ => rfl
  have m3 := PySem.W.mg_of X G a3
  have F4 := fun_mk (st := sUnlike) l4 c4 k4
  have b4 := F4.binds (ps := ["name", "columns"]) fun _ _ _ _ _ _ us hl => match us, hl with | [_, _], _ => rfl
  have m4 := PySem.W.mg_of X G a4
  have F5 := fun_mk (st := sRead) l5 c5 k5
  have b5 := F5.binds (ps := ["name", "given", "details"]) fun _ _ _ _ _ _ us hl => match us, hl with | [_, _, _], _ => rfl
  have m5 := PySem.W.mg_of X G a5
  have F6 := fun_mk (st := sUnion) l6 c6 k6
  have b6 := F6.binds (ps := ["name", "given", "details"]) fun _ _ _ _ _ _ us hl => match us, hl with | [_, _, _], _ => rfl
  have m6 := PySem.W.mg_of X G a6
  have F7 := fun_mk (st := sCols) l7 c7 k7
  have b7 := F7.binds (ps := ["job"]) fun _ _ _ _ _ _ us hl => match us, hl with | [_], _ => rfl
  have m7 := PySem.W.mg_of X G a7
  have F8 := fun_mk (st := sPlaces) l8 c8 k8
  have b8 := F8.binds (ps := ["columns"]) fun _ _ _ _ _ _ us hl => match us, hl with | [_], _ => rfl
  have m8 := PySem.W.mg_of X G a8
  have F9 := fun_mk (st := sStep) l9 c9 k9
  have b9 := F9.binds (ps := ["what", "details", "lists", "columns"]) fun _ _ _ _ _ _ us hl => match us, hl with | [_, _, _, _], _ => rfl
  have m9 := PySem.W.mg_of X G a9
  have F10 := fun_mk (st := sCheck) l10 c10 k10
  have b10 := F10.binds (ps := ["job", "data"]) fun _ _ _ _ _ _ us hl => match us, hl with | [_, _], _ => rfl
  have m10 := PySem.W.mg_of X G a10
  have F11 := fun_mk (st := sMeaning) l11 c11 k11
  have b11 := F11.binds (ps := ["job", "data"]) fun _ _ _ _ _ _ us hl => match us, hl with | [_, _], _ => rfl
  have m11 := PySem.W.mg_of X G a11
  have F12 := fun_mk (st := sCell) l12 c12 k12
  have b12 := F12.binds (ps := ["script", "k"]) fun _ _ _ _ _ _ us hl => match us, hl with | [_, _], _ => rfl
  have m12 := PySem.W.mg_of X G a12
  have F13 := fun_mk (st := sDraw) l13 c13 k13
  have b13 := F13.binds (ps := ["cell", "k", "bound"]) fun _ _ _ _ _ _ us hl => match us, hl with | [_, _, _], _ => rfl
  have m13 := PySem.W.mg_of X G a13
  have F14 := fun_mk (st := sNumb) l14 c14 k14
  have b14 := F14.binds (ps := ["cell", "k", "bound"]) fun _ _ _ _ _ _ us hl => match us, hl with | [_, _, _], _ => rfl
  have m14 := PySem.W.mg_of X G a14
  have F15 := fun_mk (st := sNext) l15 c15 k15
  have b15 := F15.binds (ps := ["draw", "bound"]) fun _ _ _ _ _ _ us hl => match us, hl with | [_, _], _ => rfl
  have m15 := PySem.W.mg_of X G a15
  have F16 := fun_mk (st := sPick) l16 c16 k16
  have b16 := F16.binds (ps := ["draw", "things"]) fun _ _ _ _ _ _ us hl => match us, hl with | [_, _], _ => rfl
  have m16 := PySem.W.mg_of X G a16
  have F17 := fun_mk (st := sSpoilt) l17 c17 k17
  have b17 := F17.binds (ps := ["draw", "row"]) fun _ _ _ _ _ _ us hl => match us, hl with | [_, _], _ => rfl
  have m17 := PySem.W.mg_of X G a17
  have F18 := fun_mk (st := sLRow) l18 c18 k18
  have b18 := F18.binds (ps := ["thing"]) fun _ _ _ _ _ _ us hl => match us, hl with | [_], _ => rfl
  have m18 := PySem.W.mg_of X G a18
  have F19 := fun_mk (st := sTold) l19 c19 k19
  have b19 := F19.binds (ps := ["job", "data"]) fun _ _ _ _ _ _ us hl => match us, hl with | [_, _], _ => rfl
  have m19 := PySem.W.mg_of X G a19
  have F20 := fun_mk (st := sLaw) l20 c20 k20
  have m_len := PySem.W.mg_none_of X G z1
  have m_int := PySem.W.mg_none_of X G z2
  have m_range := PySem.W.mg_none_of X G z3
  have m_sorted := PySem.W.mg_none_of X G z4
  have m_set := PySem.W.mg_none_of X G z5
  have m_tuple := PySem.W.mg_none_of X G z6
  have m_list := PySem.W.mg_none_of X G z7
  have m_str := PySem.W.mg_none_of X G z8
  have m_bool := PySem.W.mg_none_of X G z9
  have m_dict := PySem.W.mg_none_of X G z10
  have m_isinstance := PySem.W.mg_none_of X G z11
  have m_all := PySem.W.mg_none_of X G z12
  have m_zip := PySem.W.mg_none_of X G z13
  have m_enumerate := PySem.W.mg_none_of X G z14
  have m_LEAST_INT := PySem.W.mg_of X G g1
  have m_GREATEST_INT := PySem.W.mg_of X G g2
  have bad : PySem.BadX.BadTxt K mg C fI :=
    { gC := PySem.W.mg_of X G aC, cls := ⟨nm, qn, N, bs, _, sn, sub, ab, col, dd, n0, n1, n2, n3, n5, xL, rfl⟩, sa := sa, ga := gat, gg := gg, noN := nb, iC := ai, tC := ti, kC := kC, exC := eC, tyC := tyC, hdC := hC, te := exm_own eC iC tyC sC,
      fn := ⟨_, _, _, _, _, _, _, _, _, _, _, _, _, _, li, ci⟩ }
  refine ⟨PySem.W.fnOf "law" "law" (defArgs sLaw) (defBody sLaw) (defScope sLaw) .none kV20 dc20 pm20 an20 cd20 ct20, fun s v => .of_eq rfl, fun base _ _ => ?_⟩
  have R_ofkind : Ready l.prog w K mg base 1 "is_of_kind" ["thing", "kind"] spOfKind := ⟨⟨f1, _, ok_ofkind F1 m_isinstance m_str m_int m_bool ⟨_, m_LEAST_INT⟩ ⟨_, m_GREATEST_INT⟩, b1, m1, k1⟩⟩
  have R_isrow : Ready l.prog w K mg base 2 "is_row" ["thing", "columns"] (spIsRow K) := ⟨⟨f2, _, ok_isrow F2 m_isinstance m_tuple m_len m_all m_zip R_ofkind, b2, m2, k2⟩⟩
  have R_arerows : Ready l.prog w K mg base 3 "are_rows" ["thing", "columns"] (spAreRows K) := ⟨⟨f3, _, ok_arerows F3 m_isinstance m_tuple m_list m_all R_isrow, b3, m3, k3⟩⟩
  have R_unlike : Ready l.prog w K mg base 1 "unlike_columns" ["name", "columns"] (spUnlike K) := ⟨⟨f4, _, ok_unlike F4 m_len m_set m_tuple, b4, m4, k4⟩⟩
  have R_cols : Ready l.prog w K mg base 3 "columns_of" ["job"] (spCols K) := ⟨⟨f7, _, ok_cols F7 ⟨dl, f5, f6, PySem.W.mg_of X G gD, ⟨es, nn, _, lD, gK, gR, rfl⟩, ⟨es, nn, _, lD, gK, gU, rfl⟩, ⟨⟨_, _, ok_read F5 R_unlike, k5, b5⟩⟩, ⟨⟨_, _, ok_union F6, k6, b6⟩⟩⟩, b7, m7, k7⟩⟩
  have R_places : Ready l.prog w K mg base 1 "places_of" ["columns"] (spPlaces K) := ⟨⟨f8, _, ok_places F8 m_enumerate, b8, m8, k8⟩⟩
  have R_step : Ready l.prog w K mg base 2 "step_rows" ["what", "details", "lists", "columns"] (spStep K) := ⟨⟨f9, _, ok_step F9 m_list R_places, b9, m9, k9⟩⟩
  have R_check : ReadyX l.prog w K mg base 4 "check_tables" ["job", "data"] (spCheck K C) := ⟨⟨f10, _, ok_check F10 bad R_arerows, b10, m10, k10⟩⟩
  have R_meaning : ReadyX l.prog w K mg base 5 "meaning" ["job", "data"] (spMeaning K C) := ⟨⟨f11, _, ok_meaning F11 m_sorted R_cols R_check R_step, b11, m11, k11⟩⟩
  have R_cell : Ready l.prog w K mg base 1 "_law_cell_at" ["script", "k"] (spCell K) := ⟨⟨f12, _, ok_cell F12 m_len, b12, m12, k12⟩⟩
  have R_draw : Ready l.prog w K mg base 1 "_law_draw" ["cell", "k", "bound"] spDraw := ⟨⟨f13, _, ok_draw F13 m_int, b13, m13, k13⟩⟩
  have R_numb : Ready l.prog w K mg base 2 "_law_number" ["cell", "k", "bound"] spNumb := ⟨⟨f14, _, ok_numb F14 m_int m_range R_draw, b14, m14, k14⟩⟩
  have R_next : Ready l.prog w K mg base 3 "_law_next" ["draw", "bound"] spNext := ⟨⟨f15, _, ok_next F15 m_int R_cell R_numb, b15, m15, k15⟩⟩
  have R_pick : Ready l.prog w K mg base 4 "_law_pick" ["draw", "things"] (spPick K) := ⟨⟨f16, _, ok_pick F16 m_len R_next, b16, m16, k16⟩⟩
  have R_spoilt : Ready l.prog w K mg base 5 "_law_spoilt" ["draw", "row"] (spSpoilt K) := ⟨⟨f17, _, ok_spoilt F17 m_list R_pick, b17, m17, k17⟩⟩
  have R_lrow : Ready l.prog w K mg base 1 "_law_is_row" ["thing"] (spLRow K) := ⟨⟨f18, _, ok_lrow F18 m_isinstance m_str m_int m_bool m_tuple m_len, b18, m18, k18⟩⟩
  have R_told : Ready l.prog w K mg base 6 "_law_told" ["job", "data"] (spTold K) := ⟨⟨f19, _, ok_told F19 bad R_meaning, b19, m19, k19⟩⟩
  exact ok_law F20 m_range m_dict m_all m_tuple R_next R_pick R_spoilt R_lrow R_arerows R_told
theorem walk {l : PySem.W.OpenLaw} {q : Program} {loose : List Str} {XP : (Str → Option Value) → Heap → Prop} {YP : World → Heap → Prop} {d : DefRec} {K : Params → PySem.W.Frag} (hn : l.most = some 63) (hdf : d.params.defaults = [])
    (hY : ∀ (w : World) (h : Heap), YP w h → (K w.params).In h)
    (F : ∀ (w : World) (mg : Str → Option Value) (fa : Addr) (h : Heap), (K w.params).In h → h.Ns mainGlobals mg → mg d.name = some (.ref fa) →
      ∃ fd : FuncData, (∀ (s : Shared) (u : Value), BindsTo s fd ⟨[u], []⟩ [("script", u)]) ∧ ∀ base : Heap, (K w.params).In base → base.Ns mainGlobals mg → FnOk l.prog w (K w.params) mg base CX0 7 fa fd ["script"] (spLaw (K w.params))) :
    PySem.W.WalkO q loose XP YP l.row.toRowW d [] (fun f vs => PySem.call f vs) :=
  L2.walk_of (n := 63) (k := 7) (x := "script") (CX := fun _ => CX0) (sp := fun w => spLaw (K w.params)) hn (by decide) hdf ⟨rfl, by decide, by decide⟩ hY F (fun _ _ a ns hl _ hS => ⟨a, ns, rfl, hS, fun _ => rfl⟩) fun _ _ _ _ _ z => z
end Kx
open PySem PySem.W PyProof.Rows
set_option maxRecDepth 100000 in
set_option maxHeartbeats 0 in
theorem PySem.Challenge.cw_countedonce_k11_whole_refused_rows_holds : PySem.Challenge.rw_countedonce_k11_whole_refused_rows.Holds := by
  w_on; o_law; k_head; (case hw => w_witness2)
  k_fill
  refine Kx.walk (l := PySem.Challenge.rw_countedonce_k11_whole_refused_rows) rfl rfl (fun w h Y => PySem.W.kIn_of Y) ?F
  case F =>
    intro w mg fa h KX G hmg
    refine' Kx.all_mk KX G hmg ?a1 ?l1 ?c1 ?k1 ?a2 ?l2 ?c2 ?k2 ?a3 ?l3 ?c3 ?k3 ?a4 ?l4 ?c4 ?k4 ?a5 ?l5 ?c5 ?k5 ?a6 ?l6 ?c6 ?k6 ?a7 ?l7 ?c7 ?k7 ?a8 ?l8 ?c8 ?k8 ?a9 ?l9 ?c9 ?k9 ?a10 ?l10 ?c10 ?k10 ?a11 ?l11 ?c11 ?k11 ?a12 ?l12 ?c12 ?k12 ?a13 ?l13 ?c13 ?k13 ?a14 ?l14 ?c14 ?k14 ?a15 ?l15 ?c15 ?k15 ?a16 ?l16 ?c16 ?k16 ?a17 ?l17 ?c17 ?k17 ?a18 ?l18 ?c18 ?k18 ?a19 ?l19 ?c19 ?k19 ?a20 ?l20 ?c20 ?k20 ?z1 ?z2 ?z3 ?z4 ?z5 ?z6 ?z7 ?z8 ?z9 ?z10 ?z11 ?z12 ?z13 ?z14 ?g1 ?g2 ?aC ?xL ?sa ?gat ?gg ?nb ?ai ?ti ?li ?ci ?kC ?eC ?tyC ?hC ?iC ?sC ?gD ?lD ?gR ?gU ?gK
    (case a1 => k_is)
    (case l1 => k_is)
    (case c1 => k_is)
    (case k1 => k_is)
    (case a2 => k_is)
    (case l2 => k_is)
    (case c2 => k_is)
    (case k2 => k_is)
    (case a3 => k_is)
    (case l3 => k_is)
    (case c3 => k_is)
    (case k3 => k_is)
    (case a4 => k_is)
    (case l4 => k_is)
    (case c4 => k_is)
    (case k4 => k_is)
    (case a5 => k_is)
    (case l5 => k_is)
    (case c5 => k_is)
    (case k5 => k_is)
    (case a6 => k_is)
    (case l6 => k_is)
    (case c6 => k_is)
    (case k6 => k_is)
    (case a7 => k_is)
    (case l7 => k_is)
    (case c7 => k_is)
    (case k7 => k_is)
    (case a8 => k_is)
    (case l8 => k_is)
    (case c8 => k_is)
    (case k8 => k_is)
    (case a9 => k_is)
    (case l9 => k_is)
    (case c9 => k_is)
    (case k9 => k_is)
    (case a10 => k_is)
    (case l10 => k_is)
    (case c10 => k_is)
    (case k10 => k_is)
    (case a11 => k_is)
    (case l11 => k_is)
    (case c11 => k_is)
    (case k11 => k_is)
    (case a12 => k_is)
    (case l12 => k_is)
    (case c12 => k_is)
    (case k12 => k_is)
    (case a13 => k_is)
    (case l13 => k_is)
    (case c13 => k_is)
    (case k13 => k_is)
    (case a14 => k_is)
    (case l14 => k_is)
    (case c14 => k_is)
    (case k14 => k_is)
    (case a15 => k_is)
    (case l15 => k_is)
    (case c15 => k_is)
    (case k15 => k_is)
    (case a16 => k_is)
    (case l16 => k_is)
    (case c16 => k_is)
    (case k16 => k_is)
    (case a17 => k_is)
    (case l17 => k_is)
    (case c17 => k_is)
    (case k17 => k_is)
    (case a18 => k_is)
    (case l18 => k_is)
    (case c18 => k_is)
    (case k18 => k_is)
    (case a19 => k_is)
    (case l19 => k_is)
    (case c19 => k_is)
    (case k19 => k_is)
    (case a20 => k_is)
    (case l20 => k_is)
    (case c20 => k_is)
    (case k20 => k_is)
    (case z1 => k_is)
    (case z2 => k_is)
    (case z3 => k_is)
    (case z4 => k_is)
    (case z5 => k_is)
    (case z6 => k_is)
    (case z7 => k_is)
    (case z8 => k_is)
    (case z9 => k_is)
    (case z10 => k_is)
    (case z11 => k_is)
    (case z12 => k_is)
    (case z13 => k_is)
    (case z14 => k_is)
    (case g1 => k_is)
    (case g2 => k_is)
    (case aC => k_is)
    (case xL => k_is)
    (case sa => k_is)
    (case gat => k_is)
    (case gg => k_is)
    (case nb => k_is)
    (case ai => k_is)
    (case ti => k_is)
    (case li => k_is)
    (case ci => k_is)
    (case kC => k_is)
    (case eC => k_is)
    (case tyC => k_is)
    (case hC => k_is)
    (case iC => k_is)
    (case gD => k_is)
    (case lD => k_is)
    (case gR => k_is)
    (case gU => k_is)
    (case sC => first | rfl | k_is)
    (case gK => repeat (first | exact True.intro | refine ⟨⟨_, _, rfl, rfl⟩, ?_⟩))
#print axioms PySem.Challenge.cw_countedonce_k11_whole_refused_rows_holds

