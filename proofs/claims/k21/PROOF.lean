import PyProof.Rows.All
import Wide.All
import OpenK.AllK
import Wide.FinOn
import HandS.Base
import HandS.Call
import HandS.List
import HandS.Dict
import HandS.Set
import HandS.Strs
import HandS.TupSets
import HandS.Ends
import HandS.Words
import HandS.More
import HandS.Comp
import HandS.WordsList
import HandS.Wide
import HandS.TupAny
import HandS.Style
import HandS.Text
import HandS.Codes
import HandS.Deep
import KE.KDictPairs
import HandS.Small
import HandS.ForSpec
import KE.KExcInit
import HandS.ExcInit
import HandS.NoneIn
import HandS.Walk
import KE.GoesMore
import HandS.DictComp
import HandS.Sort
import KE.KSortTupUse
import HandS.IsInst
import HandS.Zip
import HandS.Iter
import HandS.DictTup
import HandS.SetKeys
import PyProof.DictMoreH
import HandS.SortRule
import KE.SortData
import PyProof.DictFindH
import KE.DataFind
import PySem.Challenge.RW_countedonce_k21_hot_keys
set_option Elab.async false
set_option linter.all false
set_option maxRecDepth 100000
set_option maxHeartbeats 4000000
namespace Yk
open PySem PySem.Spec PyProof.Rows L2
/-! ### sets of ints and texts, their members told -/
def kOf : Value → L2.Key
  | .int i _ => .inl i
  | .str x _ => .inr x
  | _ => .inl 0
/-- an int or a text -/
def Plain (v : Value) : Prop := (∃ i t, v = .int i t) ∨ ∃ x t, v = .str x t
theorem plain_scan {v : Value} (h : Plain v) : v.scannable = true := by
  rcases h with ⟨i, t, rfl⟩ | ⟨x, t, rfl⟩ <;> rfl
section
variable {P : Program} {w : World}
theorem plain_is {v : Value} (h : Plain v) : (mixKind P w).is (kOf v) v = true := by
  rcases h with ⟨i, t, rfl⟩ | ⟨x, t, rfl⟩
  · exact mixKind_int P w i t
  · exact mixKind_str P w x t
theorem is_iff {v : Value} (h : Plain v) (k : L2.Key) : (mixKind P w).is k v = true ↔ kOf v = k :=
  ⟨fun e => (mixKind P w).inj v _ _ (plain_is h) e, fun e => e ▸ plain_is h⟩
theorem rel_plain {k : L2.Key} {u : Value} (r : RelV (kV k) u) : Plain u ∧ kOf u = k := by
  cases k with
  | inl i =>
    obtain ⟨t, rfl⟩ : ∃ t, u = Value.int i t := r
    exact ⟨.inl ⟨i, t, rfl⟩, rfl⟩
  | inr x =>
    obtain ⟨t, rfl⟩ : ∃ t, u = Value.str x t := r
    exact ⟨.inr ⟨x, t, rfl⟩, rfl⟩
def Row (P : Program) (w : World) (e : Int × Value) : Prop := Plain e.2 ∧ e.1 = (mixKind P w).hash (kOf e.2)
/-- at a: a set, its members L in the order of its rows -/
def SetQ (P : Program) (w : World) (h : Heap) (a : Addr) (L : List L2.Key) : Prop :=
  ∃ o es ep t, h.get? a = some o ∧ o.ExactSet ∧ o.data = .set es ep t ∧ (∀ e ∈ es.toList, Row P w e) ∧ L = es.toList.map (fun e => kOf e.2) ∧ L.Nodup ∧
    es.size < scanBound ∧ t.fits es.size = true ∧ Ris t.place.toList ∧ (w.params.followText "set-order" = true ∨ t.led = true)
variable {h h' : Heap} {a : Addr} {L : List L2.Key}
theorem SetQ.at (R : SetQ P w h a L) (k : ∀ o, h.get? a = some o → h'.get? a = some o) : SetQ P w h' a L := by
  obtain ⟨o, es, ep, t, ho, r⟩ := R
  exact ⟨o, es, ep, t, k o ho, r⟩
theorem SetQ.there (R : SetQ P w h a L) : ∃ o, h.get? a = some o := let ⟨o, _, _, _, ho, _⟩ := R; ⟨o, ho⟩
theorem rows_elems {l : List (Int × Value)} (g : ∀ e ∈ l, Row P w e) : ElemsOf (mixKind P w) l := fun e he => ⟨⟨kOf e.2, plain_is (g e he).1, (g e he).2⟩, plain_scan (g e he).1⟩
theorem new_set {led : Bool} (hl : w.params.followText "set-order" = true ∨ led = true) (hg : h.get? a = some { cls := .type "set", dict := none, data := .set #[] 0 (.fresh 0 0 led), slots := #[] }) : SetQ P w h a [] :=
  ⟨_, #[], 0, _, hg, ⟨rfl, rfl, rfl⟩, rfl, fun e he => by simp at he, rfl, List.nodup_nil, by decide, rfl, List.Pairwise.nil, hl⟩
end
section
variable {P : Program} {w : World} {A : Around} {E : Value → Shared → Prop} {s : Shared} {a : Addr} {L : List L2.Key}
/-- behind the laying of a row: perhaps the whole table is laid anew -/
theorem lay_rest {g : Bool → Sem Unit} (hg : ∀ (b : Bool) (s₁ : Shared) (R : Unit → Shared → Prop), R () s₁ → wpAny (model P w) A (g b) R E s₁) {o : Obj} {es : Array (Int × Value)} {ep : Nat} {t : SetTable} (ho : s.heap.get? a = some o) (hx : o.ExactSet)
    (hd : o.data = .set es ep t) {fs : Array (Int × Value)} {u : SetTable} (gr : ∀ e ∈ fs.toList, Row P w e) (nd : (fs.toList.map fun e => kOf e.2).Nodup) (hb : fs.size < scanBound) (hf : u.fits fs.size = true) (hr : Ris u.place.toList)
    (hl : w.params.followText "set-order" = true ∨ u.led = true) {dum : Bool} {R : Option Bool → Shared → Prop}
    (q : ∀ h' M, Heap.SameBut a s.heap h' → M.Perm (fs.toList.map fun e => kOf e.2) → SetQ P w h' a M → R (some true) { s with heap := h' }) :
    wpAny (model P w) A (do
      storeSet a fs u
      if (!dum && u.tooFull) = true then do
        g (relayAll u fs (SetTable.grown fs.size)).2.2
        storeSet a (relayAll u fs (SetTable.grown fs.size)).1 (relayAll u fs (SetTable.grown fs.size)).2.1
        pure (some true)
      else pure (some true)) R E s := by
  refine wpAny_bind (wpAny_storeSet_of ho hd ?_ (fits_of_scanBound hb))
  have o1 := store_at (es' := fs) (t' := u) ho hd
  have b1 := Heap.SameBut.update s.heap a (Obj.putSet fs u)
  split
  · have p1 := relayAll_perm u fs (SetTable.grown fs.size)
    have p2 := relayAll_fits u fs (SetTable.grown fs.size)
    have p3 := relayAll_ris u fs (SetTable.grown fs.size)
    have p4 := relayAll_led u fs (SetTable.grown fs.size)
    generalize relayAll u fs (SetTable.grown fs.size) = Z at p1 p2 p3 p4 ⊢
    obtain ⟨gs, v, gv⟩ := Z
    dsimp only at p1 p2 p3 p4 ⊢
    have sz : gs.size = fs.size := by
      have z := p1.length_eq
      rw [Array.length_toList, Array.length_toList] at z
      exact z
    refine wpAny_bind (hg _ _ _ ?_)
    refine wpAny_bind (wpAny_storeSet_of o1 rfl ?_ (fits_of_scanBound (by rw [sz]; exact hb)))
    have o2 := store_at (es' := gs) (t' := v) o1 rfl
    have pk := p1.map fun e : Int × Value => kOf e.2
    refine wpAny_pure (q _ (gs.toList.map fun e => kOf e.2) (b1.trans (Heap.SameBut.update _ a _)) pk ?_)
    refine ⟨_, gs, _, v, o2, hx, rfl, fun e he => gr e (p1.mem_iff.mp he), rfl, pk.nodup_iff.mpr nd, by rw [sz]; exact hb, p2, p3, ?_⟩
    rcases hl with z | z
    · exact .inl z
    · exact .inr (p4.trans z)
  · exact wpAny_pure (q _ _ b1 (List.Perm.refl _) ⟨_, fs, _, u, o1, hx, rfl, gr, rfl, nd, hb, hf, hr, hl⟩)
/-- s.add(x) behind the hash -/
theorem add_row {x : Value} (hx : Plain x) {Q : Bool → Shared → Prop} (R : SetQ P w s.heap a L) (room : L.length + 1 < scanBound)
    (q : ∀ h' M b, Heap.SameBut a s.heap h' → SetQ P w h' a M → ((kOf x ∈ L ∧ M = L) ∨ (kOf x ∉ L ∧ M.Perm (kOf x :: L))) → Q b { s with heap := h' }) :
    wpAny (model P w) A (setAddHashed a x ((mixKind P w).hash (kOf x))) Q E s := by
  obtain ⟨o, es, ep, t, ho, hex, hd, g, rfl, nd, hb, hf, hr, hl⟩ := R
  have key := plain_is (P := P) (w := w) hx
  have el : ElemsOf (mixKind P w) es.toList := rows_elems g
  unfold setAddHashed setAddHashedIn
  refine wpAny_holding (wpAny_bind (wpAny_setState_of ho hd hf ?_))
  dsimp only
  rw [byScan_of (plain_scan hx) hb el]
  simp only [↓reduceIte]
  unfold setAddByScan
  refine wpAny_bind ?_
  refine wpAny_bind (wpAny_rule ?_)
  refine wpAny_bind (wpAny_setScan_of key ho hd hf el ?_)
  cases fi : List.findIdx? (fun e => (mixKind P w).is (kOf x) e.2) es.toList with
  | some j =>
    dsimp only
    obtain ⟨hj, pj, _⟩ := List.findIdx?_eq_some_iff_getElem.mp fi
    have hm : kOf x ∈ es.toList.map fun e => kOf e.2 := List.mem_map.mpr ⟨es.toList[j], List.getElem_mem hj, (is_iff (g _ (List.getElem_mem hj)).1 _).mp pj⟩
    exact wpAny_pure (wpAny_pure (q s.heap _ _ (Heap.SameBut.refl a s.heap) ⟨o, es, ep, t, ho, hex, hd, g, rfl, nd, hb, hf, hr, hl⟩ (.inl ⟨hm, rfl⟩)))
  | none =>
    dsimp only
    have hm : kOf x ∉ es.toList.map fun e => kOf e.2 := fun z => by
      obtain ⟨e, he, k⟩ := List.mem_map.mp z
      have c := List.findIdx?_eq_none_iff.mp fi e he
      rw [(is_iff (g e he).1 _).mpr k] at c
      cases c
    have gw : ∀ (b : Bool) {s₁ : Shared} {R : Unit → Shared → Prop}, R () s₁ → wpAny (model P w) A (match b with | true => rule "set.scan.the-table-gave-way" | false => pure ()) R E s₁ := fun b s₁ R z => by
      cases b
      · exact wpAny_pure z
      · exact wpAny_rule z
    have p1 := layNew_perm t es ((mixKind P w).hash (kOf x)) x
    have p2 := layNew_fits t es ((mixKind P w).hash (kOf x)) x
    have p3 := layNew_ris t es ((mixKind P w).hash (kOf x)) x hr
    have p4 := layNew_led t es ((mixKind P w).hash (kOf x)) x
    generalize layNew t es ((mixKind P w).hash (kOf x)) x = Z at p1 p2 p3 p4 ⊢
    obtain ⟨fs, u, dum, gv⟩ := Z
    dsimp only at p1 p2 p3 p4 ⊢
    rw [Array.toList_push] at p1
    have pc : fs.toList.Perm (((mixKind P w).hash (kOf x), x) :: es.toList) := p1.trans (List.perm_append_singleton _ _)
    have pk : (fs.toList.map fun e => kOf e.2).Perm (kOf x :: es.toList.map fun e => kOf e.2) := pc.map fun e : Int × Value => kOf e.2
    have gr : ∀ e ∈ fs.toList, Row P w e := fun e he => by
      rcases List.mem_cons.mp (pc.mem_iff.mp he) with rfl | z
      · exact ⟨hx, rfl⟩
      · exact g e z
    have n1 : (fs.toList.map fun e => kOf e.2).Nodup := pk.nodup_iff.mpr (List.nodup_cons.mpr ⟨hm, nd⟩)
    have sz : fs.size < scanBound := by
      have z := pc.length_eq
      rw [Array.length_toList, List.length_cons] at z
      rw [List.length_map] at room
      omega
    have ld : w.params.followText "set-order" = true ∨ u.led = true := by
      rcases hl with z | z
      · exact .inl z
      · exact .inr (p4.trans z)
    have fin : ∀ h' M, Heap.SameBut a s.heap h' → M.Perm (fs.toList.map fun e => kOf e.2) → SetQ P w h' a M → Q true { s with heap := h' } := fun h' M sb pm r => q h' M true sb r (.inr ⟨hm, pm.trans pk⟩)
    refine wpAny_bind (gw _ ?_)
    split
    · refine wpAny_bind ?_
      rw [hashByValue_scannable 8 (plain_scan hx)]
      refine wpAny_pure ?_
      refine lay_rest (fun b s₁ R z => gw b z) ho hex hd gr n1 sz ?_ ?_ ?_ fun h' M sb pm r => ?_
      · split
        · exact p2
        · exact SetTable.fits_plain_off p2
      · split <;> exact p3
      · split <;> exact ld
      · dsimp only
        exact wpAny_pure (fin h' M sb pm r)
    · refine wpAny_bind (wpAny_pure ?_)
      simp only [↓reduceIte]
      refine lay_rest (fun b s₁ R z => gw b z) ho hex hd gr n1 sz p2 p3 ld fun h' M sb pm r => ?_
      dsimp only
      exact wpAny_pure (fin h' M sb pm r)
/-- the loop of set(xs) -/
theorem fill {R : Result → Shared → Prop} {I : Addr} {fp wr : List Addr} {G : Array GenState → Array GenState → Prop} {n : Nat} {V : Nat → Value → Prop} {St : Nat → Shared → Prop} (W : WalksS P w A.in1 I fp wr G n V St) (S : Addr) (hS : S ∉ fp)
    (ks : List L2.Key) (hn : ks.length = n) (hb : n < 1000) (hv : ∀ i v, V i v → Plain v ∧ ks[i]? = some (kOf v)) :
    ∀ (k i : Nat) (s : Shared) (M : List L2.Key), n - i = k → i ≤ n → St i s → SetQ P w s.heap S M → M.length ≤ i → (∀ z, z ∈ M ↔ z ∈ ks.take i) →
      (∀ s' M', Moved (S :: wr) G s s' → SetQ P w s'.heap S M' → (∀ z, z ∈ M' ↔ z ∈ ks) → R (.ok (.ret .none)) s') → codeAny (model P w) A (.builtin "set.update.loop" ⟨[.ref S, .ref I], []⟩) R s := by
  have hw : S ∉ wr := fun z => hS (W.sub _ z)
  have sub : ∀ b ∈ wr, b ∈ S :: wr := fun b z => List.mem_cons_of_mem _ z
  intro k
  induction k with
  | zero =>
    intro i s M hk hi st hM _ hz q
    have e : i = n := by omega
    subst e
    refine codeAny_builtin PyProof.Rows.F.entry_set_update_loop ?_
    rw [Around.under_plainId PyProof.Rows.F.plain_set_update_loop _]
    show wpAny _ A.in1 (pyNext (.ref I) >>= _) _ _ s
    refine wpAny_bind (W.done s _ _ st fun s' mv => ?_)
    show wpAny _ A.in1 (ret Value.none) _ _ s'
    refine wpAny_pure (q s' M (mv.mono sub) (hM.at fun o z => mv.heap S o hw z) fun z => ?_)
    rw [hz z, ← hn, List.take_length]
  | succ k ih =>
    intro i s M hk hi st hM hl hz q
    have lt : i < n := by omega
    refine codeAny_builtin PyProof.Rows.F.entry_set_update_loop ?_
    rw [Around.under_plainId PyProof.Rows.F.plain_set_update_loop _]
    show wpAny _ A.in1 (pyNext (.ref I) >>= _) _ _ s
    refine wpAny_bind (W.item i s _ _ lt st fun v s' hP st' mv => ?_)
    obtain ⟨pl, kv⟩ := hv i v hP
    have hM' : SetQ P w s'.heap S M := hM.at fun o z => mv.heap S o hw z
    show wpAny _ A.in1 (holding [v] (setAdd S v) >>= _) _ _ s'
    refine wpAny_bind (wpAny_holding ?_)
    unfold setAdd
    refine wpAny_holding ?_
    refine wpAny_bind ((mixKind P w).pyHash (plain_is pl) ?_)
    refine add_row (s := { s' with toks := s'.toks + 1 }) pl hM' (by unfold scanBound; omega) fun h' M' b sb r hM2 => ?_
    have tk : ks.take (i + 1) = ks.take i ++ [kOf v] := by
      obtain ⟨hlt, e⟩ := List.getElem?_eq_some_iff.mp kv
      rw [← e]
      exact List.take_succ_eq_append_getElem hlt
    have l2 : M'.length ≤ i + 1 := by
      rcases hM2 with ⟨_, rfl⟩ | ⟨_, pm⟩
      · omega
      · rw [pm.length_eq, List.length_cons]
        omega
    have z2 : ∀ z, z ∈ M' ↔ z ∈ ks.take (i + 1) := fun z => by
      rw [tk, List.mem_append, List.mem_singleton, ← hz z]
      rcases hM2 with ⟨hm, rfl⟩ | ⟨_, pm⟩
      · exact ⟨.inl, fun y => y.elim id fun e => e ▸ hm⟩
      · rw [pm.mem_iff, List.mem_cons]
        exact Or.comm
    refine wpAny_pure ⟨plainId_quiet PyProof.Rows.F.plain_set_update_loop _, ih (i + 1) _ M' (by omega) lt (W.frame _ s' _ _ st' (Nat.le_succ _) fun c hc o z => ?_) r l2 z2 fun s2 M2 mv2 r2 f2 => ?_⟩
    · exact (sb.2 c fun e => hS (e ▸ hc)).trans z
    · refine q s2 M2 (Moved.trans W.gtrans ((mv.mono sub).then_heap (Nat.le_succ _) fun c o hc z => ?_) mv2) r2 f2
      exact (sb.2 c fun e => hc (e ▸ List.mem_cons_self)).trans z
end
end Yk

namespace Yk
open PySem PySem.Spec PyProof.Rows L2
abbrev ob0 (w : World) : Obj := { cls := .type "set", dict := none, data := .set #[] 0 (.fresh 0 0 (!w.params.followText "set-order")) }
section
variable {P : Program} {w : World} {A : Around} {E : Value → Shared → Prop} {s : Shared}

set_option maxHeartbeats 8000000 in
/-- set(x), x a list of ints and texts -/
theorem call_set_list {l : Addr} {items : Array Value} {ks : List L2.Key} {Q : Value → Shared → Prop} (hh : A.handled = none) (hl : s.heap.IsList l items) (hk : ks.length = items.size) (hv : ∀ (i : Nat) (v : Value), items[i]? = some v → Plain v ∧ ks[i]? = some (kOf v)) (few : ks.length < 1000)
    (q : ∀ (h' : Heap) (tk : Nat) (M : List L2.Key), SetQ P w h' s.heap.objs.size M → (∀ z, z ∈ M ↔ z ∈ ks) → (∀ b o, s.heap.get? b = some o → h'.get? b = some o) → Q (.ref s.heap.objs.size) { s with heap := h', toks := tk }) :
    wpAny (model P w) A (call (.type "set") [.ref l]) Q E s := by
  obtain ⟨c, tl, mr⟩ := PySem.F.called_set.mro
  have md := PySem.F.called_set.made
  have sb := PySem.F.called_set.sub
  refine wpAny_call (codeAny_of_tree ?_)
  show wpAny _ _ (callAny (.type "set") _) _ _ _
  refine wpAny_pure ⟨Code.quiet_builtin _ (by decide +kernel), codeAny_builtin PySem.F.entry_type_call ?_⟩
  rw [Around.under_plain (weight_type_call_type "set" [.ref l] []) rfl]
  have t1 := PySem.F.called_set.notType
  have t2 := PySem.F.called_set.canCreate
  have t3 := PySem.F.typeCall_set_1 (.ref l)
  repeat (any_goals (first | assumption | wp_step))
  refine codeAny_mono (code_set_led1 (.ref l) (E := E) (Q₁ := fun ob s₁ => ob = .ref s.heap.objs.size ∧ s₁ = { s with heap := s.heap.push (ob0 w) }) ⟨rfl, rfl⟩) fun r s₁ hr => ?_
  cases r with
  | error e => exact hr
  | ok fl =>
    cases fl with
    | ret ob =>
      obtain ⟨rfl, rfl⟩ := hr
      have gS : (s.heap.push (ob0 w)).get? s.heap.objs.size = some (ob0 w) := Heap.get?_push_size _ rfl
      have ty : Shared.TypeIs { s with heap := s.heap.push (ob0 w) } (.ref s.heap.objs.size) "set" := ⟨_, gS, rfl⟩
      have i1 := PySem.F.called_set.init.lookup
      have i2 := PySem.F.called_set.init.bind (.ref s.heap.objs.size)
      repeat (any_goals (first | assumption | wp_step))
      refine codeAny_mono (codeAny_call_builtin (R := wants (fun r s₂ => r = .none ∧ ∃ h' tk M, s₂ = { s with heap := h', toks := tk } ∧ SetQ P w h' s.heap.objs.size M ∧ (∀ z, z ∈ M ↔ z ∈ ks) ∧ (∀ b o, s.heap.get? b = some o → h'.get? b = some o)) E)
        PySem.F.called_set.init.plain PySem.F.entry_set_init (check_set_init_1 ty ?_)) fun r₂ s₂ hr₂ => ?_
      · obtain ⟨ol, go, cl, nl, da⟩ := hl
        obtain ⟨oc, od, odt, osl⟩ := ol
        simp only at cl da
        subst cl
        subst da
        have g1 : (s.heap.push (ob0 w)).get? l = some { cls := .type "list", dict := od, data := .seq items nl, slots := osl } := Heap.get?_push_of_some _ go
        have u1 := PySem.F.sub_list_set
        have u2 := PySem.F.sub_list_frozenset
        have u3 : (Value.type "list" == Value.type "dict") = false := by decide
        have l1 : (s.heap.push (ob0 w)).IsList l items := ⟨_, g1, rfl, nl, rfl⟩
        unfold Builtin.«set.__init__» noKeywords Builtin.Frozenset.updateFrom
        generalize hPI : pyIter = PI
        wp_walk
        subst hPI
        refine wpAny_pyIter_list l1 ?_
        refine wpAny_bind (wpAny_runValue ?_)
        have lt : l < s.heap.objs.size := Heap.lt_size go
        have h3 : A.in1.in1.in1.handled = none := by simp [hh]
        have z1 : (s.heap.push (ob0 w)).objs.size = s.heap.objs.size + 1 := Heap.size_push ..
        have n1 : l ≠ (s.heap.push (ob0 w)).objs.size := by
          rw [z1]
          exact Nat.ne_of_lt (Nat.lt_succ_of_lt lt)
        have n2 : s.heap.objs.size ∉ [(s.heap.push (ob0 w)).objs.size, l] := by
          rw [z1]
          simp only [List.mem_cons, List.not_mem_nil, or_false, not_or]
          exact ⟨Nat.ne_of_lt (Nat.lt_succ_self _), Nat.ne_of_gt lt⟩
        refine fill ((Walks.list h3 _ l n1 items).toS) s.heap.objs.size n2 ks hk (by omega) hv (items.size - 0) 0 _ [] rfl (Nat.zero_le _) ⟨⟨_, Heap.get?_push_size _ rfl, rfl, rfl⟩, l1.push _⟩ (new_set (led := !w.params.followText "set-order") ?_ (Heap.get?_push_of_some _ gS)) (Nat.le_refl _)
          (fun z => by simp) fun s' M mv r f => ?_
        · cases w.params.followText "set-order"
          · exact .inr rfl
          · exact .inl rfl
        · obtain ⟨h', g2, d', tk', os'⟩ := s'
          have eg : g2 = s.gens := mv.gens
          have ed : d' = s.drawn := mv.drawn
          have eo : os' = s.os := mv.os
          subst eg
          subst ed
          subst eo
          show wpAny _ _ _ _ _ _
          refine wpAny_pure ?_
          show wpAny _ _ (ret Value.none) _ _ _
          refine wpAny_pure ⟨rfl, h', tk', M, rfl, r, f, fun b o e => ?_⟩
          have hb := Heap.lt_size e
          refine mv.heap b o ?_ (Heap.get?_push_of_some _ (Heap.get?_push_of_some _ e))
          rw [z1]
          simp only [List.mem_cons, List.not_mem_nil, or_false, not_or]
          exact ⟨Nat.ne_of_lt hb, Nat.ne_of_lt (Nat.lt_succ_of_lt hb)⟩
      · cases r₂ with
        | error e => exact hr₂
        | ok fl₂ =>
          cases fl₂ with
          | ret r =>
            obtain ⟨rfl, h', tk, M, rfl, r, f, k⟩ := hr₂
            repeat (any_goals (first | assumption | wp_step))
            exact q _ _ M r f k
          | _ => exact hr₂.elim
    | _ => exact hr.elim

set_option maxHeartbeats 8000000 in
/-- set(x), x a tuple of ints and texts -/
theorem call_set_tuple {l : Addr} {items : Array Value} {ks : List L2.Key} {Q : Value → Shared → Prop} (hh : A.handled = none) (hl : s.heap.IsTuple l items) (hk : ks.length = items.size) (hv : ∀ (i : Nat) (v : Value), items[i]? = some v → Plain v ∧ ks[i]? = some (kOf v)) (few : ks.length < 1000)
    (q : ∀ (h' : Heap) (tk : Nat) (M : List L2.Key), SetQ P w h' s.heap.objs.size M → (∀ z, z ∈ M ↔ z ∈ ks) → (∀ b o, s.heap.get? b = some o → h'.get? b = some o) → Q (.ref s.heap.objs.size) { s with heap := h', toks := tk }) :
    wpAny (model P w) A (call (.type "set") [.ref l]) Q E s := by
  obtain ⟨c, tl, mr⟩ := PySem.F.called_set.mro
  have md := PySem.F.called_set.made
  have sb := PySem.F.called_set.sub
  refine wpAny_call (codeAny_of_tree ?_)
  show wpAny _ _ (callAny (.type "set") _) _ _ _
  refine wpAny_pure ⟨Code.quiet_builtin _ (by decide +kernel), codeAny_builtin PySem.F.entry_type_call ?_⟩
  rw [Around.under_plain (weight_type_call_type "set" [.ref l] []) rfl]
  have t1 := PySem.F.called_set.notType
  have t2 := PySem.F.called_set.canCreate
  have t3 := PySem.F.typeCall_set_1 (.ref l)
  repeat (any_goals (first | assumption | wp_step))
  refine codeAny_mono (code_set_led1 (.ref l) (E := E) (Q₁ := fun ob s₁ => ob = .ref s.heap.objs.size ∧ s₁ = { s with heap := s.heap.push (ob0 w) }) ⟨rfl, rfl⟩) fun r s₁ hr => ?_
  cases r with
  | error e => exact hr
  | ok fl =>
    cases fl with
    | ret ob =>
      obtain ⟨rfl, rfl⟩ := hr
      have gS : (s.heap.push (ob0 w)).get? s.heap.objs.size = some (ob0 w) := Heap.get?_push_size _ rfl
      have ty : Shared.TypeIs { s with heap := s.heap.push (ob0 w) } (.ref s.heap.objs.size) "set" := ⟨_, gS, rfl⟩
      have i1 := PySem.F.called_set.init.lookup
      have i2 := PySem.F.called_set.init.bind (.ref s.heap.objs.size)
      repeat (any_goals (first | assumption | wp_step))
      refine codeAny_mono (codeAny_call_builtin (R := wants (fun r s₂ => r = .none ∧ ∃ h' tk M, s₂ = { s with heap := h', toks := tk } ∧ SetQ P w h' s.heap.objs.size M ∧ (∀ z, z ∈ M ↔ z ∈ ks) ∧ (∀ b o, s.heap.get? b = some o → h'.get? b = some o)) E)
        PySem.F.called_set.init.plain PySem.F.entry_set_init (check_set_init_1 ty ?_)) fun r₂ s₂ hr₂ => ?_
      · obtain ⟨ol, go, cl, nl, da⟩ := hl
        obtain ⟨oc, od, odt, osl⟩ := ol
        simp only at cl da
        subst cl
        subst da
        have g1 : (s.heap.push (ob0 w)).get? l = some { cls := .type "tuple", dict := od, data := .seq items nl, slots := osl } := Heap.get?_push_of_some _ go
        have u1 := PySem.F.sub_tuple_set
        have u2 := PySem.F.sub_tuple_frozenset
        have u3 : (Value.type "tuple" == Value.type "dict") = false := by decide
        have l1 : (s.heap.push (ob0 w)).IsTuple l items := ⟨_, g1, rfl, nl, rfl⟩
        unfold Builtin.«set.__init__» noKeywords Builtin.Frozenset.updateFrom
        generalize hPI : pyIter = PI
        wp_walk
        subst hPI
        refine wpAny_pyIter_tuple l1 ?_
        refine wpAny_bind (wpAny_runValue ?_)
        have lt : l < s.heap.objs.size := Heap.lt_size go
        have h3 : A.in1.in1.in1.handled = none := by simp [hh]
        have z1 : (s.heap.push (ob0 w)).objs.size = s.heap.objs.size + 1 := Heap.size_push ..
        have n1 : l ≠ (s.heap.push (ob0 w)).objs.size := by
          rw [z1]
          exact Nat.ne_of_lt (Nat.lt_succ_of_lt lt)
        have n2 : s.heap.objs.size ∉ [(s.heap.push (ob0 w)).objs.size, l] := by
          rw [z1]
          simp only [List.mem_cons, List.not_mem_nil, or_false, not_or]
          exact ⟨Nat.ne_of_lt (Nat.lt_succ_self _), Nat.ne_of_gt lt⟩
        refine fill ((Walks.tuple h3 _ l n1 items).toS) s.heap.objs.size n2 ks hk (by omega) hv (items.size - 0) 0 _ [] rfl (Nat.zero_le _) ⟨⟨_, Heap.get?_push_size _ rfl, rfl, rfl⟩, l1.push _⟩ (new_set (led := !w.params.followText "set-order") ?_ (Heap.get?_push_of_some _ gS)) (Nat.le_refl _)
          (fun z => by simp) fun s' M mv r f => ?_
        · cases w.params.followText "set-order"
          · exact .inr rfl
          · exact .inl rfl
        · obtain ⟨h', g2, d', tk', os'⟩ := s'
          have eg : g2 = s.gens := mv.gens
          have ed : d' = s.drawn := mv.drawn
          have eo : os' = s.os := mv.os
          subst eg
          subst ed
          subst eo
          show wpAny _ _ _ _ _ _
          refine wpAny_pure ?_
          show wpAny _ _ (ret Value.none) _ _ _
          refine wpAny_pure ⟨rfl, h', tk', M, rfl, r, f, fun b o e => ?_⟩
          have hb := Heap.lt_size e
          refine mv.heap b o ?_ (Heap.get?_push_of_some _ (Heap.get?_push_of_some _ e))
          rw [z1]
          simp only [List.mem_cons, List.not_mem_nil, or_false, not_or]
          exact ⟨Nat.ne_of_lt hb, Nat.ne_of_lt (Nat.lt_succ_of_lt hb)⟩
      · cases r₂ with
        | error e => exact hr₂
        | ok fl₂ =>
          cases fl₂ with
          | ret r =>
            obtain ⟨rfl, h', tk, M, rfl, r, f, k⟩ := hr₂
            repeat (any_goals (first | assumption | wp_step))
            exact q _ _ M r f k
          | _ => exact hr₂.elim
    | _ => exact hr.elim

end
/-! ### as rules -/
def SetKO (P : Program) (w : World) (a : Addr) (L : List L2.Key) : HO := .ext fun h => SetQ P w h a L
theorem setKO_new {P : Program} {w : World} {H : Hp} {h : Heap} {a : Addr} {L : List L2.Key} (R : SetQ P w h a L) : ObjOk P w H h a (SetKO P w a L) := ⟨R, R.there, fun h1 h2 p k => SetQ.at p k⟩
section
variable {X : Cx}
theorem setKO_get {pins : List (Addr × Obj)} {σ : L2.St} {H : Hp} {s : Shared} {a : Addr} {L : List L2.Key} (I : Inv X pins σ H s) (ha : H a = some (SetKO X.prog X.w a L)) : SetQ X.prog X.w s.heap a L := (I.hok a _ ha).1
theorem keys_at {ks : List L2.Key} {us : List Value} (r : Vals (ks.map kV) us) : ks.length = us.toArray.size ∧ ∀ (i : Nat) (v : Value), us.toArray[i]? = some v → Plain v ∧ ks[i]? = some (kOf v) := by
  have hl : ks.length = us.length := by
    have z := r.length
    rw [List.length_map] at z
    exact z
  refine ⟨by simpa using hl, fun i v hv => ?_⟩
  have hv' : us[i]? = some v := by simpa using hv
  have hi : i < ks.length := by
    rw [hl]
    exact (List.getElem?_eq_some_iff.mp hv').1
  obtain ⟨u, hu, ru⟩ := r.get (i := i) (x := kV ks[i]) (by rw [List.getElem?_map, List.getElem?_eq_getElem hi] <;> rfl)
  rw [hv'] at hu
  cases hu
  obtain ⟨p, e⟩ := rel_plain ru
  exact ⟨p, by rw [e]; exact List.getElem?_eq_getElem hi⟩
/-- set(xs), a list or a tuple of ints and texts -/
def rSetK (K : PySem.W.Frag) (P : Program) (w : World) : List V → Hp → VK → Prop := fun xs H Q => ∃ (a : Addr) (ks : List L2.Key), xs = [.ref a] ∧ (SqL K H a (ks.map kV) ∨ SqT K H a (ks.map kV)) ∧ ks.length < 1000 ∧
  ∀ (p : Addr) (M : List L2.Key), M.Nodup → (∀ z, z ∈ M ↔ z ∈ ks) → H p = none → Q (.ref p) (upd H p (SetKO P w p M))
theorem SetQ.nd {P : Program} {w : World} {h : Heap} {a : Addr} {L : List L2.Key} (R : SetQ P w h a L) : L.Nodup := let ⟨_, _, _, _, _, _, _, _, _, n, _⟩ := R; n
theorem cr_setK (hc : X.calm = true) : CallR X (.type "set") (rSetK X.K X.prog X.w) := by
  intro pins s σ H xs us Q I r h
  obtain ⟨a, ks, rfl, hs, few, q⟩ := h
  rw [Vals.ref1 r]
  have fin : ∀ (h' : Heap) (tk : Nat) (M : List L2.Key), SetQ X.prog X.w h' s.heap.objs.size M → (∀ z, z ∈ M ↔ z ∈ ks) → (∀ b o, s.heap.get? b = some o → h'.get? b = some o) → EP X pins σ Q (.ref s.heap.objs.size) { s with heap := h', toks := tk } := fun h' tk M R f k =>
    ⟨.ref _, upd H s.heap.objs.size (SetKO X.prog X.w s.heap.objs.size M), I.laid (t' := tk) k (Nat.le_refl _) (setKO_new R), rfl, q _ M R.nd f (I.hok.fresh (Nat.le_refl _))⟩
  rcases hs with hs | hs
  · obtain ⟨its, rv, pl, _⟩ := I.list hs
    obtain ⟨e, v⟩ := keys_at rv
    exact call_set_list (I.ok.hd hc) pl.isList e v few fin
  · obtain ⟨its, rv, pl, _⟩ := I.tuple hs
    obtain ⟨e, v⟩ := keys_at rv
    exact call_set_tuple (I.ok.hd hc) (show s.heap.IsTuple a its.toArray from pl) e v few fin
end
end Yk

namespace Yk
open PySem PySem.Spec PyProof.Rows L2
section
variable {P : Program} {w : World} {A : Around} {E : Value → Shared → Prop} {s : Shared} {a : Addr} {L : List L2.Key}
/-- what sorted makes of a set: the list of its members, in some order, put in order by list.sort -/
theorem sorted_of {Q : Value → Shared → Prop} (R : SetQ P w s.heap a L) (hh : A.handled = none)
    (q : ∀ (s1 : Shared) (vs : List Value), (∀ b o, s.heap.get? b = some o → s1.heap.get? b = some o) → s.heap.objs.size ≤ s1.heap.objs.size → s1.gens = s.gens → s1.os = s.os → (∀ v ∈ vs, Plain v) → (vs.map kOf).Perm L →
      wpAny (model P w) A.in1 (call (.builtin "list.sort") [.ref s1.heap.objs.size]) (fun _ s2 => Q (.ref s1.heap.objs.size) s2) E { s1 with heap := s1.heap.push (seqObj "list" vs.toArray 0) }) :
    wpAny (model P w) A (call (.builtin "sorted") [.ref a]) Q E s := by
  obtain ⟨o, es, ep, t, ho, hex, hd, g, rfl, nd, hb, hf, hr, hl⟩ := R
  refine Calls.call_function_entry kind_sorted plain_sorted entry_sorted (args_sorted1 _) ?_
  unfold Builtin.«sorted»
  refine wpAny_bind (m := checkCount "sorted" 1 1 _) (wpAny_pure ?_)
  refine wpAny_bind (collect_set (A := A.in1) hh ⟨o, ho, hex.1, hd⟩ hf hb hr hl fun s1 vs k1 hz g1 o1 pm => ?_)
  have sz : vs.length = es.size := by
    have z := pm.length_eq
    rw [List.length_map, Array.length_toList] at z
    exact z
  have pl : ∀ v ∈ vs, Plain v := fun v hv => by
    obtain ⟨e, he, rfl⟩ := List.mem_map.mp (pm.mem_iff.mp hv)
    exact (g e he).1
  have pk : (vs.map kOf).Perm (es.toList.map fun e => kOf e.2) := by
    have z := pm.map kOf
    rw [List.map_map] at z
    exact z
  refine wpAny_bind (wpAny_newList ?_ (by rw [sz]; exact fits_of_scanBound hb))
  refine wpAny_bind (wpAny_holding (wpAny_mono (q s1 vs k1 hz g1 o1 pl pk) (fun r s2 z => ?_) fun _ _ z => z))
  exact wpAny_pure ⟨_, rfl, z⟩
end
section
variable {X : Cx}
theorem ints_keys : ∀ {vs : List Value} {ns : List Int}, (∀ v ∈ vs, Plain v) → vs.map kOf = ns.map Sum.inl → IntsAre vs ns
  | [], [], _, _ => .nil
  | v :: vs, n :: ns, p, e => by
    injection e with e1 e2
    rcases p v List.mem_cons_self with ⟨i, t, rfl⟩ | ⟨x, t, rfl⟩
    · have : i = n := Sum.inl.inj e1
      subst this
      exact .cons _ _ (ints_keys (fun u hu => p u (List.mem_cons_of_mem _ hu)) e2)
    · cases e1
theorem strs_keys : ∀ {vs : List Value} {ns : List Str}, (∀ v ∈ vs, Plain v) → vs.map kOf = ns.map Sum.inr → StrsAre vs ns
  | [], [], _, _ => .nil
  | v :: vs, n :: ns, p, e => by
    injection e with e1 e2
    rcases p v List.mem_cons_self with ⟨i, t, rfl⟩ | ⟨x, t, rfl⟩
    · cases e1
    · have : x = n := Sum.inr.inj e1
      subst this
      exact .cons _ _ (strs_keys (fun u hu => p u (List.mem_cons_of_mem _ hu)) e2)
theorem perm_ints {l : List L2.Key} {ms : List Int} (h : l.Perm (ms.map Sum.inl)) : ∃ ns : List Int, l = ns.map Sum.inl ∧ ns.Perm ms := by
  have all : ∀ k ∈ l, ∃ n : Int, k = Sum.inl n := fun k hk => by
    obtain ⟨n, _, e⟩ := List.mem_map.mp (h.mem_iff.mp hk)
    exact ⟨n, e.symm⟩
  have e : l = (l.map fun k => match k with | Sum.inl n => n | Sum.inr _ => (0 : Int)).map Sum.inl := by
    rw [List.map_map]
    conv => lhs; rw [← List.map_id l]
    refine List.map_congr_left fun k hk => ?_
    obtain ⟨n, rfl⟩ := all k hk
    rfl
  refine ⟨_, e, ?_⟩
  have z := h.map fun k : L2.Key => match k with | Sum.inl n => n | Sum.inr _ => (0 : Int)
  rw [List.map_map] at z
  have e2 : ms.map ((fun k : L2.Key => match k with | Sum.inl n => n | Sum.inr _ => (0 : Int)) ∘ Sum.inl) = ms := by
    conv => rhs; rw [← List.map_id ms]
    exact List.map_congr_left fun _ _ => rfl
  rw [e2] at z
  exact z
theorem perm_strs {l : List L2.Key} {ms : List Str} (h : l.Perm (ms.map Sum.inr)) : ∃ ns : List Str, l = ns.map Sum.inr ∧ ns.Perm ms := by
  have all : ∀ k ∈ l, ∃ n : Str, k = Sum.inr n := fun k hk => by
    obtain ⟨n, _, e⟩ := List.mem_map.mp (h.mem_iff.mp hk)
    exact ⟨n, e.symm⟩
  have e : l = (l.map fun k => match k with | Sum.inl _ => Str.empty | Sum.inr n => n).map Sum.inr := by
    rw [List.map_map]
    conv => lhs; rw [← List.map_id l]
    refine List.map_congr_left fun k hk => ?_
    obtain ⟨n, rfl⟩ := all k hk
    rfl
  refine ⟨_, e, ?_⟩
  have z := h.map fun k : L2.Key => match k with | Sum.inl _ => Str.empty | Sum.inr n => n
  rw [List.map_map] at z
  have e2 : ms.map ((fun k : L2.Key => match k with | Sum.inl _ => Str.empty | Sum.inr n => n) ∘ Sum.inr) = ms := by
    conv => rhs; rw [← List.map_id ms]
    exact List.map_congr_left fun _ _ => rfl
  rw [e2] at z
  exact z
/-- sorted of such a set, fewer than 64 members -/
def rSortedK (P : Program) (w : World) : List V → Hp → VK → Prop := fun vs H Q => ∃ (a : Addr) (L : List L2.Key), vs = [.ref a] ∧ H a = some (SetKO P w a L) ∧ L.length < 64 ∧
  ((∃ ms : List Int, L = ms.map Sum.inl ∧ ∀ (ns : List Int) (p : Addr), ns.Perm ms → ns.Pairwise (· ≤ ·) → H p = none → Q (.ref p) (upd H p (.lst (ns.map V.int)))) ∨
   ∃ ms : List Str, L = ms.map Sum.inr ∧ ∀ (ns : List Str) (p : Addr), ns.Perm ms → sortedS ns = true → H p = none → Q (.ref p) (upd H p (.lst (ns.map V.str))))
theorem cr_sortedK (hc : X.calm = true) : CallR X (.builtin "sorted") (rSortedK X.prog X.w) := by
  intro pins s σ H xs us Q I r h
  obtain ⟨a, L, rfl, ha, h64, q⟩ := h
  rw [Vals.ref1 r]
  refine sorted_of (setKO_get I ha) (I.ok.hd hc) fun s1 vs k1 hz g1 o1 pl pk => ?_
  have hv : vs.length < 64 := by
    have z := pk.length_eq
    rw [List.length_map] at z
    omega
  have gL : (s1.heap.push (seqObj "list" vs.toArray 0)).get? s1.heap.objs.size = some (seqObj "list" vs.toArray 0) := Heap.get?_push_size _ rfl
  have fin : ∀ (ys : List V) (out : Array Value), Vals ys out.toList → ys.length ≤ sizeLine → Q (.ref s1.heap.objs.size) (upd H s1.heap.objs.size (.lst ys)) →
      EP X pins σ Q (.ref s1.heap.objs.size) { s1 with heap := sortedHeap (s1.heap.push (seqObj "list" vs.toArray 0)) s1.heap.objs.size vs out } := fun ys out rv hy z => by
    obtain ⟨c, hcc⟩ := sortedHeap_at (vs := vs) (out := out) gL
    have k : ∀ b u, s.heap.get? b = some u → (sortedHeap (s1.heap.push (seqObj "list" vs.toArray 0)) s1.heap.objs.size vs out).get? b = some u := fun b u e => by
      have e1 := k1 b u e
      have lt := Heap.lt_size e1
      rw [sortedHeap_old (Nat.ne_of_lt lt) (by rw [size_push']; exact Nat.lt_succ_of_lt lt)]
      exact Heap.get?_push_of_some _ e1
    have hn := I.hok.fresh hz
    have J : Inv X pins σ (upd H s1.heap.objs.size (.lst ys)) { s with heap := sortedHeap (s1.heap.push (seqObj "list" vs.toArray 0)) s1.heap.objs.size vs out, gens := s1.gens, drawn := s1.drawn, toks := s1.toks } :=
      I.call (ch := []) (Un.laid k hz hn) (I.hok.laid k hz ⟨hy, out.toList, c, rv, hcc⟩) (by rw [g1]; exact I.bare) (fun _ z => nomatch z)
    have e : { s1 with heap := sortedHeap (s1.heap.push (seqObj "list" vs.toArray 0)) s1.heap.objs.size vs out } = { s with heap := sortedHeap (s1.heap.push (seqObj "list" vs.toArray 0)) s1.heap.objs.size vs out, gens := s1.gens, drawn := s1.drawn, toks := s1.toks } := by
      cases s1
      cases s
      cases o1
      rfl
    rw [e]
    exact ⟨.ref _, _, J, rfl, z⟩
  rcases q with ⟨ms, rfl, q⟩ | ⟨ms, rfl, q⟩
  · obtain ⟨ns, en, pn⟩ := perm_ints pk
    have iv := ints_keys pl en
    refine wpAny_call_entry slot_list_sort ⟨_, gL, rfl⟩ entry_list_sort (list_sort_tree gL iv hv fun out ns' a1 a2 a3 => ⟨_, rfl, ?_⟩) (args_list_sort _)
    refine fin (ns'.map V.int) out (vals_of_ints a1) ?_ (q ns' _ (a2.trans pn) a3 (I.hok.fresh hz))
    rw [List.length_map, (a2.trans pn).length_eq]
    rw [List.length_map] at h64
    exact Nat.le_trans (Nat.le_of_lt h64) (by decide)
  · obtain ⟨ns, en, pn⟩ := perm_strs pk
    have iv := strs_keys pl en
    refine wpAny_call_entry slot_list_sort ⟨_, gL, rfl⟩ entry_list_sort (list_sort_treeK strKind_oneLt gL iv.keysOf (fun v₁ v₂ rest e => keyKind_strs (by rw [← e]; exact iv)) hv fun st' hp hs => ?_) (args_list_sort _)
    obtain ⟨ys, b1, b2, b3⟩ := sorted_out_str iv hp hs
    refine ⟨_, rfl, ?_⟩
    refine fin (ys.map V.str) _ (vals_of_strs b1) ?_ (q ys _ (b2.trans pn) b3 (I.hok.fresh hz))
    rw [List.length_map, (b2.trans pn).length_eq]
    rw [List.length_map] at h64
    exact Nat.le_trans (Nat.le_of_lt h64) (by decide)
end
end Yk

namespace Kx
open PySem PySem.Spec PyProof.Rows L2
def topS (i : Nat) : Stmt := PySem.Challenge.pw_countedonce_k21_hot_keys.main.body.getD i (.Pass ⟨0, 0, 0, 0⟩)
abbrev sCell : Stmt := topS 80
abbrev sDraw : Stmt := topS 81
abbrev sNumb : Stmt := topS 82
abbrev sNext : Stmt := topS 83
abbrev sPick : Stmt := topS 84
section
variable {P : Program} {w : World} {K : PySem.W.Frag} {mg : Str → Option Value} {base : Heap}
/-- a def of the top that keeps a promise, and may be called by its name -/
structure Ready (P : Program) (w : World) (K : PySem.W.Frag) (mg : Str → Option Value) (base : Heap) (k : Nat) (x : Str) (ps : List Str) (sp : Sp) : Prop where
  ex : ∃ f fd, FnOk P w K mg base CX0 k f fd ps sp ∧ Binds K fd ps [] ∧ mg x = some (.ref f) ∧ PySem.W.keepIn K (.ref f) = true
end
theorem pe_fn {X : Cx} {k : Nat} {x : Str} {ps : List Str} {sp : Sp} {p pos : Pos} {e : Expr} {es : List Expr} {t : TA} (G : Ready X.prog X.w X.K X.mg X.base k x ps sp) (hr : Room k X.A) (ha : PA X (e :: es) t) (hg : Gl X x := by rfl)
    (hdb : (x == ("__debug__" : Str)) = false := by decide) (he : starEach (e :: es) X.env = (false, eval e X.env) :: starEach es X.env := by rfl) (hpl : (backTo pos (starEach es X.env)).any (·.1) = false := by rfl) :
    PE X (.Call (.Name x p) (e :: es) [] pos) (tCall sp [] E0 t) := by
  obtain ⟨f, fd, h, hb, hm, hk⟩ := G.ex
  exact pe_call h hr hg hm hk hb .nil pass0 ha hdb he hpl
/-- all that was tracked is as it was, but what stands at d -/
def But (d : Addr) (H H' : Hp) : Prop := ∀ b o, b ≠ d → H b = some o → H' b = some o
theorem But.refl (d : Addr) (H : Hp) : But d H H := fun _ _ _ h => h
theorem But.trans {d : Addr} {H H1 H2 : Hp} (a : But d H H1) (b : But d H1 H2) : But d H H2 := fun c o n h => b c o n (a c o n h)
theorem same_but {d : Addr} {H H' : Hp} (a : Same H H') : But d H H' := fun c o _ h => a c o h
theorem same_upd {H : Hp} {p : Addr} {o : HO} (h : H p = none) : Same H (upd H p o) := fun b x e => by
  rw [upd_ne (ne_of_none e h)]
  exact e
section
variable {P : Program} {w : World} {K : PySem.W.Frag} {mg : Str → Option Value} {base : Heap}
/-! ### the law's draws -/
def spCell (K : PySem.W.Frag) : Sp := fun vs H Q _ => ∃ (a : Addr) (ns : List Int) (k : Int), vs = [.ref a, .int k] ∧ SqL K H a (ns.map V.int) ∧ 0 ≤ k ∧ ∀ c : Int, Q (.int c) H
theorem sc_cell : FnScope ["script", "k"] ["script", "k"] (defScope sCell) := ⟨rfl, rfl, rfl, by decide +kernel, rfl, by decide +kernel, by decide +kernel⟩
theorem ok_cell {f : Addr} {fd : FuncData} (F : Fun K "_law_cell_at" "_law_cell_at" sCell f fd) (m_len : mg "len" = none) : FnOk P w K mg base CX0 1 f fd ["script", "k"] (spCell K) := by
  refine F.ok sc_cell (fun vs H Q E h => ?_) (fun cdv A outer s H vs Q E hr h => ?_)
  · obtain ⟨a, ns, k, rfl, _⟩ := h
    rfl
  obtain ⟨a, ns, k, rfl, hS, h0, q⟩ := h
  refine ⟨_, pss_cons (ps_if (pt_cmpR op_lt (pv 1) (pe_callB call_len_seq (by rfl) m_len PySem.boot_len (pa_cons (pv 0) pa_nil)) (nomark _)) (pss_one (ps_ret (pe_ix ix_list (pv 0) (pv 1) (fun _ _ => rfl)))) (pss_nil))
      (pss_one (ps_ret pe_int)), ?_⟩
  refine ⟨_, rfl, _, rfl, a, _, rfl, .inl hS, _, _, rfl, rfl, _, rfl, ?_⟩
  refine ite2 (fun c => ?_) (fun c => q 0)
  have c' : k < ((ns.map V.int).length : Int) := of_decide_eq_true c
  have ek : k = ((k.toNat : Nat) : Int) := by omega
  have hk : k.toNat < ns.length := by rw [List.length_map] at c'; omega
  have ha : atI (ns.map V.int) ((k.toNat : Nat) : Int) = some (.int ns[k.toNat]) := atI_nat (by rw [List.getElem?_map, List.getElem?_eq_getElem hk] <;> rfl)
  rw [← ek] at ha
  exact ⟨_, rfl, _, rfl, a, _, _, _, rfl, rfl, hS, ha, q _⟩
def spDraw : Sp := fun vs H Q _ => ∃ (c k b : Int), vs = [.int c, .int k, .int b] ∧ 0 < b ∧ ∀ (r : Int) (H' : Hp), 0 ≤ r → r < b → Same H H' → Q (.int r) H'
theorem sc_draw : FnScope ["cell", "k", "bound", "primes"] ["cell", "k", "bound"] (defScope sDraw) := ⟨rfl, rfl, rfl, by decide +kernel, rfl, by decide +kernel, by decide +kernel⟩
def primesL : List Int := [1000003, 1000033, 1000037, 1000039, 1000081, 1000099, 1000117, 1000121, 1000133, 1000151, 1000159, 1000171, 1000183, 1000187, 1000193, 1000199]
theorem primes_at {i : Int} (h0 : 0 ≤ i) (h : i < 16) : ∃ p : Int, 0 < p ∧ atI (primesL.map V.int) i = some (.int p) := by
  have ei : i = ((i.toNat : Nat) : Int) := by omega
  have hk : i.toNat < primesL.length := by show i.toNat < 16; omega
  refine ⟨primesL[i.toNat], ?_, ?_⟩
  · have : ∀ x ∈ primesL, (0 : Int) < x := by decide
    exact this _ (List.getElem_mem hk)
  · have q : atI (primesL.map V.int) ((i.toNat : Nat) : Int) = some (.int primesL[i.toNat]) := atI_nat (by rw [List.getElem?_map, List.getElem?_eq_getElem hk] <;> rfl)
    rw [← ei] at q
    exact q
theorem ok_draw {f : Addr} {fd : FuncData} (F : Fun K "_law_draw" "_law_draw" sDraw f fd) (m_int : mg "int" = none) : FnOk P w K mg base CX0 1 f fd ["cell", "k", "bound"] spDraw := by
  refine F.ok sc_draw (fun vs H Q E h => ?_) (fun cdv A outer s H vs Q E hr h => ?_)
  · obtain ⟨c, k, b, rfl, _⟩ := h
    rfl
  obtain ⟨c, k, b, rfl, hb, q⟩ := h
  have nd := sc_draw.nd
  refine ⟨_, pss_cons (ps_set (i := 3) nd rfl (.inl rfl) (pe_tup (pa_cons pe_int (pa_cons pe_int (pa_cons pe_int (pa_cons pe_int (pa_cons pe_int (pa_cons pe_int (pa_cons pe_int (pa_cons pe_int (pa_cons pe_int (pa_cons pe_int (pa_cons pe_int (pa_cons pe_int (pa_cons pe_int (pa_cons pe_int (pa_cons pe_int (pa_cons pe_int pa_nil))))))))))))))))))
      (pss_one (ps_ret (pe_op op_mod (pe_op op_mod (pe_callTy call_int1 (by rfl) m_int boot_int (pa_cons (pe_op op_add (pe_op op_mul (pv 0) pe_int) (pe_op op_mul (pv 1) pe_int)) pa_nil)) (pe_ix ix_tup (pv 3) (pe_op op_mod (pe_callTy call_int1 (by rfl) m_int boot_int (pa_cons (pv 1) pa_nil)) pe_int) (fun _ _ => rfl))) (pv 2)))), ?_⟩
  refine ⟨by show 16 ≤ sizeLine; decide, fun t ht => ?_⟩
  obtain ⟨p, hp, hat⟩ := primes_at (i := k % 16) (by omega) (by omega)
  refine ⟨_, rfl, _, _, rfl, rfl, .inr (by show _ ∧ _; decide), _, rfl, _, _, rfl, rfl, .inr (by show _ ∧ _; decide), _, _, rfl, rfl, .inl ⟨_, rfl, ?_⟩⟩
  refine ⟨_, rfl, _, rfl, .inl ⟨_, rfl, _, _, rfl, rfl, (by show (0 : Int) < 16; decide), ?_⟩⟩
  refine ⟨t, primesL.map V.int, _, _, rfl, rfl, SqT.of upd_same, hat, _, _, rfl, rfl, hp, _, rfl, _, _, rfl, rfl, hb, ?_⟩
  exact q _ _ (Int.emod_nonneg _ (by omega)) (Int.emod_lt_of_pos _ hb) (same_upd ht)
end
end Kx

namespace Kx
open PySem PySem.Spec PyProof.Rows L2
section
variable {P : Program} {w : World} {K : PySem.W.Frag} {mg : Str → Option Value} {base : Heap}
theorem pow_lt : ∀ i : Nat, i < 24 → (1009 ^ i : Nat) < 2 ^ 240 := by decide +kernel
theorem sc_numb : FnScope ["cell", "k", "bound", "power", "lap", "remains", "small"] ["cell", "k", "bound"] (defScope sNumb) := ⟨rfl, rfl, rfl, by decide +kernel, rfl, by decide +kernel, by decide +kernel⟩
def spNumb : Sp := fun vs H Q _ => ∃ (c k b : Int), vs = [.int c, .int k, .int b] ∧ 0 ≤ k ∧ k ≤ 100 ∧ 0 < b ∧ ∀ (r : Int) (H' : Hp), 0 ≤ r → r < b → Same H H' → Q (.int r) H'
theorem ok_numb {f : Addr} {fd : FuncData} (F : Fun K "_law_number" "_law_number" sNumb f fd) (m_int : mg "int" = none) (m_range : mg "range" = none) (G_law_draw : Ready P w K mg base 1 "_law_draw" ["cell", "k", "bound"] spDraw) :
    FnOk P w K mg base CX0 2 f fd ["cell", "k", "bound"] spNumb := by
  refine F.ok sc_numb (fun vs H Q E h => ?_) (fun cdv A outer s H vs Q E hr h => ?_)
  · obtain ⟨c, k, b, rfl, _⟩ := h
    rfl
  obtain ⟨c, k, b, rfl, k0, k1, hb, q⟩ := h
  have nd := sc_numb.nd
  refine ⟨_, pss_cons (ps_set (i := 3) nd rfl (.inl rfl) pe_int)
      (pss_cons (ps_for PassesOwn.never rfl (pi_range1 rfl m_range (pa_cons (pe_op op_mod (pe_callTy call_int1 (by rfl) m_int boot_int (pa_cons (pv 1) pa_nil)) pe_int) pa_nil)) (pg_name (i := 4) nd rfl (.inl rfl)) (pss_one (ps_set (i := 3) nd rfl (.inl rfl) (pe_op op_mul (pv 3) pe_int))))
      (pss_cons (ps_set (i := 5) nd rfl (.inl rfl) (pe_op op_fdivW (pe_op op_sub (pv 0) (pe_op op_pow pe_int pe_int)) (pv 3)))
      (pss_cons (ps_if (pt_cmpR op_gt (pv 5) pe_int (nomark _)) (pss_one (ps_ret (pe_op op_mod (pe_op op_mod (pe_callTy call_int1 (by rfl) m_int boot_int (pa_cons (pv 5) pa_nil)) pe_int) (pv 2)))) (pss_nil))
      (pss_cons (ps_set (i := 6) nd rfl (.inl rfl) (pe_op op_mod (pe_callTy call_int1 (by rfl) m_int boot_int (pa_cons (pv 0) pa_nil)) pe_int))
      (pss_one (ps_ret (pe_op op_mod (pe_fn (G_law_draw) (hr.mono (by decide)) (pa_cons (pe_op op_mul (pe_op op_add (pv 6) (pe_op op_mul pe_int (pv 1))) (pe_op op_add (pe_op op_add (pv 6) (pe_op op_mul pe_int (pv 1))) pe_int)) (pa_cons (pe_op op_add (pe_op op_mod (pe_callTy call_int1 (by rfl) m_int boot_int (pa_cons (pv 1) pa_nil)) pe_int) pe_int) (pa_cons pe_int pa_nil)))) (pv 2)))))))), ?_⟩
  refine ⟨_, rfl, .inl ⟨_, rfl, _, _, rfl, rfl, (by show (0 : Int) < 24; decide), _, rfl, by omega, by omega, ?_⟩⟩
  have m0 : 0 ≤ k % 24 := Int.emod_nonneg _ (by omega)
  have m1 : k % 24 < 24 := Int.emod_lt_of_pos _ (by omega)
  refine for_range (fun i σ H' => ∃ y4, σ = [some (.int c), some (.int k), some (.int b), some (.int ((1009 ^ i : Nat) : Int)), y4, none, none] ∧ H' = H) ⟨none, rfl, rfl⟩ ?_ ?_
  · rintro i σ H' hi ⟨y4, rfl, rfl⟩
    refine ⟨_, rfl, _, _, rfl, rfl, .inr (by show _ ∧ _; decide), ?_⟩
    refine ⟨some (.int (0 + (i : Nat))), ?_, rfl⟩
    rw [Nat.pow_succ, Int.natCast_mul]
    rfl
  · rintro σ H' ⟨y4, rfl, rfl⟩
    have hj : (k % 24).toNat < 24 := by omega
    have hp := pow_lt _ hj
    have hp0 : 0 < (1009 ^ (k % 24).toNat : Nat) := Nat.pow_pos (by decide)
    generalize (1009 ^ (k % 24).toNat : Nat) = pw at hp hp0
    refine ⟨_, rfl, _, _, rfl, rfl, (by show _ ∧ _ ∧ _; decide), _, _, rfl, rfl, _, rfl, _, _, rfl, rfl, wide_div (b := 240) (by omega) (by omega) (by decide) (by decide), ?_⟩
    refine ⟨_, rfl, _, _, rfl, rfl, _, rfl, ?_⟩
    refine ite2 (fun _ => ?_) (fun _ => ?_)
    · refine ⟨_, rfl, .inl ⟨_, rfl, _, _, rfl, rfl, (by show (0 : Int) < 1009; decide), _, rfl, _, _, rfl, rfl, hb, ?_⟩⟩
      exact q _ _ (Int.emod_nonneg _ (by omega)) (Int.emod_lt_of_pos _ hb) (Same.refl _)
    · refine ⟨_, rfl, .inl ⟨_, rfl, _, _, rfl, rfl, (by show (0 : Int) < 1000003; decide), ?_⟩⟩
      have s0 : 0 ≤ c % 1000003 := Int.emod_nonneg _ (by omega)
      have s1 : c % 1000003 < 1000003 := Int.emod_lt_of_pos _ (by omega)
      refine ⟨_, rfl, _, rfl, _, _, rfl, rfl, .inl (by show _ ∧ _; decide), _, _, rfl, rfl, ?_⟩
      refine ⟨_, rfl, _, rfl, _, _, rfl, rfl, .inl (by show _ ∧ _; decide), _, _, rfl, rfl, _, _, rfl, rfl, _, _, rfl, rfl, .inl (by show _ ∧ _; omega), ?_⟩
      refine ⟨_, rfl, .inl ⟨_, rfl, _, _, rfl, rfl, (by show (0 : Int) < 9; decide), _, _, rfl, rfl, _, _, _, rfl, by decide, fun r H2 r0 r1 sm => ?_⟩⟩
      refine ⟨_, rfl, _, _, rfl, rfl, hb, ?_⟩
      exact q _ _ (Int.emod_nonneg _ (by omega)) (Int.emod_lt_of_pos _ hb) sm
theorem at0 {a b c : V} {tl : List V} : atI (a :: b :: c :: tl) 0 = some a := atI_nat (j := 0) rfl
theorem at1 {a b c : V} {tl : List V} : atI (a :: b :: c :: tl) 1 = some b := atI_nat (j := 1) rfl
theorem at2 {a b c : V} {tl : List V} : atI (a :: b :: c :: tl) 2 = some c := atI_nat (j := 2) rfl
theorem ix2 {a b c : V} {tl : List V} : ixN (a :: b :: c :: tl).length 2 = some 2 := by
  have h : (2 : Int) < (((a :: b :: c :: tl).length : Nat) : Int) := by show (2 : Int) < ((tl.length + 1 + 1 + 1 : Nat) : Int); omega
  exact (if_pos (by decide)).trans (if_pos h)
/-- the three things of a draw: the script's first cells, where it begins, how many were drawn -/
structure DrawAt (H : Hp) (d s : Addr) (ns : List Int) (xs : List V) (n : Int) : Prop where
  at_d : H d = some (.lst (.ref s :: .int 0 :: .int n :: xs))
  at_s : H s = some (.lst (ns.map V.int))
  n0 : 0 ≤ n
theorem DrawAt.ne {H : Hp} {d s : Addr} {ns : List Int} {tl : List V} {n : Int} (D : DrawAt H d s ns tl n) : s ≠ d := fun e => by
  have a := D.at_s
  rw [e, D.at_d] at a
  cases ns with
  | nil => cases a
  | cons x r => cases a
theorem DrawAt.keep {H H' : Hp} {d s : Addr} {ns : List Int} {tl : List V} {n : Int} (D : DrawAt H d s ns tl n) (h : Same H H') : DrawAt H' d s ns tl n := ⟨h _ _ D.at_d, h _ _ D.at_s, D.n0⟩
def spNext : Sp := fun vs H Q _ => ∃ (d s : Addr) (ns : List Int) (tl : List V) (n b : Int), vs = [.ref d, .int b] ∧ DrawAt H d s ns tl n ∧ 0 < b ∧ ∀ (r : Int) (H' : Hp), 0 ≤ r → r < b → But d H H' → DrawAt H' d s ns tl (n + 1) → Q (.int r) H'
theorem sc_next : FnScope ["draw", "bound", "at", "cell"] ["draw", "bound"] (defScope sNext) := ⟨rfl, rfl, rfl, by decide +kernel, rfl, by decide +kernel, by decide +kernel⟩
theorem ok_next {f : Addr} {fd : FuncData} (F : Fun K "_law_next" "_law_next" sNext f fd) (m_int : mg "int" = none) (G_law_cell_at : Ready P w K mg base 1 "_law_cell_at" ["script", "k"] (spCell K)) (G_law_number : Ready P w K mg base 2 "_law_number" ["cell", "k", "bound"] spNumb) :
    FnOk P w K mg base CX0 3 f fd ["draw", "bound"] spNext := by
  refine F.ok sc_next (fun vs H Q E h => ?_) (fun cdv A outer s H vs Q E hr h => ?_)
  · obtain ⟨d, s, ns, tl, n, b, rfl, _⟩ := h
    rfl
  obtain ⟨d, s, ns, tl, n, b, rfl, D, hb, q⟩ := h
  have nd := sc_next.nd
  refine ⟨_, pss_cons (ps_asg (pe_op op_add (pe_ix ix_list (pv 0) pe_int (fun _ _ => rfl)) pe_int) (pg_sub (pv 0) pe_int set_list))
      (pss_cons (ps_set (i := 2) nd rfl (.inl rfl) (pe_op op_fdiv (pe_ix ix_list (pv 0) pe_int (fun _ _ => rfl)) pe_int))
      (pss_cons (ps_set (i := 3) nd rfl (.inl rfl) (pe_op op_add (pe_fn (G_law_cell_at) (hr.mono (by decide)) (pa_cons (pe_ix ix_list (pv 0) pe_int (fun _ _ => rfl)) (pa_cons (pe_op op_add (pe_ix ix_list (pv 0) pe_int (fun _ _ => rfl)) (pv 2)) pa_nil))) (pe_op op_mul pe_int (pv 2))))
      (pss_one (ps_ret (pe_fn (G_law_number) (hr.mono (by decide)) (pa_cons (pv 3) (pa_cons (pe_op op_add (pe_op op_mod (pe_callTy call_int1 (by rfl) m_int boot_int (pa_cons (pe_ix ix_list (pv 0) pe_int (fun _ _ => rfl)) pa_nil)) pe_int) pe_int) (pa_cons (pv 1) pa_nil)))))))), ?_⟩
  refine ⟨_, rfl, d, _, 2, _, rfl, rfl, SqL.of D.at_d, at2, _, _, rfl, rfl, _, rfl, d, _, _, _, rfl, rfl, D.at_d, ix2, ?_⟩
  have D1 : DrawAt (upd H d (.lst (.ref s :: .int 0 :: .int (n + 1) :: tl))) d s ns tl (n + 1) := ⟨upd_same, by rw [upd_ne D.ne]; exact D.at_s, by have := D.n0; omega⟩
  have b1 : But d H (upd H d (.lst (.ref s :: .int 0 :: .int (n + 1) :: tl))) := fun c o hc e => by rw [upd_ne hc]; exact e
  have n0 := D1.n0
  refine ⟨_, rfl, d, _, 2, _, rfl, rfl, SqL.of D1.at_d, at2, _, _, rfl, rfl, (by show _ ∧ _; decide), ?_⟩
  refine ⟨_, rfl, d, _, 0, _, rfl, rfl, SqL.of D1.at_d, at0, _, rfl, d, _, 1, _, rfl, rfl, SqL.of D1.at_d, at1, _, rfl, _, _, rfl, rfl, s, ns, _, rfl, SqL.of D1.at_s, by omega, fun c => ?_⟩
  refine ⟨_, rfl, _, _, rfl, rfl, .inl (by show _ ∧ _; decide), _, _, rfl, rfl, ?_⟩
  refine ⟨_, rfl, _, rfl, d, _, 2, _, rfl, rfl, SqL.of D1.at_d, at2, .inl ⟨_, rfl, _, _, rfl, rfl, (by show (0 : Int) < 12; decide), _, _, rfl, rfl, _, rfl, ?_⟩⟩
  refine ⟨_, _, _, rfl, by omega, by omega, hb, fun r H' r0 r1 sm => ?_⟩
  exact q r H' r0 r1 (b1.trans (same_but sm)) (D1.keep sm)
/-- a list or a tuple of values -/
def Seq (K : PySem.W.Frag) (H : Hp) (a : Addr) (xs : List V) : Prop := SqL K H a xs ∨ SqT K H a xs
theorem nth {xs : List V} {r : Int} (h0 : 0 ≤ r) (h1 : r < (xs.length : Int)) : ∃ v, v ∈ xs ∧ atI xs r = some v := by
  have er : r = ((r.toNat : Nat) : Int) := by omega
  have hk : r.toNat < xs.length := by omega
  have q : atI xs ((r.toNat : Nat) : Int) = some xs[r.toNat] := atI_nat (List.getElem?_eq_getElem hk)
  rw [← er] at q
  exact ⟨_, List.getElem_mem hk, q⟩
theorem But.sqT {H H' : Hp} {d a : Addr} {xs : List V} (h : But d H H') (hd : ∃ l, H d = some (.lst l)) (q : SqT K H a xs) : SqT K H' a xs := by
  rcases q with (q | ⟨o, q⟩) | q
  · refine .inl (.inl (h _ _ (fun e => ?_) q))
    obtain ⟨l, hl⟩ := hd
    rw [e, hl] at q
    cases q
  · refine .inl (.inr ⟨o, h _ _ (fun e => ?_) q⟩)
    obtain ⟨l, hl⟩ := hd
    rw [e, hl] at q
    cases q
  · exact .inr q
def spPick (K : PySem.W.Frag) : Sp := fun vs H Q _ => ∃ (d s t : Addr) (ns : List Int) (tl : List V) (n : Int) (xs : List V), vs = [.ref d, .ref t] ∧ DrawAt H d s ns tl n ∧ t ≠ d ∧ Seq K H t xs ∧ xs ≠ [] ∧ ∀ (v : V) (H' : Hp), v ∈ xs → But d H H' → DrawAt H' d s ns tl (n + 1) → Q v H'
theorem sc_pick : FnScope ["draw", "things"] ["draw", "things"] (defScope sPick) := ⟨rfl, rfl, rfl, by decide +kernel, rfl, by decide +kernel, by decide +kernel⟩
theorem But.seq {H H' : Hp} {d a : Addr} {xs : List V} (h : But d H H') (hd : a ≠ d) (q : Seq K H a xs) : Seq K H' a xs := by
  rcases q with ((q | ⟨o, q⟩) | q) | ((q | ⟨o, q⟩) | q)
  · exact .inl (.inl (.inl (h _ _ hd q)))
  · exact .inl (.inl (.inr ⟨o, h _ _ hd q⟩))
  · exact .inl (.inr q)
  · exact .inr (.inl (.inl (h _ _ hd q)))
  · exact .inr (.inl (.inr ⟨o, h _ _ hd q⟩))
  · exact .inr (.inr q)
theorem ok_pick {f : Addr} {fd : FuncData} (F : Fun K "_law_pick" "_law_pick" sPick f fd) (m_len : mg "len" = none) (G_law_next : Ready P w K mg base 3 "_law_next" ["draw", "bound"] spNext) :
    FnOk P w K mg base CX0 4 f fd ["draw", "things"] (spPick K) := by
  refine F.ok sc_pick (fun vs H Q E h => ?_) (fun cdv A outer s H vs Q E hr h => ?_)
  · obtain ⟨d, s, t, ns, tl, n, xs, rfl, _⟩ := h
    rfl
  obtain ⟨d, s, t, ns, tl, n, xs, rfl, D, td, hS, hne, q⟩ := h
  have nd := sc_pick.nd
  refine ⟨_, pss_one (ps_ret (pe_ix ix_seq (pv 1) (pe_fn (G_law_next) (hr.mono (by decide)) (pa_cons (pv 0) (pa_cons (pe_callB call_len_seq (by rfl) m_len PySem.boot_len (pa_cons (pv 1) pa_nil)) pa_nil))) (fun _ _ => rfl))), ?_⟩
  have hl : 0 < (xs.length : Int) := by
    have := List.length_pos_iff.mpr hne
    omega
  refine ⟨_, rfl, _, rfl, _, rfl, t, xs, rfl, hS, d, s, ns, tl, n, _, rfl, D, hl, fun r H' r0 r1 bt D' => ?_⟩
  obtain ⟨v, hv, hat⟩ := nth r0 r1
  rcases bt.seq td hS with hL | hT
  · exact .inl ⟨t, xs, _, _, rfl, rfl, hL, hat, q _ _ hv bt D'⟩
  · exact .inr (.inl ⟨t, xs, _, _, rfl, rfl, hT, hat, q _ _ hv bt D'⟩)
end
end Kx

namespace Kx
open PySem PySem.Spec PyProof.Rows L2
abbrev sWrap : Stmt := topS 3
abbrev sIsSo : Stmt := topS 13
abbrev sCount : Stmt := topS 14
abbrev sTwo : Stmt := topS 15
/-! ### what expressions are worth, in plain Lean -/
def wrap (n : Int) : Int := (n + 9223372036854775808) % 18446744073709551616 - 9223372036854775808
theorem wrap_in (n : Int) : -9223372036854775808 ≤ wrap n ∧ wrap n < 9223372036854775808 := by
  unfold wrap
  omega
theorem wrap_id {n : Int} (h : -9223372036854775808 ≤ n ∧ n < 9223372036854775808) : wrap n = n := by
  unfold wrap
  omega
def b2 (b : Bool) : Int := if b then 1 else 0
theorem b2_in (b : Bool) : -9223372036854775808 ≤ b2 b ∧ b2 b < 9223372036854775808 := by cases b <;> decide
def ltV : V → V → Bool
  | .int i, .int j => decide (i < j)
  | .str a, .str b => decide (a.cps.toList < b.cps.toList)
  | _, _ => false
def leV : V → V → Bool
  | .int i, .int j => decide (i ≤ j)
  | .str a, .str b => !decide (b.cps.toList < a.cps.toList)
  | _, _ => false
def isSo (op : Str) (x y : V) : Bool :=
  if V.str op = .str "=" then decide (x = y) else if V.str op = .str "!=" then !decide (x = y) else if V.str op = .str "<" then ltV x y else if V.str op = .str "<=" then leV x y else if V.str op = .str ">" then ltV y x else leV y x
def counted (op : Str) (a b : Int) : Int :=
  if V.str op = .str "+" then a + b else if V.str op = .str "-" then a - b else if V.str op = .str "*" then a * b else if V.int b = .int 0 then 0 else if V.str op = .str "/" then a.fdiv b else a.fmod b
def toI : V → Int
  | .int i => i
  | _ => 0
/-- the six comparisons; the five others -/
def cmps : List Str := ["=", "!=", "<", "<=", ">", ">="]
/-- those that texts are compared by -/
def cmpsT : List Str := ["=", "!=", "<", ">="]
theorem cmpsT_sub : ∀ op ∈ cmpsT, op ∈ cmps := by decide +kernel
def sums : List Str := ["+", "-", "*", "/", "mod"]
def two (op : Str) (x y : V) : Int :=
  if V.str op = .str "and" then b2 (!decide (x = .int 0) && !decide (y = .int 0)) else if V.str op = .str "or" then b2 (!decide (x = .int 0) || !decide (y = .int 0)) else if op ∈ cmps then b2 (isSo op x y) else wrap (counted op (toI x) (toI y))
/-- both ints, or both texts -/
def Alike (x y : V) : Prop := (∃ i j : Int, x = .int i ∧ y = .int j) ∨ ∃ a b : Str, x = .str a ∧ y = .str b
inductive Ex where
  | num (i : Int)
  | quo (z : Str)
  | col (x : Str)
  | two (op : Str) (a b : Ex)
  | nt (a : Ex)
  | mn (a : Ex)
  | ln (a : Ex)
def Ex.dep : Ex → Nat
  | .two _ a b => max a.dep b.dep + 1
  | .nt a => a.dep + 1
  | .mn a => a.dep + 1
  | .ln a => a.dep + 1
  | _ => 1
theorem Ex.dep_pos (e : Ex) : 0 < e.dep := by cases e <;> exact Nat.succ_pos _
def lenV : V → Int
  | .str z => (z.length : Nat)
  | _ => 0
def Ex.val (ρ : Str → V) : Ex → V
  | .num i => .int i
  | .quo z => .str z
  | .col x => ρ x
  | .two op a b => .int (Kx.two op (a.val ρ) (b.val ρ))
  | .nt a => .int (b2 (decide (a.val ρ = .int 0)))
  | .mn a => .int (wrap (-(toI (a.val ρ))))
  | .ln a => .int (lenV (a.val ρ))
/-- the kinds: true an int, false a text; c the kinds of the columns -/
inductive Kind (c : Str → Option Bool) : Ex → Bool → Prop where
  | num {i : Int} (h : -9223372036854775808 ≤ i ∧ i < 9223372036854775808) : Kind c (.num i) true
  | quo {z : Str} (h : z.length ≤ 100) : Kind c (.quo z) false
  | col {x : Str} {b : Bool} (h : c x = some b) : Kind c (.col x) b
  | arith {op : Str} {a b : Ex} (h : op ∈ sums ∨ op ∈ cmps ∨ op = "and" ∨ op = "or") (ha : Kind c a true) (hb : Kind c b true) : Kind c (.two op a b) true
  | text {op : Str} {a b : Ex} (h : op ∈ cmpsT) (ha : Kind c a false) (hb : Kind c b false) : Kind c (.two op a b) true
  | nt {a : Ex} (ha : Kind c a true) : Kind c (.nt a) true
  | mn {a : Ex} (ha : Kind c a true) : Kind c (.mn a) true
  | ln {a : Ex} (ha : Kind c a false) : Kind c (.ln a) true
/-- a value of a kind -/
def Fits : Bool → V → Prop
  | true, v => ∃ i : Int, v = .int i ∧ -9223372036854775808 ≤ i ∧ i < 9223372036854775808
  | false, v => ∃ z : Str, v = .str z ∧ z.length ≤ 100
theorem two_in (op : Str) (x y : V) : -9223372036854775808 ≤ two op x y ∧ two op x y < 9223372036854775808 := by
  unfold two
  split
  · exact b2_in _
  split
  · exact b2_in _
  split
  · exact b2_in _
  · exact wrap_in _
theorem val_fits {c : Str → Option Bool} {ρ : Str → V} (hρ : ∀ x b, c x = some b → Fits b (ρ x)) {e : Ex} {b : Bool} (h : Kind c e b) : Fits b (e.val ρ) := by
  induction h with
  | num h => exact ⟨_, rfl, h⟩
  | quo h => exact ⟨_, rfl, h⟩
  | col h => exact hρ _ _ h
  | arith h ha hb iha ihb => exact ⟨_, rfl, two_in _ _ _⟩
  | text h ha hb iha ihb => exact ⟨_, rfl, two_in _ _ _⟩
  | nt ha ih => exact ⟨_, rfl, b2_in _⟩
  | mn ha ih => exact ⟨_, rfl, wrap_in _⟩
  | ln ha ih =>
    obtain ⟨z, e, hz⟩ := ih
    refine ⟨_, rfl, ?_⟩
    rw [e]
    show -9223372036854775808 ≤ ((z.length : Nat) : Int) ∧ ((z.length : Nat) : Int) < 9223372036854775808
    omega
/-- how an expression stands in the heap -/
def ExAt (H : Hp) : V → Ex → Prop
  | v, .num i => ∃ a, v = .ref a ∧ H a = some (.tup [.str "number", .int i])
  | v, .quo z => ∃ a, v = .ref a ∧ H a = some (.tup [.str "quoted", .str z])
  | v, .col x => ∃ a, v = .ref a ∧ H a = some (.tup [.str "column", .str x])
  | v, .two op x y => ∃ a vx vy, v = .ref a ∧ H a = some (.tup [.str "two", .str op, vx, vy]) ∧ ExAt H vx x ∧ ExAt H vy y
  | v, .nt x => ∃ a vx, v = .ref a ∧ H a = some (.tup [.str "not", vx]) ∧ ExAt H vx x
  | v, .mn x => ∃ a vx, v = .ref a ∧ H a = some (.tup [.str "minus", vx]) ∧ ExAt H vx x
  | v, .ln x => ∃ a vx, v = .ref a ∧ H a = some (.tup [.str "length", vx]) ∧ ExAt H vx x
theorem ExAt.keep {H H' : Hp} (h : ∀ (a : Addr) (xs : List V), H a = some (.tup xs) → H' a = some (.tup xs)) : ∀ {e : Ex} {v : V}, ExAt H v e → ExAt H' v e
  | .num _, _, ⟨a, e, q⟩ => ⟨a, e, h _ _ q⟩
  | .quo _, _, ⟨a, e, q⟩ => ⟨a, e, h _ _ q⟩
  | .col _, _, ⟨a, e, q⟩ => ⟨a, e, h _ _ q⟩
  | .two _ _ _, _, ⟨a, vx, vy, e, q, x, y⟩ => ⟨a, vx, vy, e, h _ _ q, x.keep h, y.keep h⟩
  | .nt _, _, ⟨a, vx, e, q, x⟩ => ⟨a, vx, e, h _ _ q, x.keep h⟩
  | .mn _, _, ⟨a, vx, e, q, x⟩ => ⟨a, vx, e, h _ _ q, x.keep h⟩
  | .ln _, _, ⟨a, vx, e, q, x⟩ => ⟨a, vx, e, h _ _ q, x.keep h⟩
theorem But.tup {H H' : Hp} {d : Addr} {l : List V} (h : But d H H') (hd : H d = some (.lst l)) : ∀ (a : Addr) (xs : List V), H a = some (.tup xs) → H' a = some (.tup xs) := fun a xs e => h a _ (fun q => by rw [q, hd] at e; cases e) e
section
variable {X : Cx}
/-- // of ints of any sign -/
theorem op_fdivA : OpR X (binaryOp .FloorDiv) (rI (fun _ j => j ≠ 0 ∧ j.natAbs.log2 < 9000) fun i j => .int (i.fdiv j)) := opI fun i j _ _ _ _ _ hc q =>
  floordiv_int hc.1 q (.inl (PyProof.noPylong_of_log2 hc.2))
end
section
variable {P : Program} {w : World} {K : PySem.W.Frag} {mg : Str → Option Value} {base : Heap}
theorem str_eq {a b : Str} (h : V.str a = .str b) : a = b := by cases h; rfl
/-! ### wrapped -/
def spWrap : Sp := fun vs H Q _ => ∃ n : Int, vs = [.int n] ∧ Q (.int (wrap n)) H
theorem sc_wrap : FnScope ["number"] ["number"] (defScope sWrap) := ⟨rfl, rfl, rfl, by decide +kernel, rfl, by decide +kernel, by decide +kernel⟩
theorem ok_wrap {f : Addr} {fd : FuncData} (F : Fun K "wrapped" "wrapped" sWrap f fd) (m_LEAST : ∃ t, mg "LEAST_INT" = some (.int (-9223372036854775808) t)) : FnOk P w K mg base CX0 1 f fd ["number"] spWrap := by
  refine F.ok sc_wrap (fun vs H Q E h => ?_) (fun cdv A outer s H vs Q E hr h => ?_)
  · obtain ⟨n, rfl, _⟩ := h
    rfl
  obtain ⟨n, rfl, q⟩ := h
  obtain ⟨tk, m_L⟩ := m_LEAST
  refine ⟨_, pss_one (ps_ret (pe_op op_add (pe_op op_mod (pe_op op_sub (pv 0) (pe_glob (v := .int (-9223372036854775808)) rfl m_L ⟨_, rfl⟩)) (pe_op op_pow pe_int pe_int)) (pe_glob (v := .int (-9223372036854775808)) rfl m_L ⟨_, rfl⟩))), ?_⟩
  refine ⟨_, rfl, _, _, rfl, rfl, _, _, rfl, rfl, (by show _ ∧ _ ∧ _; decide), _, _, rfl, rfl, (by show (0 : Int) < 2 ^ 64; decide), _, _, rfl, rfl, ?_⟩
  have e : (n - -9223372036854775808) % (2 ^ (64 : Int).toNat) + -9223372036854775808 = wrap n := by
    unfold wrap
    show (n - -9223372036854775808) % 18446744073709551616 + -9223372036854775808 = _
    omega
  show Q (.int ((n - -9223372036854775808) % (2 ^ (64 : Int).toNat) + -9223372036854775808)) H
  rw [e]
  exact q
/-! ### is_so -/
theorem alike_scal {x y : V} (h : Alike x y) : scal x y = true := by
  rcases h with ⟨i, j, rfl, rfl⟩ | ⟨a, b, rfl, rfl⟩ <;> rfl
def spIsSo : Sp := fun vs H Q _ => ∃ (op : Str) (x y : V), vs = [.str op, x, y] ∧ Alike x y ∧ Q (.bl (isSo op x y)) H
theorem sc_isso : FnScope ["op", "one", "other"] ["op", "one", "other"] (defScope sIsSo) := ⟨rfl, rfl, rfl, by decide +kernel, rfl, by decide +kernel, by decide +kernel⟩
theorem ok_isso {f : Addr} {fd : FuncData} (F : Fun K "is_so" "is_so" sIsSo f fd) : FnOk P w K mg base CX0 1 f fd ["op", "one", "other"] spIsSo := by
  refine F.ok sc_isso (fun vs H Q E h => ?_) (fun cdv A outer s H vs Q E hr h => ?_)
  · obtain ⟨op, x, y, rfl, _⟩ := h
    rfl
  obtain ⟨op, x, y, rfl, hx, q⟩ := h
  have hs := alike_scal hx
  refine ⟨_, pss_cons (ps_if (pt_cmpR op_eq (pv 0) pe_str (nomark _)) (pss_one (ps_ret (pe_cmpR op_eq (pv 1) (pv 2) (nomark _)))) (pss_nil))
      (pss_cons (ps_if (pt_cmpR op_eq (pv 0) pe_str (nomark _)) (pss_one (ps_ret (pe_cmpR op_ne (pv 1) (pv 2) (nomark _)))) (pss_nil))
      (pss_cons (ps_if (pt_cmpR op_eq (pv 0) pe_str (nomark _)) (pss_one (ps_ret (pe_cmpR (op_lt.or op_lt_str) (pv 1) (pv 2) (nomark _)))) (pss_nil))
      (pss_cons (ps_if (pt_cmpR op_eq (pv 0) pe_str (nomark _)) (pss_one (ps_ret (pe_cmpR (op_le.or op_le_str) (pv 1) (pv 2) (nomark _)))) (pss_nil))
      (pss_cons (ps_if (pt_cmpR op_eq (pv 0) pe_str (nomark _)) (pss_one (ps_ret (pe_cmpR (op_gt.or op_gt_str) (pv 1) (pv 2) (nomark _)))) (pss_nil))
      (pss_one (ps_ret (pe_cmpR (op_ge.or op_ge_str) (pv 1) (pv 2) (nomark _)))))))), ?_⟩
  unfold isSo at q
  refine ⟨_, rfl, rfl, _, rfl, ite2 (fun c => ?_) (fun c => ?_)⟩
  · rw [if_pos (of_decide_eq_true c)] at q
    exact ⟨_, rfl, _, rfl, hs, q⟩
  rw [if_neg (fun e => c (decide_eq_true e))] at q
  refine ⟨_, rfl, rfl, _, rfl, ite2 (fun c => ?_) (fun c => ?_)⟩
  · rw [if_pos (of_decide_eq_true c)] at q
    exact ⟨_, rfl, _, rfl, hs, q⟩
  rw [if_neg (fun e => c (decide_eq_true e))] at q
  refine ⟨_, rfl, rfl, _, rfl, ite2 (fun c => ?_) (fun c => ?_)⟩
  · rw [if_pos (of_decide_eq_true c)] at q
    rcases hx with ⟨i, j, rfl, rfl⟩ | ⟨a, b, rfl, rfl⟩
    · exact ⟨_, rfl, _, rfl, .inl ⟨_, _, rfl, rfl, q⟩⟩
    · exact ⟨_, rfl, _, rfl, .inr ⟨_, _, rfl, rfl, q⟩⟩
  rw [if_neg (fun e => c (decide_eq_true e))] at q
  refine ⟨_, rfl, rfl, _, rfl, ite2 (fun c => ?_) (fun c => ?_)⟩
  · rw [if_pos (of_decide_eq_true c)] at q
    rcases hx with ⟨i, j, rfl, rfl⟩ | ⟨a, b, rfl, rfl⟩
    · exact ⟨_, rfl, _, rfl, .inl ⟨_, _, rfl, rfl, q⟩⟩
    · exact ⟨_, rfl, _, rfl, .inr ⟨_, _, rfl, rfl, q⟩⟩
  rw [if_neg (fun e => c (decide_eq_true e))] at q
  refine ⟨_, rfl, rfl, _, rfl, ite2 (fun c => ?_) (fun c => ?_)⟩
  · rw [if_pos (of_decide_eq_true c)] at q
    rcases hx with ⟨i, j, rfl, rfl⟩ | ⟨a, b, rfl, rfl⟩
    · exact ⟨_, rfl, _, rfl, .inl ⟨_, _, rfl, rfl, q⟩⟩
    · exact ⟨_, rfl, _, rfl, .inr ⟨_, _, rfl, rfl, q⟩⟩
  rw [if_neg (fun e => c (decide_eq_true e))] at q
  rcases hx with ⟨i, j, rfl, rfl⟩ | ⟨a, b, rfl, rfl⟩
  · exact ⟨_, rfl, _, rfl, .inl ⟨_, _, rfl, rfl, q⟩⟩
  · exact ⟨_, rfl, _, rfl, .inr ⟨_, _, rfl, rfl, q⟩⟩
/-! ### counted -/
def In64 (i : Int) : Prop := -9223372036854775808 ≤ i ∧ i < 9223372036854775808
def spCount : Sp := fun vs H Q _ => ∃ (op : Str) (a b : Int), vs = [.str op, .int a, .int b] ∧ In64 a ∧ In64 b ∧ Q (.int (counted op a b)) H
theorem sc_count : FnScope ["op", "one", "other"] ["op", "one", "other"] (defScope sCount) := ⟨rfl, rfl, rfl, by decide +kernel, rfl, by decide +kernel, by decide +kernel⟩
theorem log_ok {j : Int} (h : In64 j) : j.natAbs.log2 < 9000 := by
  have hj : j.natAbs < 2 ^ 64 := by unfold In64 at h; omega
  exact Nat.lt_trans (PySem.Flt.log2_lt_of (by decide) hj) (by decide)
theorem ok_count {f : Addr} {fd : FuncData} (F : Fun K "counted" "counted" sCount f fd) : FnOk P w K mg base CX0 1 f fd ["op", "one", "other"] spCount := by
  refine F.ok sc_count (fun vs H Q E h => ?_) (fun cdv A outer s H vs Q E hr h => ?_)
  · obtain ⟨op, x, y, rfl, _⟩ := h
    rfl
  obtain ⟨op, a, b, rfl, ha, hb, q⟩ := h
  refine ⟨_, pss_cons (ps_if (pt_cmpR op_eq (pv 0) pe_str (nomark _)) (pss_one (ps_ret (pe_op op_add (pv 1) (pv 2)))) (pss_nil))
      (pss_cons (ps_if (pt_cmpR op_eq (pv 0) pe_str (nomark _)) (pss_one (ps_ret (pe_op op_sub (pv 1) (pv 2)))) (pss_nil))
      (pss_cons (ps_if (pt_cmpR op_eq (pv 0) pe_str (nomark _)) (pss_one (ps_ret (pe_op op_mul (pv 1) (pv 2)))) (pss_nil))
      (pss_cons (ps_if (pt_cmpR op_eq (pv 2) pe_int (nomark _)) (pss_one (ps_ret pe_int)) (pss_nil))
      (pss_cons (ps_if (pt_cmpR op_eq (pv 0) pe_str (nomark _)) (pss_one (ps_ret (pe_op op_fdivA (pv 1) (pv 2)))) (pss_nil))
      (pss_one (ps_ret (pe_op op_modN (pv 1) (pv 2)))))))), ?_⟩
  unfold counted at q
  refine ⟨_, rfl, rfl, _, rfl, ite2 (fun c => ?_) (fun c => ?_)⟩
  · rw [if_pos (of_decide_eq_true c)] at q
    exact ⟨_, rfl, _, rfl, _, _, rfl, rfl, q⟩
  rw [if_neg (fun e => c (decide_eq_true e))] at q
  refine ⟨_, rfl, rfl, _, rfl, ite2 (fun c => ?_) (fun c => ?_)⟩
  · rw [if_pos (of_decide_eq_true c)] at q
    exact ⟨_, rfl, _, rfl, _, _, rfl, rfl, q⟩
  rw [if_neg (fun e => c (decide_eq_true e))] at q
  refine ⟨_, rfl, rfl, _, rfl, ite2 (fun c => ?_) (fun c => ?_)⟩
  · rw [if_pos (of_decide_eq_true c)] at q
    exact ⟨_, rfl, _, rfl, _, _, rfl, rfl, .inl (by unfold In64 at ha; omega), q⟩
  rw [if_neg (fun e => c (decide_eq_true e))] at q
  refine ⟨_, rfl, rfl, _, rfl, ite2 (fun c => ?_) (fun c => ?_)⟩
  · rw [if_pos (of_decide_eq_true c)] at q
    exact q
  rw [if_neg (fun e => c (decide_eq_true e))] at q
  have hb0 : b ≠ 0 := fun e => c (decide_eq_true (by rw [e]))
  refine ⟨_, rfl, rfl, _, rfl, ite2 (fun c => ?_) (fun c => ?_)⟩
  · rw [if_pos (of_decide_eq_true c)] at q
    exact ⟨_, rfl, _, rfl, _, _, rfl, rfl, ⟨hb0, log_ok hb⟩, q⟩
  rw [if_neg (fun e => c (decide_eq_true e))] at q
  exact ⟨_, rfl, _, rfl, _, _, rfl, rfl, hb0, q⟩
end
end Kx

namespace Kx
open PySem PySem.Spec PyProof.Rows L2
section
variable {P : Program} {w : World} {K : PySem.W.Frag} {mg : Str → Option Value} {base : Heap}
/-- the table of the ops' levels, as far as it is read -/
structure Levels (K : PySem.W.Frag) (w : World) (mg : Str → Option Value) : Prop where
  ex : ∃ d, mg "LEVELS" = some (.ref d) ∧ (∀ op ∈ cmps, KDct K w d op (.int 4)) ∧ ∀ op ∈ sums, ∃ l : Int, l ≠ 4 ∧ KDct K w d op (.int l)
  four : ∃ t, mg "COMPARISON" = some (.int 4 t)
def spTwo : Sp := fun vs H Q _ => ∃ (op : Str) (x y : V), vs = [.str op, x, y] ∧ (((op ∈ sums ∨ op ∈ cmps ∨ op = "and" ∨ op = "or") ∧ Fits true x ∧ Fits true y) ∨ (op ∈ cmps ∧ Fits false x ∧ Fits false y)) ∧ Q (.int (two op x y)) H
theorem sc_two : FnScope ["op", "one", "other"] ["op", "one", "other"] (defScope sTwo) := ⟨rfl, rfl, rfl, by decide +kernel, rfl, by decide +kernel, by decide +kernel⟩
theorem cmps_no : ("and" : Str) ∉ cmps ∧ ("or" : Str) ∉ cmps := by decide +kernel
theorem sums_no : ∀ op ∈ sums, op ∉ cmps := by decide +kernel
theorem ok_two {f : Addr} {fd : FuncData} (F : Fun K "worth_of_two" "worth_of_two" sTwo f fd) (m_int : mg "int" = none) (L : Levels K w mg) (G_is_so : Ready P w K mg base 1 "is_so" ["op", "one", "other"] spIsSo) (G_counted : Ready P w K mg base 1 "counted" ["op", "one", "other"] spCount)
    (G_wrapped : Ready P w K mg base 1 "wrapped" ["number"] spWrap) : FnOk P w K mg base CX0 2 f fd ["op", "one", "other"] spTwo := by
  refine F.ok sc_two (fun vs H Q E h => ?_) (fun cdv A outer s H vs Q E hr h => ?_)
  · obtain ⟨op, x, y, rfl, _⟩ := h
    rfl
  obtain ⟨op, x, y, rfl, hx, q⟩ := h
  obtain ⟨dl, m_LV, lc, ls⟩ := L.ex
  obtain ⟨t4, m_C⟩ := L.four
  refine ⟨_, pss_cons (ps_if (pt_cmpR op_eq (pv 0) pe_str (nomark _)) (pss_one (ps_ret (pe_callTy call_int1 (by rfl) m_int boot_int (pa_cons (pe_and (pe_cmpR op_ne (pv 1) pe_int (nomark _)) (pe_one (pe_cmpR op_ne (pv 2) pe_int (nomark _)))) pa_nil)))) (pss_nil))
      (pss_cons (ps_if (pt_cmpR op_eq (pv 0) pe_str (nomark _)) (pss_one (ps_ret (pe_callTy call_int1 (by rfl) m_int boot_int (pa_cons (pe_or (pe_cmpR op_ne (pv 1) pe_int (nomark _)) (pe_one (pe_cmpR op_ne (pv 2) pe_int (nomark _)))) pa_nil)))) (pss_nil))
      (pss_cons (ps_if (pt_cmpR op_eq (pe_ix ix_kdict (pe_glob (v := .ref dl) rfl m_LV rfl) (pv 0) (fun _ _ => rfl)) (pe_glob (v := .int 4) rfl m_C ⟨_, rfl⟩) (nomark _)) (pss_one (ps_ret (pe_callTy call_int1 (by rfl) m_int boot_int (pa_cons (pe_fn (G_is_so) (hr.mono (by decide)) (pa_cons (pv 0) (pa_cons (pv 1) (pa_cons (pv 2) pa_nil)))) pa_nil)))) (pss_nil))
      (pss_one (ps_ret (pe_fn (G_wrapped) (hr.mono (by decide)) (pa_cons (pe_fn (G_counted) (hr.mono (by decide)) (pa_cons (pv 0) (pa_cons (pv 1) (pa_cons (pv 2) pa_nil)))) pa_nil)))))), ?_⟩
  unfold two at q
  refine ⟨_, rfl, rfl, _, rfl, ite2 (fun c => ?_) (fun c => ?_)⟩
  · have c' := of_decide_eq_true c
    rw [if_pos c'] at q
    have e := str_eq c'
    have hi : Fits true x ∧ Fits true y := by
      rcases hx with h | h
      · exact h.2
      · rw [e] at h
        exact absurd h.1 cmps_no.1
    obtain ⟨⟨i, rfl, _⟩, ⟨j, rfl, _⟩⟩ := hi
    refine ⟨_, rfl, rfl, _, rfl, ite2 (fun d => ?_) (fun d => ?_)⟩
    · refine ⟨_, rfl, rfl, .inr ⟨_, rfl, ?_⟩⟩
      rw [show (!decide (V.int i = .int 0)) = true from d, Bool.true_and] at q
      exact q
    · refine .inr ⟨_, rfl, ?_⟩
      rw [show (!decide (V.int i = .int 0)) = false from Bool.eq_false_iff.mpr d, Bool.false_and] at q
      exact q
  rw [if_neg (fun e => c (decide_eq_true e))] at q
  have n1 : op ≠ "and" := fun e => c (decide_eq_true (by rw [e]))
  refine ⟨_, rfl, rfl, _, rfl, ite2 (fun c => ?_) (fun c => ?_)⟩
  · have c' := of_decide_eq_true c
    rw [if_pos c'] at q
    have e := str_eq c'
    have hi : Fits true x ∧ Fits true y := by
      rcases hx with h | h
      · exact h.2
      · rw [e] at h
        exact absurd h.1 cmps_no.2
    obtain ⟨⟨i, rfl, _⟩, ⟨j, rfl, _⟩⟩ := hi
    refine ⟨_, rfl, rfl, _, rfl, ite2 (fun d => ?_) (fun d => ?_)⟩
    · refine .inr ⟨_, rfl, ?_⟩
      rw [show (!decide (V.int i = .int 0)) = true from d, Bool.true_or] at q
      exact q
    · refine ⟨_, rfl, rfl, .inr ⟨_, rfl, ?_⟩⟩
      rw [show (!decide (V.int i = .int 0)) = false from Bool.eq_false_iff.mpr d, Bool.false_or] at q
      exact q
  rw [if_neg (fun e => c (decide_eq_true e))] at q
  have n2 : op ≠ "or" := fun e => c (decide_eq_true (by rw [e]))
  by_cases hc : op ∈ cmps
  · rw [if_pos hc] at q
    refine ⟨_, rfl, dl, op, _, rfl, rfl, lc op hc, rfl, _, rfl, iteT ?_⟩
    refine ⟨_, rfl, _, rfl, _, rfl, op, x, y, rfl, ?_, .inr ⟨_, rfl, q⟩⟩
    rcases hx with ⟨_, ⟨i, rfl, _⟩, ⟨j, rfl, _⟩⟩ | ⟨_, ⟨i, rfl, _⟩, ⟨j, rfl, _⟩⟩
    · exact .inl ⟨_, _, rfl, rfl⟩
    · exact .inr ⟨_, _, rfl, rfl⟩
  · rw [if_neg hc] at q
    have hs : op ∈ sums := by
      rcases hx with ⟨h | h | h | h, _⟩ | ⟨h, _⟩
      · exact h
      · exact absurd h hc
      · exact absurd h n1
      · exact absurd h n2
      · exact absurd h hc
    have hi : Fits true x ∧ Fits true y := by
      rcases hx with h | h
      · exact h.2
      · exact absurd h.1 hc
    obtain ⟨⟨i, rfl, i0, i1⟩, ⟨j, rfl, j0, j1⟩⟩ := hi
    obtain ⟨l, hl, kd⟩ := ls op hs
    have hd : decide (V.int l = .int 4) = false := decide_eq_false (fun e => hl (by cases e; rfl))
    refine ⟨_, rfl, dl, op, _, rfl, rfl, kd, rfl, _, rfl, ?_⟩
    rw [hd]
    refine iteF ?_
    exact ⟨_, rfl, _, rfl, _, rfl, op, i, j, rfl, ⟨i0, i1⟩, ⟨j0, j1⟩, _, rfl, q⟩
end
end Kx

namespace Kx
open PySem PySem.Spec PyProof.Rows L2
abbrev sInt : Stmt := topS 85
/-! ### the columns of a table, in a list -/
abbrev Col : Type := Addr × Str × Bool
def kW (b : Bool) : Str := if b then "int" else "text"
structure ColsAt (H : Hp) (cs : Addr) (cl : List Col) : Prop where
  all : H cs = some (.lst (cl.map fun c => .ref c.1))
  each : ∀ c ∈ cl, H c.1 = some (.tup [.str c.2.1, .str (kW c.2.2)])
  few : cl.length ≤ 1000
  ok : ∀ c ∈ cl, PyData.canLay0 (.str c.2.1) = true
theorem ColsAt.keep {H H' : Hp} {cs : Addr} {cl : List Col} (C : ColsAt H cs cl) (h : Same H H') : ColsAt H' cs cl := ⟨h _ _ C.all, fun c hc => h _ _ (C.each c hc), C.few, C.ok⟩
theorem ColsAt.ne {H : Hp} {cs d s : Addr} {cl : List Col} {ns : List Int} {tl : List V} {n : Int} (C : ColsAt H cs cl) (D : DrawAt H d s ns tl n) : cs ≠ d := fun e => by
  have a := C.all
  rw [e, D.at_d] at a
  match cl, a with
  | [], a => cases a
  | [_], a => cases a
  | _ :: _ :: _, a => cases a
theorem ColsAt.but {H H' : Hp} {cs d s : Addr} {cl : List Col} {ns : List Int} {tl : List V} {n : Int} (C : ColsAt H cs cl) (D : DrawAt H d s ns tl n) (h : But d H H') : ColsAt H' cs cl :=
  ⟨h _ _ (C.ne D) C.all, fun c hc => h.tup D.at_d _ _ (C.each c hc), C.few, C.ok⟩
def strsOf (b : Bool) (cl : List Col) : List Str := (cl.filter fun c => c.2.2 == b).map fun c => c.2.1
theorem strs_le (b : Bool) (cl : List Col) : (strsOf b cl).length ≤ cl.length := by
  unfold strsOf
  rw [List.length_map]
  exact List.length_filter_le _ _
theorem take_at {cl : List Col} {i : Nat} {c : Col} (h : cl[i]? = some c) : cl.take (i + 1) = cl.take i ++ [c] := by
  rw [List.take_add_one, h]
  rfl
theorem strs_yes {b : Bool} {cl : List Col} {i : Nat} {a : Addr} {x : Str} (h : cl[i]? = some (a, x, b)) : strsOf b (cl.take (i + 1)) = strsOf b (cl.take i) ++ [x] := by
  unfold strsOf
  rw [take_at h, List.filter_append, List.map_append]
  simp
theorem strs_no {b : Bool} {cl : List Col} {i : Nat} {a : Addr} {x : Str} {k : Bool} (h : cl[i]? = some (a, x, k)) (hk : (k == b) = false) : strsOf b (cl.take (i + 1)) = strsOf b (cl.take i) := by
  unfold strsOf
  rw [take_at h, List.filter_append, List.map_append]
  simp [hk]
theorem mem_strsOf {b : Bool} {cl : List Col} {v : V} {kf : Str → Option Bool} (hk : ∀ c ∈ cl, kf c.2.1 = some c.2.2) (h : v ∈ (strsOf b cl).map V.str) : ∃ x, v = .str x ∧ kf x = some b := by
  obtain ⟨x, hx, rfl⟩ := List.mem_map.mp h
  obtain ⟨c, hc, rfl⟩ := List.mem_map.mp hx
  obtain ⟨hc, e⟩ := List.mem_filter.mp hc
  refine ⟨_, rfl, ?_⟩
  rw [hk c hc]
  exact congrArg some (eq_of_beq e)
theorem strsAll_can : ∀ l : List Str, (∀ x ∈ l, PyData.canLay0 (.str x) = true) → PyData.canLayAll0 (l.map PyData.str) = true
  | [], _ => rfl
  | x :: l, h => by
    show (PyData.canLay0 (.str x) && PyData.canLayAll0 (l.map PyData.str)) = true
    rw [strsAll_can l fun y hy => h y (List.mem_cons_of_mem _ hy), h x List.mem_cons_self]
    rfl
theorem strsAll_depth : ∀ l : List Str, PyData.depthAll (l.map PyData.str) = 0
  | [] => rfl
  | x :: l => by
    show max (PyData.depth (.str x)) (PyData.depthAll (l.map PyData.str)) = 0
    rw [strsAll_depth l]
    rfl
theorem strs_shaped {l : List Str} (h : ∀ x ∈ l, PyData.canLay0 (.str x) = true) : SeqAt.shaped (.list (l.map PyData.str)) = true := by
  refine Bool.and_eq_true_iff.mpr ⟨strsAll_can l h, decide_eq_true ?_⟩
  show PyData.depthAll (l.map PyData.str) + 1 ≤ 64
  rw [strsAll_depth l]
  decide
theorem ColsAt.shaped {H : Hp} {cs : Addr} {cl : List Col} (C : ColsAt H cs cl) (b : Bool) : SeqAt.shaped (.list ((strsOf b cl).map PyData.str)) = true := strs_shaped fun x hx => by
  obtain ⟨c, hc, rfl⟩ := List.mem_map.mp hx
  exact C.ok c (List.mem_filter.mp hc).1
theorem dpa_strs {K : PySem.W.Frag} {H : Hp} : ∀ l : List Str, DpAll K H (l.map V.str) (l.map PyData.str)
  | [] => .nil
  | x :: l => .cons (.str x) (dpa_strs l)
end Kx

namespace Kx
open PySem PySem.Spec PyProof.Rows L2
section
variable {P : Program} {w : World} {K : PySem.W.Frag} {mg : Str → Option Value} {base : Heap}
theorem strs_ne {l : List Str} (h : (!PyData.eqv (.list (l.map PyData.str)) (.list [])) = true) : l.map V.str ≠ [] := by
  cases l with
  | nil => cases h
  | cons x l => intro e; cases e
def spInt (m : Nat) : Sp := fun vs H Q _ => ∃ (d s cols : Addr) (cl : List Col) (kf : Str → Option Bool) (ns : List Int) (tl : List V) (n deep : Int), vs = [.ref d, .ref cols, .int deep] ∧ DrawAt H d s ns tl n ∧ ColsAt H cols cl ∧ (∀ c ∈ cl, kf c.2.1 = some c.2.2) ∧ 0 ≤ deep ∧ deep + 1 = (m : Int) ∧
  ∀ (v : V) (e : Ex) (n' : Int) (H' : Hp), Kind kf e true → e.dep ≤ m + 1 → ExAt H' v e → But d H H' → DrawAt H' d s ns tl n' → Q v H'
abbrev N_law_int : List Str := ["draw", "columns", "deep", "ints", "name", "kind", "texts", "one"]
theorem sc_int : FnScope N_law_int ["draw", "columns", "deep"] (defScope sInt) := ⟨rfl, rfl, rfl, by decide +kernel, rfl, by decide +kernel, by decide +kernel⟩
/-- where the def stands behind its first two lines -/
structure IntSt (H0 H : Hp) (d s D1 D2 : Addr) (l1 l2 : List V) (ns : List Int) (tl : List V) (n : Int) : Prop where
  dr : DrawAt H d s ns tl n
  b : But d H0 H
  i1 : H D1 = some (.lst l1)
  i2 : H D2 = some (.lst l2)
  n1 : D1 ≠ d
  n2 : D2 ≠ d
theorem IntSt.step {H0 H H' : Hp} {d s D1 D2 : Addr} {l1 l2 tl : List V} {ns : List Int} {n n' : Int} (S : IntSt H0 H d s D1 D2 l1 l2 ns tl n) (b : But d H H') (D : DrawAt H' d s ns tl n') : IntSt H0 H' d s D1 D2 l1 l2 ns tl n' :=
  ⟨D, S.b.trans b, b _ _ S.n1 S.i1, b _ _ S.n2 S.i2, S.n1, S.n2⟩
theorem IntSt.new {H0 H : Hp} {d s D1 D2 p : Addr} {l1 l2 tl : List V} {ns : List Int} {n : Int} {o : HO} (S : IntSt H0 H d s D1 D2 l1 l2 ns tl n) (h : H p = none) : IntSt H0 (upd H p o) d s D1 D2 l1 l2 ns tl n :=
  S.step (same_but (same_upd h)) (S.dr.keep (same_upd h))
theorem mem_strs {v : V} {l : List Str} (h : v ∈ l.map V.str) : ∃ z, z ∈ l ∧ v = .str z := by
  obtain ⟨z, hz, e⟩ := List.mem_map.mp h
  exact ⟨z, hz, e.symm⟩
def ops13 : List Str := ["+", "-", "*", "/", "mod", "=", "!=", "<", "<=", ">", ">=", "and", "or"]
theorem ops13_in : ∀ op ∈ ops13, op ∈ sums ∨ op ∈ cmps ∨ op = "and" ∨ op = "or" := by decide +kernel
set_option maxHeartbeats 16000000 in
theorem ok_int {f : Addr} {fd : FuncData} {m : Nat} (F : Fun K "_law_int" "_law_int" sInt f fd) (m_len : mg "len" = none) (G_law_next : Ready P w K mg base 3 "_law_next" ["draw", "bound"] spNext) (G_law_pick : Ready P w K mg base 4 "_law_pick" ["draw", "things"] (spPick K))
    (G_law_int : Ready P w K mg base (m + 4) "_law_int" ["draw", "columns", "deep"] (spInt m)) : FnOk P w K mg base CX0 (m + 5) f fd ["draw", "columns", "deep"] (spInt (m + 1)) := by
  refine F.ok sc_int (fun vs H Q E h => ?_) (fun cdv A outer s0 H vs Q E hr h => ?_)
  · obtain ⟨d, s, cols, cl, kf, ns, tl, n, deep, rfl, _⟩ := h
    rfl
  obtain ⟨d, s, cols, cl, kf, ns, tl, n, deep, rfl, D, C, hk, hd0, hdm, q⟩ := h
  have nd := sc_int.nd
  have hu64 : _ + 64 < cLine := hr.units
  have hr4 : Room 4 _ := hr.mono (by omega)
  have hr3 : Room 3 _ := hr.mono (by omega)
  refine ⟨_, pss_cons (ps_setLc (i := 3) (own := [("name", 4), ("kind", 5)]) (g := (gTup K 2 (gCons (gName 4) (gCons (gName 5) gNil)))) (tt := _) rfl nd rfl rfl (sw_true rfl rfl rfl (by decide +kernel)) (pi_list (pv 1)) (blkOk_by (N := N_law_int) (sc := defScope sInt) (by decide +kernel)) (fun _ _ _ _ _ => pg_tup rfl (pgs_cons (pg_name (i := 4) nd rfl (.inl rfl)) (pgs_cons (pg_name (i := 5) nd rfl (.inl rfl)) pgs_nil))) (fun _ _ _ _ _ => pts_one (pt_cmpR op_eq (pv 5) pe_str (nomark _))) (fun _ _ _ _ _ => (pv 4)))
      (pss_cons (ps_setLc (i := 6) (own := [("name", 4), ("kind", 5)]) (g := (gTup K 2 (gCons (gName 4) (gCons (gName 5) gNil)))) (tt := _) rfl nd rfl rfl (sw_true rfl rfl rfl (by decide +kernel)) (pi_list (pv 1)) (blkOk_by (N := N_law_int) (sc := defScope sInt) (by decide +kernel)) (fun _ _ _ _ _ => pg_tup rfl (pgs_cons (pg_name (i := 4) nd rfl (.inl rfl)) (pgs_cons (pg_name (i := 5) nd rfl (.inl rfl)) pgs_nil))) (fun _ _ _ _ _ => pts_one (pt_cmpR op_eq (pv 5) pe_str (nomark _))) (fun _ _ _ _ _ => (pv 4)))
      (pss_cons (ps_set (i := 5) nd rfl (.inl rfl) (pe_fn (G_law_next) hr3 (pa_cons (pv 0) (pa_cons pe_int pa_nil))))
      (pss_cons (ps_if (PW.pt (pw_or (pt_cmpR op_eq (pv 2) pe_int (nomark _)) (pw_or1 (pt_cmpR op_lt (pv 5) pe_int (nomark _))))) (pss_one (ps_ret (pe_ifExp (PW.pt (pw_and (pt_cmpR (op_neD hu64) (pv 3) (pe_lst pa_nil) (nomark _)) (pw_and1 (pt_cmpR op_gt (pe_op op_mod (pv 5) pe_int) pe_int (nomark _))))) (pe_tup (pa_cons pe_str (pa_cons (pe_fn (G_law_pick) hr4 (pa_cons (pv 0) (pa_cons (pv 3) pa_nil))) pa_nil))) (pe_tup (pa_cons pe_str (pa_cons (pe_fn (G_law_next) hr3 (pa_cons (pv 0) (pa_cons pe_int pa_nil))) pa_nil)))))) (pss_nil))
      (pss_cons (ps_if (PW.pt (pw_and (pt_cmpR op_eq (pv 5) pe_int (nomark _)) (pw_and1 (pt_cmpR (op_neD hu64) (pv 6) (pe_lst pa_nil) (nomark _))))) (pss_one (ps_ret (pe_tup (pa_cons pe_str (pa_cons (pe_fn (G_law_pick) hr4 (pa_cons (pv 0) (pa_cons (pe_tup (pa_cons pe_str (pa_cons pe_str (pa_cons pe_str (pa_cons pe_str pa_nil))))) pa_nil))) (pa_cons (pe_tup (pa_cons pe_str (pa_cons (pe_fn (G_law_pick) hr4 (pa_cons (pv 0) (pa_cons (pv 6) pa_nil))) pa_nil))) (pa_cons (pe_tup (pa_cons pe_str (pa_cons (pe_fn (G_law_pick) hr4 (pa_cons (pv 0) (pa_cons (pe_tup (pa_cons pe_str (pa_cons pe_str (pa_cons pe_str (pa_cons pe_str pa_nil))))) pa_nil))) pa_nil))) pa_nil))))))) (pss_nil))
      (pss_cons (ps_if (PW.pt (pw_and (pt_cmpR op_eq (pv 5) pe_int (nomark _)) (pw_and1 (pt_cmpR (op_neD hu64) (pv 6) (pe_lst pa_nil) (nomark _))))) (pss_one (ps_ret (pe_tup (pa_cons pe_str (pa_cons (pe_tup (pa_cons pe_str (pa_cons (pe_fn (G_law_pick) hr4 (pa_cons (pv 0) (pa_cons (pv 6) pa_nil))) pa_nil))) pa_nil))))) (pss_nil))
      (pss_cons (ps_set (i := 7) nd rfl (.inl rfl) (pe_fn (G_law_int) hr (pa_cons (pv 0) (pa_cons (pv 1) (pa_cons (pe_op op_sub (pv 2) pe_int) pa_nil)))))
      (pss_cons (ps_if (pt_cmpR op_eq (pv 5) pe_int (nomark _)) (pss_one (ps_ret (pe_tup (pa_cons (pe_fn (G_law_pick) hr4 (pa_cons (pv 0) (pa_cons (pe_tup (pa_cons pe_str (pa_cons pe_str pa_nil))) pa_nil))) (pa_cons (pv 7) pa_nil))))) (pss_nil))
      (pss_one (ps_ret (pe_tup (pa_cons pe_str (pa_cons (pe_fn (G_law_pick) hr4 (pa_cons (pv 0) (pa_cons (pe_tup (pa_cons pe_str (pa_cons pe_str (pa_cons pe_str (pa_cons pe_str (pa_cons pe_str (pa_cons pe_str (pa_cons pe_str (pa_cons pe_str (pa_cons pe_str (pa_cons pe_str (pa_cons pe_str (pa_cons pe_str (pa_cons pe_str pa_nil)))))))))))))) pa_nil))) (pa_cons (pv 7) (pa_cons (pe_fn (G_law_int) hr (pa_cons (pv 0) (pa_cons (pv 1) (pa_cons (pe_op op_sub (pv 2) pe_int) pa_nil)))) pa_nil)))))))))))))), ?_⟩
  have small : ∀ {acc : List V}, acc.length ≤ 2 → acc.length < sizeLine := fun h => Nat.lt_of_le_of_lt h (by decide)
  -- ints
  have cl3 : cl.length < sizeLine := Nat.lt_of_le_of_lt C.few (by decide)
  refine ⟨_, rfl, cols, rfl, ⟨_, SqL.of C.all⟩, fun D1 hD1 => lc_list (xs := cl.map fun c => .ref c.1) (fun i H' => Same H H' ∧ H' D1 = some (.lst ((strsOf true (cl.take i)).map V.str))) ⟨same_upd hD1, upd_same⟩ (fun i H' _ h => SqL.of (h.1 _ _ C.all)) ?_ ?_⟩
  · rintro i x H' hx ⟨sm, e⟩
    have nD : ∀ {o}, Same H (upd H' D1 o) := fun b o' e' => by
      rw [upd_ne (ne_of_none e' hD1)]
      exact sm _ _ e'
    rw [List.getElem?_map] at hx
    obtain ⟨⟨a, x, k⟩, hc, rfl⟩ := Option.map_eq_some_iff.mp hx
    have ca := sm _ _ (C.each _ (List.mem_of_getElem? hc))
    have le : ((strsOf true (cl.take i)).map V.str).length < sizeLine := by
      rw [List.length_map]
      have h1 := strs_le true (cl.take i)
      have h2 := List.length_take_le i cl
      have h3 : (cl.take i).length ≤ cl.length := by rw [List.length_take]; omega
      omega
    cases k with
    | true =>
      refine ⟨a, _, rfl, SqT.of ca, rfl, _, _, rfl, _, _, rfl, rfl, rfl, _, rfl, rfl, _, rfl, iteT ?_⟩
      refine ⟨_, rfl, _, e, le, nD, ?_⟩
      rw [strs_yes hc, List.map_append]
      exact upd_same
    | false =>
      refine ⟨a, _, rfl, SqT.of ca, rfl, _, _, rfl, _, _, rfl, rfl, rfl, _, rfl, rfl, _, rfl, iteF ?_⟩
      rw [strs_no hc rfl]
      exact ⟨sm, e⟩
  rintro H1 ⟨s1, e1⟩
  have e1' : H1 D1 = some (.lst ((strsOf true cl).map V.str)) := by
    rw [List.length_map, List.take_length] at e1
    exact e1
  -- texts
  refine ⟨_, rfl, cols, rfl, ⟨_, SqL.of (s1 _ _ C.all)⟩, fun D2 hD2 => lc_list (xs := cl.map fun c => .ref c.1) (fun i H' => Same H1 H' ∧ H' D2 = some (.lst ((strsOf false (cl.take i)).map V.str))) ⟨same_upd hD2, upd_same⟩ (fun i H' _ h => SqL.of (h.1 _ _ (s1 _ _ C.all))) ?_ ?_⟩
  · rintro i x H' hx ⟨sm, e⟩
    have nD : ∀ {o}, Same H1 (upd H' D2 o) := fun b o' e' => by
      rw [upd_ne (ne_of_none e' hD2)]
      exact sm _ _ e'
    rw [List.getElem?_map] at hx
    obtain ⟨⟨a, x, k⟩, hc, rfl⟩ := Option.map_eq_some_iff.mp hx
    have ca := sm _ _ (s1 _ _ (C.each _ (List.mem_of_getElem? hc)))
    have le : ((strsOf false (cl.take i)).map V.str).length < sizeLine := by
      rw [List.length_map]
      have h1 := strs_le false (cl.take i)
      have h2 := List.length_take_le i cl
      have h3 : (cl.take i).length ≤ cl.length := by rw [List.length_take]; omega
      omega
    cases k with
    | true =>
      refine ⟨a, _, rfl, SqT.of ca, rfl, _, _, rfl, _, _, rfl, rfl, rfl, _, rfl, rfl, _, rfl, iteF ?_⟩
      rw [strs_no hc rfl]
      exact ⟨sm, e⟩
    | false =>
      refine ⟨a, _, rfl, SqT.of ca, rfl, _, _, rfl, _, _, rfl, rfl, rfl, _, rfl, rfl, _, rfl, iteT ?_⟩
      refine ⟨_, rfl, _, e, le, nD, ?_⟩
      rw [strs_yes hc, List.map_append]
      exact upd_same
  rintro H2 ⟨s2, e2⟩
  have e2' : H2 D2 = some (.lst ((strsOf false cl).map V.str)) := by
    rw [List.length_map, List.take_length] at e2
    exact e2
  have s12 := s1.trans s2
  have S2 : IntSt H H2 d s D1 D2 ((strsOf true cl).map V.str) ((strsOf false cl).map V.str) ns tl n := ⟨D.keep s12, same_but s12, s2 _ _ e1', e2', (ne_of_none D.at_d hD1).symm, (ne_of_none (s1 _ _ D.at_d) hD2).symm⟩
  have q' : ∀ (v : V) (e : Ex) (n' : Int) (H' : Hp), Kind kf e true → e.dep ≤ m + 2 → ExAt H' v e → IntSt H H' d s D1 D2 ((strsOf true cl).map V.str) ((strsOf false cl).map V.str) ns tl n' → Q v H' := fun v e n' H' h1 h2 h3 h4 => q v e n' H' h1 h2 h3 h4.b h4.dr
  have Cb : ∀ {H' n'}, IntSt H H' d s D1 D2 ((strsOf true cl).map V.str) ((strsOf false cl).map V.str) ns tl n' → ColsAt H' cols cl := fun S => C.but D S.b
  clear q s12 s2 s1
  -- kind
  refine ⟨_, rfl, d, s, ns, _, _, _, rfl, S2.dr, (by show (0 : Int) < 10; decide), fun kd H3 _ _ b3 D3 => ?_⟩
  have S3 := S2.step b3 D3
  clear S2
  have ne2 : ∀ {H' p n'}, IntSt H H' d s D1 D2 ((strsOf true cl).map V.str) ((strsOf false cl).map V.str) ns tl n' → H' p = none → p ≠ d := fun S h => (ne_of_none S.dr.at_d h).symm
  have z2 : 2 ≤ sizeLine := by decide
  have z4 : 4 ≤ sizeLine := by decide
  have tp : ∀ {H' n'}, IntSt H H' d s D1 D2 ((strsOf true cl).map V.str) ((strsOf false cl).map V.str) ns tl n' → ∀ {H''}, But d H' H'' → ∀ (a : Addr) (xs : List V), H' a = some (.tup xs) → H'' a = some (.tup xs) := fun {_ _} S {_} b => b.tup S.dr.at_d
  have st1 := C.shaped true
  have st2 := C.shaped false
  have sh0 : SeqAt.shaped (.list []) = true := by decide +kernel
  refine ⟨_, rfl, rfl, _, rfl, ite2 (fun c => iteT ?_) (fun c => ⟨_, rfl, _, _, rfl, rfl, _, rfl, ite2 (fun cc => ?_) (fun cc => ?_)⟩)⟩
  rotate_left 2
  · -- deeper
    have hd1 : deep ≠ 0 := fun e => c (decide_eq_true (by rw [e]))
    refine ⟨_, rfl, rfl, _, rfl, ite2 (fun c => ?_) (fun c => iteF ?_)⟩
    · -- two texts
      refine ⟨_, rfl, Nat.zero_le _, fun p hp => ?_⟩
      have S4 := S3.new (o := .lst []) hp
      refine ⟨.list ((strsOf false cl).map PyData.str), .list [], .lst (SqL.of S4.i2) (dpa_strs _), .lst (SqL.of upd_same) .nil, st2, sh0, _, rfl, ite2 (fun ce => ?_) (fun ce => ?_)⟩
      rotate_left
      · have S3 := S4
        refine ⟨_, rfl, rfl, _, rfl, ite2 (fun c4 => ?_) (fun c4 => iteF ?_)⟩
        · have x1 := of_decide_eq_true c
          have x2 := of_decide_eq_true c4
          rw [x1] at x2
          cases x2
        refine ⟨_, rfl, _, rfl, _, rfl, _, _, rfl, rfl, d, s, cols, cl, kf, ns, _, _, deep - 1, rfl, S3.dr, Cb S3, hk, by omega, by omega, fun v1 e1 n1 H4 k1 dp1 x1 b4 D4 => ?_⟩
        have S4 := S3.step b4 D4
        refine ⟨_, rfl, rfl, _, rfl, ite2 (fun c => ?_) (fun c => ?_)⟩
        · refine ⟨_, rfl, z2, fun p1 hp1 => ?_⟩
          have S5 := S4.new (o := .tup [.str "not", .str "minus"]) hp1
          refine ⟨d, s, p1, ns, _, _, [.str "not", .str "minus"], rfl, S5.dr, ne2 S4 hp1, .inr (SqT.of upd_same), (by intro z; cases z), fun v2 H6 hv2 b6 D6 => ⟨_, rfl, z2, fun t5 ht5 => ?_⟩⟩
          have S6 := S5.step b6 D6
          have S7 := S6.new (o := .tup [v2, v1]) ht5
          have x2 : ExAt (upd H6 t5 (.tup [v2, v1])) v1 e1 := ((x1.keep fun a xs e => same_upd hp1 _ _ e).keep (tp S5 b6)).keep fun a xs e => same_upd ht5 _ _ e
          obtain ⟨op, hop, rfl⟩ := mem_strs (l := ["not", "minus"]) hv2
          simp only [List.mem_cons, List.not_mem_nil, or_false] at hop
          rcases hop with rfl | rfl
          · exact q' (.ref t5) (.nt e1) _ _ (.nt k1) (by show e1.dep + 1 ≤ m + 2; omega) ⟨t5, _, rfl, upd_same, x2⟩ S7
          · exact q' (.ref t5) (.mn e1) _ _ (.mn k1) (by show e1.dep + 1 ≤ m + 2; omega) ⟨t5, _, rfl, upd_same, x2⟩ S7
        · refine ⟨_, rfl, (by show 13 ≤ sizeLine; decide), fun p1 hp1 => ?_⟩
          have S5 := S4.new (o := .tup (ops13.map V.str)) hp1
          refine ⟨d, s, p1, ns, _, _, ops13.map V.str, rfl, S5.dr, ne2 S4 hp1, .inr (SqT.of upd_same), (by intro z; cases z), fun v2 H6 hv2 b6 D6 => ?_⟩
          have S6 := S5.step b6 D6
          refine ⟨_, rfl, _, rfl, _, rfl, _, rfl, _, _, rfl, rfl, d, s, cols, cl, kf, ns, _, _, deep - 1, rfl, S6.dr, Cb S6, hk, by omega, by omega, fun v3 e3 n3 H7 k3 dp3 x3 b7 D7 => ⟨z4, fun t5 ht5 => ?_⟩⟩
          have S7 := S6.step b7 D7
          have S8 := S7.new (o := .tup [.str "two", v2, v1, v3]) ht5
          have x2 : ExAt (upd H7 t5 (.tup [.str "two", v2, v1, v3])) v1 e1 := (((x1.keep fun a xs e => same_upd hp1 _ _ e).keep (tp S5 b6)).keep (tp S6 b7)).keep fun a xs e => same_upd ht5 _ _ e
          have x4 : ExAt (upd H7 t5 (.tup [.str "two", v2, v1, v3])) v3 e3 := x3.keep fun a xs e => same_upd ht5 _ _ e
          obtain ⟨op, hop, rfl⟩ := mem_strs hv2
          exact q' (.ref t5) (.two op e1 e3) _ _ (.arith (ops13_in op hop) k1 k3) (by show max e1.dep e3.dep + 1 ≤ m + 2; omega) ⟨t5, _, _, rfl, upd_same, x2, x4⟩ S8
      refine ⟨_, rfl, z4, fun p1 hp1 => ?_⟩
      have S5 := S4.new (o := .tup [.str "=", .str "!=", .str "<", .str ">="]) hp1
      refine ⟨d, s, p1, ns, _, _, [.str "=", .str "!=", .str "<", .str ">="], rfl, S5.dr, ne2 S4 hp1, .inr (SqT.of upd_same), (by intro z; cases z), fun v1 H6 hv1 b6 D6 => ?_⟩
      have S6 := S5.step b6 D6
      refine ⟨_, rfl, _, rfl, d, s, D2, ns, _, _, (strsOf false cl).map V.str, rfl, S6.dr, S6.n2, .inl (SqL.of S6.i2), strs_ne ce, fun v2 H7 hv2 b7 D7 => ⟨z2, fun t2 ht2 => ?_⟩⟩
      have S7 := S6.step b7 D7
      have S8 := S7.new (o := .tup [.str "column", v2]) ht2
      refine ⟨_, rfl, z4, fun p3 hp3 => ?_⟩
      have S9 := S8.new (o := .tup [.str "a", .str "b", .str "bb", .str ""]) hp3
      refine ⟨d, s, p3, ns, _, _, [.str "a", .str "b", .str "bb", .str ""], rfl, S9.dr, ne2 S8 hp3, .inr (SqT.of upd_same), (by intro z; cases z), fun v3 H10 hv3 b10 D10 => ⟨z2, fun t4 ht4 => ⟨z4, fun t5 ht5 => ?_⟩⟩⟩
      have S10 := S9.step b10 D10
      have S11 := S10.new (o := .tup [.str "quoted", v3]) ht4
      have S12 := S11.new (o := .tup [.str "two", v1, .ref t2, .ref t4]) ht5
      obtain ⟨op, hop, rfl⟩ := mem_strs (l := ["=", "!=", "<", ">="]) hv1
      obtain ⟨x, rfl, kt⟩ := mem_strsOf hk hv2
      obtain ⟨z, hz, rfl⟩ := mem_strs (l := ["a", "b", "bb", ""]) hv3
      have hz2 : z.length ≤ 100 := by
        have : ∀ z ∈ (["a", "b", "bb", ""] : List Str), z.length ≤ 100 := by decide +kernel
        exact this z hz
      have a1 : (upd (upd H10 t4 (.tup [.str "quoted", .str z])) t5 (.tup [.str "two", .str op, .ref t2, .ref t4])) t2 = some (.tup [.str "column", .str x]) := by
        have e0 := b10.tup S9.dr.at_d t2 [.str "column", .str x] (by rw [upd_ne (ne_of_none upd_same hp3)]; exact upd_same)
        exact same_upd ht5 _ _ (same_upd ht4 _ _ e0)
      refine q' (.ref t5) (.two op (.col x) (.quo z)) _ _ (.text hop (.col kt) (.quo hz2)) (by show 2 ≤ m + 2; omega) ?_ S12
      exact ⟨t5, _, _, rfl, upd_same, ⟨t2, rfl, a1⟩, ⟨t4, rfl, same_upd ht5 _ _ upd_same⟩⟩
    refine ⟨_, rfl, rfl, _, rfl, ite2 (fun c => ?_) (fun c => iteF ?_)⟩
    · -- a length
      refine ⟨_, rfl, Nat.zero_le _, fun p hp => ?_⟩
      have S4 := S3.new (o := .lst []) hp
      refine ⟨.list ((strsOf false cl).map PyData.str), .list [], .lst (SqL.of S4.i2) (dpa_strs _), .lst (SqL.of upd_same) .nil, st2, sh0, _, rfl, ite2 (fun ce => ?_) (fun ce => ?_)⟩
      rotate_left
      · have S3 := S4
        refine ⟨_, rfl, _, rfl, _, rfl, _, _, rfl, rfl, d, s, cols, cl, kf, ns, _, _, deep - 1, rfl, S3.dr, Cb S3, hk, by omega, by omega, fun v1 e1 n1 H4 k1 dp1 x1 b4 D4 => ?_⟩
        have S4 := S3.step b4 D4
        refine ⟨_, rfl, rfl, _, rfl, ite2 (fun c => ?_) (fun c => ?_)⟩
        · refine ⟨_, rfl, z2, fun p1 hp1 => ?_⟩
          have S5 := S4.new (o := .tup [.str "not", .str "minus"]) hp1
          refine ⟨d, s, p1, ns, _, _, [.str "not", .str "minus"], rfl, S5.dr, ne2 S4 hp1, .inr (SqT.of upd_same), (by intro z; cases z), fun v2 H6 hv2 b6 D6 => ⟨_, rfl, z2, fun t5 ht5 => ?_⟩⟩
          have S6 := S5.step b6 D6
          have S7 := S6.new (o := .tup [v2, v1]) ht5
          have x2 : ExAt (upd H6 t5 (.tup [v2, v1])) v1 e1 := ((x1.keep fun a xs e => same_upd hp1 _ _ e).keep (tp S5 b6)).keep fun a xs e => same_upd ht5 _ _ e
          obtain ⟨op, hop, rfl⟩ := mem_strs (l := ["not", "minus"]) hv2
          simp only [List.mem_cons, List.not_mem_nil, or_false] at hop
          rcases hop with rfl | rfl
          · exact q' (.ref t5) (.nt e1) _ _ (.nt k1) (by show e1.dep + 1 ≤ m + 2; omega) ⟨t5, _, rfl, upd_same, x2⟩ S7
          · exact q' (.ref t5) (.mn e1) _ _ (.mn k1) (by show e1.dep + 1 ≤ m + 2; omega) ⟨t5, _, rfl, upd_same, x2⟩ S7
        · refine ⟨_, rfl, (by show 13 ≤ sizeLine; decide), fun p1 hp1 => ?_⟩
          have S5 := S4.new (o := .tup (ops13.map V.str)) hp1
          refine ⟨d, s, p1, ns, _, _, ops13.map V.str, rfl, S5.dr, ne2 S4 hp1, .inr (SqT.of upd_same), (by intro z; cases z), fun v2 H6 hv2 b6 D6 => ?_⟩
          have S6 := S5.step b6 D6
          refine ⟨_, rfl, _, rfl, _, rfl, _, rfl, _, _, rfl, rfl, d, s, cols, cl, kf, ns, _, _, deep - 1, rfl, S6.dr, Cb S6, hk, by omega, by omega, fun v3 e3 n3 H7 k3 dp3 x3 b7 D7 => ⟨z4, fun t5 ht5 => ?_⟩⟩
          have S7 := S6.step b7 D7
          have S8 := S7.new (o := .tup [.str "two", v2, v1, v3]) ht5
          have x2 : ExAt (upd H7 t5 (.tup [.str "two", v2, v1, v3])) v1 e1 := (((x1.keep fun a xs e => same_upd hp1 _ _ e).keep (tp S5 b6)).keep (tp S6 b7)).keep fun a xs e => same_upd ht5 _ _ e
          have x4 : ExAt (upd H7 t5 (.tup [.str "two", v2, v1, v3])) v3 e3 := x3.keep fun a xs e => same_upd ht5 _ _ e
          obtain ⟨op, hop, rfl⟩ := mem_strs hv2
          exact q' (.ref t5) (.two op e1 e3) _ _ (.arith (ops13_in op hop) k1 k3) (by show max e1.dep e3.dep + 1 ≤ m + 2; omega) ⟨t5, _, _, rfl, upd_same, x2, x4⟩ S8
      refine ⟨_, rfl, _, rfl, d, s, D2, ns, _, _, (strsOf false cl).map V.str, rfl, S4.dr, S4.n2, .inl (SqL.of S4.i2), strs_ne ce, fun v2 H7 hv2 b7 D7 => ⟨z2, fun t2 ht2 => ⟨z2, fun t5 ht5 => ?_⟩⟩⟩
      have S7 := S4.step b7 D7
      have S8 := S7.new (o := .tup [.str "column", v2]) ht2
      have S9 := S8.new (o := .tup [.str "length", .ref t2]) ht5
      obtain ⟨x, rfl, kt⟩ := mem_strsOf hk hv2
      refine q' (.ref t5) (.ln (.col x)) _ _ (.ln (.col kt)) (by show 2 ≤ m + 2; omega) ?_ S9
      exact ⟨t5, _, rfl, upd_same, ⟨t2, rfl, same_upd ht5 _ _ upd_same⟩⟩
    -- one
    refine ⟨_, rfl, _, rfl, _, rfl, _, _, rfl, rfl, d, s, cols, cl, kf, ns, _, _, deep - 1, rfl, S3.dr, Cb S3, hk, by omega, by omega, fun v1 e1 n1 H4 k1 dp1 x1 b4 D4 => ?_⟩
    have S4 := S3.step b4 D4
    refine ⟨_, rfl, rfl, _, rfl, ite2 (fun c => ?_) (fun c => ?_)⟩
    · refine ⟨_, rfl, z2, fun p1 hp1 => ?_⟩
      have S5 := S4.new (o := .tup [.str "not", .str "minus"]) hp1
      refine ⟨d, s, p1, ns, _, _, [.str "not", .str "minus"], rfl, S5.dr, ne2 S4 hp1, .inr (SqT.of upd_same), (by intro z; cases z), fun v2 H6 hv2 b6 D6 => ⟨_, rfl, z2, fun t5 ht5 => ?_⟩⟩
      have S6 := S5.step b6 D6
      have S7 := S6.new (o := .tup [v2, v1]) ht5
      have x2 : ExAt (upd H6 t5 (.tup [v2, v1])) v1 e1 := ((x1.keep fun a xs e => same_upd hp1 _ _ e).keep (tp S5 b6)).keep fun a xs e => same_upd ht5 _ _ e
      obtain ⟨op, hop, rfl⟩ := mem_strs (l := ["not", "minus"]) hv2
      simp only [List.mem_cons, List.not_mem_nil, or_false] at hop
      rcases hop with rfl | rfl
      · exact q' (.ref t5) (.nt e1) _ _ (.nt k1) (by show e1.dep + 1 ≤ m + 2; omega) ⟨t5, _, rfl, upd_same, x2⟩ S7
      · exact q' (.ref t5) (.mn e1) _ _ (.mn k1) (by show e1.dep + 1 ≤ m + 2; omega) ⟨t5, _, rfl, upd_same, x2⟩ S7
    · refine ⟨_, rfl, (by show 13 ≤ sizeLine; decide), fun p1 hp1 => ?_⟩
      have S5 := S4.new (o := .tup (ops13.map V.str)) hp1
      refine ⟨d, s, p1, ns, _, _, ops13.map V.str, rfl, S5.dr, ne2 S4 hp1, .inr (SqT.of upd_same), (by intro z; cases z), fun v2 H6 hv2 b6 D6 => ?_⟩
      have S6 := S5.step b6 D6
      refine ⟨_, rfl, _, rfl, _, rfl, _, rfl, _, _, rfl, rfl, d, s, cols, cl, kf, ns, _, _, deep - 1, rfl, S6.dr, Cb S6, hk, by omega, by omega, fun v3 e3 n3 H7 k3 dp3 x3 b7 D7 => ⟨z4, fun t5 ht5 => ?_⟩⟩
      have S7 := S6.step b7 D7
      have S8 := S7.new (o := .tup [.str "two", v2, v1, v3]) ht5
      have x2 : ExAt (upd H7 t5 (.tup [.str "two", v2, v1, v3])) v1 e1 := (((x1.keep fun a xs e => same_upd hp1 _ _ e).keep (tp S5 b6)).keep (tp S6 b7)).keep fun a xs e => same_upd ht5 _ _ e
      have x4 : ExAt (upd H7 t5 (.tup [.str "two", v2, v1, v3])) v3 e3 := x3.keep fun a xs e => same_upd ht5 _ _ e
      obtain ⟨op, hop, rfl⟩ := mem_strs hv2
      exact q' (.ref t5) (.two op e1 e3) _ _ (.arith (ops13_in op hop) k1 k3) (by show max e1.dep e3.dep + 1 ≤ m + 2; omega) ⟨t5, _, _, rfl, upd_same, x2, x4⟩ S8
  -- a column, a number
  all_goals
    refine ⟨_, rfl, Nat.zero_le _, fun p hp => ?_⟩
    have S4 := S3.new (o := .lst []) hp
    refine ⟨.list ((strsOf true cl).map PyData.str), .list [], .lst (SqL.of S4.i1) (dpa_strs _), .lst (SqL.of upd_same) .nil, st1, sh0, _, rfl, ite2 (fun ce => ?_) (fun ce => ?_)⟩
    rotate_left
    · refine ⟨_, rfl, d, s, ns, _, _, _, rfl, S4.dr, (by show (0 : Int) < 6; decide), fun r H7 r0 r1 b7 D7 => ⟨z2, fun t2 ht2 => ?_⟩⟩
      have S7 := S4.step b7 D7
      have S8 := S7.new (o := .tup [.str "number", .int r]) ht2
      exact q' (.ref t2) (.num r) _ _ (.num (by omega)) (by show 1 ≤ m + 2; omega) ⟨t2, rfl, upd_same⟩ S8
    refine ⟨_, rfl, _, _, rfl, rfl, (by show (0 : Int) < 4; decide), _, _, rfl, rfl, _, rfl, ite2 (fun c3 => ?_) (fun c3 => ?_)⟩
    · refine ⟨_, rfl, _, rfl, d, s, D1, ns, _, _, (strsOf true cl).map V.str, rfl, S4.dr, S4.n1, .inl (SqL.of S4.i1), strs_ne ce, fun v2 H7 hv2 b7 D7 => ⟨z2, fun t2 ht2 => ?_⟩⟩
      have S7 := S4.step b7 D7
      have S8 := S7.new (o := .tup [.str "column", v2]) ht2
      obtain ⟨x, rfl, kx⟩ := mem_strsOf hk hv2
      exact q' (.ref t2) (.col x) _ _ (.col kx) (by show 1 ≤ m + 2; omega) ⟨t2, rfl, upd_same⟩ S8
    · refine ⟨_, rfl, d, s, ns, _, _, _, rfl, S4.dr, (by show (0 : Int) < 6; decide), fun r H7 r0 r1 b7 D7 => ⟨z2, fun t2 ht2 => ?_⟩⟩
      have S7 := S4.step b7 D7
      have S8 := S7.new (o := .tup [.str "number", .int r]) ht2
      exact q' (.ref t2) (.num r) _ _ (.num (by omega)) (by show 1 ≤ m + 2; omega) ⟨t2, rfl, upd_same⟩ S8
end
end Kx

namespace Kx
open PySem PySem.Spec PyProof.Rows L2
section
variable {P : Program} {w : World} {K : PySem.W.Frag} {mg : Str → Option Value} {base : Heap}
/-! ### _law_map -/
/-- a column that a map makes: where its detail stands, where its pair stands, what it tells, its kind, its name -/
structure MCol where
  det : Addr
  col : Addr
  told : V
  ex : Ex
  kind : Bool
  name : Str
def lates : List Str := ["k", "v", "w", "x", "k0", "v0", "w0", "x0", "k1", "v1", "w1", "x1", "k2", "v2", "w2", "x2"]
theorem lates_ok : ∀ z ∈ lates, PyData.canLay0 (.str z) = true := by decide +kernel
theorem late_in : ∀ a ∈ (["k", "v", "w", "x"] : List Str), ∀ b ∈ (["", "0", "1", "2"] : List Str), a ++ b ∈ lates := by decide +kernel
theorem late_len : ∀ a ∈ (["k", "v", "w", "x"] : List Str), ∀ b ∈ (["", "0", "1", "2"] : List Str), a.length + b.length ≤ sizeLine := by decide +kernel
structure MColAt (H : Hp) (kf : Str → Option Bool) (m : MCol) : Prop where
  at_det : H m.det = some (.tup [m.told, .str m.name])
  at_col : H m.col = some (.tup [.str m.name, .str (kW m.kind)])
  ex : ExAt H m.told m.ex
  kd : Kind kf m.ex m.kind
  dep : m.ex.dep ≤ 4
  nm : m.name ∈ lates
theorem MColAt.keep {H H' : Hp} {kf : Str → Option Bool} {m : MCol} (M : MColAt H kf m) (h : ∀ (a : Addr) (xs : List V), H a = some (.tup xs) → H' a = some (.tup xs)) : MColAt H' kf m :=
  ⟨h _ _ M.at_det, h _ _ M.at_col, M.ex.keep h, M.kd, M.dep, M.nm⟩
structure MapSt (H0 H : Hp) (kf : Str → Option Bool) (d s p1 p2 : Addr) (ns : List Int) (tl : List V) (ms : List MCol) : Prop where
  dr : ∃ n, DrawAt H d s ns tl n
  b : But d H0 H
  f1 : H0 p1 = none
  f2 : H0 p2 = none
  fs : ∃ o, H0 s = some o
  ne : p1 ≠ p2
  n1 : p1 ≠ d
  n2 : p2 ≠ d
  e1 : H p1 = some (.lst (ms.map fun m => .ref m.det))
  e2 : H p2 = some (.lst (ms.map fun m => .ref m.col))
  each : ∀ m ∈ ms, MColAt H kf m
  nod : (ms.map MCol.name).Nodup
theorem MapSt.step {H0 H H' : Hp} {kf : Str → Option Bool} {d s p1 p2 : Addr} {ns : List Int} {tl : List V} {ms : List MCol} {n : Int} (S : MapSt H0 H kf d s p1 p2 ns tl ms) (b : But d H H') (D : DrawAt H' d s ns tl n) : MapSt H0 H' kf d s p1 p2 ns tl ms := by
  obtain ⟨n0, D0⟩ := S.dr
  exact ⟨⟨n, D⟩, S.b.trans b, S.f1, S.f2, S.fs, S.ne, S.n1, S.n2, b _ _ S.n1 S.e1, b _ _ S.n2 S.e2, fun m hm => (S.each m hm).keep (b.tup D0.at_d), S.nod⟩
theorem MapSt.new {H0 H : Hp} {kf : Str → Option Bool} {d s p1 p2 p : Addr} {ns : List Int} {tl : List V} {ms : List MCol} {o : HO} (S : MapSt H0 H kf d s p1 p2 ns tl ms) (h : H p = none) : MapSt H0 (upd H p o) kf d s p1 p2 ns tl ms := by
  obtain ⟨n0, D0⟩ := S.dr
  exact S.step (same_but (same_upd h)) (D0.keep (same_upd h))
theorem MapSt.add {H0 H : Hp} {kf : Str → Option Bool} {d s p1 p2 : Addr} {ns : List Int} {tl : List V} {ms : List MCol} (S : MapSt H0 H kf d s p1 p2 ns tl ms) {m : MCol} (M : MColAt H kf m) (hn : m.name ∉ ms.map MCol.name) :
    MapSt H0 (upd (upd H p1 (.lst ((ms.map fun m => .ref m.det) ++ [.ref m.det]))) p2 (.lst ((ms.map fun m => .ref m.col) ++ [.ref m.col]))) kf d s p1 p2 ns tl (ms ++ [m]) := by
  obtain ⟨n0, D0⟩ := S.dr
  have kp : ∀ {a : Addr} {o : HO}, a ≠ p1 → a ≠ p2 → H a = some o → upd (upd H p1 (.lst ((ms.map fun m => .ref m.det) ++ [.ref m.det]))) p2 (.lst ((ms.map fun m => .ref m.col) ++ [.ref m.col])) a = some o := fun h1 h2 e => by
    rw [upd_ne h2, upd_ne h1]
    exact e
  have kt : ∀ (a : Addr) (xs : List V), H a = some (.tup xs) → upd (upd H p1 (.lst ((ms.map fun m => .ref m.det) ++ [.ref m.det]))) p2 (.lst ((ms.map fun m => .ref m.col) ++ [.ref m.col])) a = some (.tup xs) := fun a xs e =>
    kp (fun q => by rw [q, S.e1] at e; cases e) (fun q => by rw [q, S.e2] at e; cases e) e
  obtain ⟨os, es⟩ := S.fs
  have ks1 : s ≠ p1 := ne_of_none es S.f1
  have ks2 : s ≠ p2 := ne_of_none es S.f2
  have eP1 : upd (upd H p1 (.lst ((ms.map fun m => .ref m.det) ++ [.ref m.det]))) p2 (.lst ((ms.map fun m => .ref m.col) ++ [.ref m.col])) p1 = some (.lst ((ms.map fun m => .ref m.det) ++ [.ref m.det])) := by
    rw [upd_ne S.ne]
    exact upd_same
  refine ⟨⟨n0, kp S.n1.symm S.n2.symm D0.at_d, kp ks1 ks2 D0.at_s, D0.n0⟩, fun c o hc e => kp (ne_of_none e S.f1) (ne_of_none e S.f2) (S.b c o hc e), S.f1, S.f2, S.fs, S.ne, S.n1, S.n2, ?_, ?_, fun x hx => ?_, ?_⟩
  · rw [List.map_append]
    exact eP1
  · rw [List.map_append]
    exact upd_same
  · rcases List.mem_append.mp hx with hx | hx
    · exact (S.each x hx).keep kt
    · rw [List.mem_singleton.mp hx]
      exact M.keep kt
  · rw [List.map_append]
    exact List.nodup_append.mpr ⟨S.nod, by simp, fun a ha b hb e => hn (by
      have : b = m.name := List.mem_singleton.mp hb
      rw [← this, ← e]
      exact ha)⟩
theorem inV_str (z : Str) : ∀ l : List Str, inV (.str z) (l.map V.str) = decide (z ∈ l)
  | [] => rfl
  | x :: r => by
    have ih := inV_str z r
    show (x == z || inV (.str z) (r.map V.str)) = _
    rw [ih]
    by_cases h : x = z
    · subst h
      simp
    · have h' : ¬ z = x := fun e => h e.symm
      simp [h, h']
theorem upd_comm {H : Hp} {a b : Addr} {x y : HO} (h : a ≠ b) : upd (upd H a x) b y = upd (upd H b y) a x := by
  funext c
  by_cases h1 : c = b
  · rw [h1, upd_same, upd_ne h.symm, upd_same]
  · by_cases h2 : c = a
    · rw [h2, upd_ne h, upd_same, upd_same]
    · rw [upd_ne h1, upd_ne h2, upd_ne h2, upd_ne h1]
theorem str_num {i : Nat} (h : i < 3) : Str.ofString (toString ((0 : Int) + (i : Nat))) ∈ (["", "0", "1", "2"] : List Str) := by
  match i, h with
  | 0, _ => decide +kernel
  | 1, _ => decide +kernel
  | 2, _ => decide +kernel
theorem log_num {i : Nat} (h : i < 3) : ((0 : Int) + (i : Nat)).natAbs.log2 < 1920 := by
  match i, h with
  | 0, _ => decide +kernel
  | 1, _ => decide +kernel
  | 2, _ => decide +kernel
theorem notin_strs {z : Str} {l : List Str} {A B : Prop} (h1 : z ∉ l → A) (h2 : z ∈ l → B) : if (if true = true then !inV (.str z) (l.map V.str) else inV (.str z) (l.map V.str)) = true then A else B := by
  rw [if_pos rfl, inV_str]
  by_cases h : z ∈ l
  · rw [decide_eq_true h]
    exact iteF (h2 h)
  · rw [decide_eq_false h]
    exact iteT (h1 h)
theorem flat_strs : ∀ l : List Str, (l.map V.str).all flatV = true
  | [] => rfl
  | _ :: l => flat_strs l
abbrev N_law_map : List Str := ["draw", "columns", "at", "details", "found", "number", "name", "kind", "told", "late", "one", "by"]
def spMap : Sp := fun vs H Q _ => ∃ (d s cols : Addr) (at' : V) (cl : List Col) (kf : Str → Option Bool) (ns : List Int) (tl : List V) (n : Int), vs = [.ref d, .ref cols, at'] ∧ DrawAt H d s ns tl n ∧ ColsAt H cols cl ∧ (∀ c ∈ cl, kf c.2.1 = some c.2.2) ∧ cl ≠ [] ∧
  ∀ (r t f : Addr) (ms : List MCol) (n' : Int) (H' : Hp), H' r = some (.tup [.ref t, .ref f]) → H' t = some (.tup (ms.map fun m => .ref m.det)) → H' f = some (.lst (ms.map fun m => .ref m.col)) → (∀ m ∈ ms, MColAt H' kf m) → (ms.map MCol.name).Nodup → ms ≠ [] → ms.length ≤ 3 → But d H H' → DrawAt H' d s ns tl n' → Q (.ref r) H'
end
end Kx

namespace Kx
open PySem PySem.Spec PyProof.Rows L2
section
variable {P : Program} {w : World} {K : PySem.W.Frag} {mg : Str → Option Value} {base : Heap}
/-! ### _law_most -/
abbrev N_law_most : List Str := ["draw", "step", "some", "one"]
def spMost : Sp := fun vs H Q _ => ∃ (d s g st inp : Addr) (ns : List Int) (tl : List V) (n : Int) (nm det : V) (kind : Str) (is : List Str) (js : List Int) (kvs : List (L2.Key × V)), vs = [.ref d, .ref st] ∧ DrawAt H d s ns (.ref g :: tl) n ∧ H g = some (.dK kvs) ∧
  H st = some (.tup [nm, .str kind, .ref inp, det]) ∧ H inp = some (.tup (is.map V.str)) ∧ is.length = js.length ∧ js.length ≤ 1000 ∧ (∀ (i : Nat) (x : Str), is[i]? = some x → ∃ j : Int, js[i]? = some j ∧ valV kvs (.inr x) = some (.int j)) ∧
  (kind = "join" → ∃ a b : Int, js = [a, b] ∧ 0 ≤ a ∧ a ≤ 400 ∧ 0 ≤ b ∧ b ≤ 400 ∧ 0 ≤ a * b ∧ a * b ≤ 400) ∧ (kind ≠ "join" → 0 ≤ js.sum ∧ js.sum ≤ 400) ∧
  (kind = "sort" → ∃ (da : Addr) (x : V) (m : Int), det = .ref da ∧ H da = some (.tup [x, .int m]) ∧ 0 ≤ m) ∧ ∀ (j : Int) (H' : Hp), 0 ≤ j → j ≤ 400 → Same H H' → Q (.int j) H'
theorem at3 {a b c e : V} {tl : List V} : atI (a :: b :: c :: e :: tl) 3 = some e := atI_nat (j := 3) rfl
end
end Kx

namespace Kx
open PySem PySem.Spec PyProof.Rows L2
theorem nodup_len : ∀ {M ks : List L2.Key}, M.Nodup → (∀ z ∈ M, z ∈ ks) → M.length ≤ ks.length
  | [], _, _, _ => Nat.zero_le _
  | x :: M, ks, hn, hs => by
    have hn' := List.nodup_cons.mp hn
    obtain ⟨u, t, rfl⟩ := List.append_of_mem (hs x List.mem_cons_self)
    have h1 : M.length ≤ (u ++ t).length := nodup_len hn'.2 fun z hz => by
      have h2 := List.mem_append.mp (hs z (List.mem_cons_of_mem _ hz))
      rcases h2 with h2 | h2
      · exact List.mem_append_left _ h2
      rcases List.mem_cons.mp h2 with e | h2
      · rw [e] at hz
        exact absurd hz hn'.1
      · exact List.mem_append_right _ h2
    rw [List.length_append] at h1
    rw [List.length_append, List.length_cons, List.length_cons]
    omega
section
variable {X : Cx}
/-- len of a set of ints and texts -/
def rLenK (P : Program) (w : World) : List V → Hp → VK → Prop := fun vs H Q => ∃ (a : Addr) (L : List L2.Key), vs = [.ref a] ∧ H a = some (Yk.SetKO P w a L) ∧ Q (.int (L.length : Nat)) H
theorem cr_lenK : CallR X (.builtin "len") (rLenK X.prog X.w) := by
  intro pins s σ H vs us Q I r h
  obtain ⟨a, L, rfl, ha, q⟩ := h
  rw [Vals.ref1 r]
  obtain ⟨o, es, ep, t, ho, hex, hd, _, eL, _, hb, hf, _⟩ := Yk.setKO_get I ha
  have len : L.length = es.size := by
    rw [eL, List.length_map, Array.length_toList]
  have hb2 : es.size < 2 ^ 63 := Nat.lt_of_lt_of_le hb (by decide)
  exact call_len_set ho hex hd hf (by omega) ⟨.int (L.length : Nat), H, I.tok _, ⟨_, by rw [len]⟩, q⟩
end
/-- a list whose set has as many things has no thing twice -/
theorem len_nodup : ∀ {ks M : List L2.Key}, M.Nodup → (∀ z, z ∈ M ↔ z ∈ ks) → ks.length ≤ M.length → ks.Nodup
  | [], _, _, _, _ => List.nodup_nil
  | x :: r, M, hn, hm, hl => by
    by_cases hx : x ∈ r
    · have h1 := nodup_len (ks := r) hn fun z hz => by
        rcases List.mem_cons.mp ((hm z).mp hz) with e | h
        · rw [e]
          exact hx
        · exact h
      rw [List.length_cons] at hl
      omega
    · have xM : x ∈ M := (hm x).mpr List.mem_cons_self
      obtain ⟨u, v, rfl⟩ := List.append_of_mem xM
      have hp := List.nodup_cons.mp ((List.perm_middle (l₁ := u) (a := x) (l₂ := v)).nodup hn)
      refine List.nodup_cons.mpr ⟨hx, len_nodup (M := u ++ v) hp.2 (fun z => ?_) ?_⟩
      · have h0 := hm z
        rw [(List.perm_middle (l₁ := u) (a := x) (l₂ := v)).mem_iff, List.mem_cons, List.mem_cons] at h0
        constructor
        · intro h
          rcases h0.mp (.inr h) with e | h2
          · exact absurd (e ▸ h) hp.1
          · exact h2
        · intro h
          rcases h0.mpr (.inr h) with e | h2
          · exact absurd (e ▸ h) hx
          · exact h2
      · rw [List.length_append] at hl ⊢
        rw [List.length_cons, List.length_cons] at hl
        omega
theorem nodup_strs {l : List Str} (h : (l.map fun x => (Sum.inr x : L2.Key)).Nodup) : l.Nodup :=
  (List.pairwise_map.mp h).imp fun ne e => ne (congrArg Sum.inr e)
/-- every name that a drawn column can have -/
def allNames : List Str := (["k", "t", "n", "m", "f0", "f1", "f2", "c"] : List Str) ++ lates
theorem few_names {l : List Str} (hn : l.Nodup) (h : ∀ x ∈ l, x ∈ allNames) : l.length ≤ 24 := by
  have h1 := nodup_len (M := l.map fun x => (Sum.inr x : L2.Key)) (ks := allNames.map fun x => (Sum.inr x : L2.Key)) (List.pairwise_map.mpr (hn.imp fun ne e => ne (Sum.inr.inj e))) fun z hz => by
    obtain ⟨x, hx, rfl⟩ := List.mem_map.mp hz
    exact List.mem_map.mpr ⟨x, h x hx, rfl⟩
  rw [List.length_map, List.length_map] at h1
  exact h1
end Kx

namespace Kx
open PySem PySem.Spec PyProof.Rows L2
abbrev s_law_fold : Stmt := topS 86
/-- a fold that the law draws: where its detail stands, where its pair stands, its word, what it tells, its expression, that one's kind, its name -/
structure FCol where
  det : Addr
  col : Addr
  op : Str
  told : V
  ex : Option Ex
  kind : Bool
  name : Str
def folds6 : List Str := ["count", "sum", "least", "greatest", "mean", "unlike"]
def lateK (op : Str) (k : Bool) : Bool := if op ∈ (["least", "greatest"] : List Str) then k else true
def FTold (H : Hp) (kf : Str → Option Bool) (op : Str) (told : V) (k : Bool) : Option Ex → Prop
  | none => op = "count" ∧ told = .non ∧ k = true
  | some e => op ≠ "count" ∧ ExAt H told e ∧ Kind kf e k ∧ e.dep ≤ 3 ∧ (op ∉ (["least", "unlike", "greatest"] : List Str) → k = true)
theorem FTold.keep {H H' : Hp} {kf : Str → Option Bool} {op : Str} {told : V} {k : Bool} {oe : Option Ex} (t : FTold H kf op told k oe) (h : ∀ (a : Addr) (xs : List V), H a = some (.tup xs) → H' a = some (.tup xs)) : FTold H' kf op told k oe := by
  cases oe with
  | none => exact t
  | some e => exact ⟨t.1, t.2.1.keep h, t.2.2⟩
def fnames : List Str := ["f0", "f1", "f2", "c"]
structure FColAt (H : Hp) (kf : Str → Option Bool) (m : FCol) : Prop where
  at_det : H m.det = some (.tup [.str m.op, m.told, .str m.name])
  at_col : H m.col = some (.tup [.str m.name, .str (kW (lateK m.op m.kind))])
  told : FTold H kf m.op m.told m.kind m.ex
  op : m.op ∈ folds6
  nm : m.name ∈ fnames
theorem FColAt.keep {H H' : Hp} {kf : Str → Option Bool} {m : FCol} (M : FColAt H kf m) (h : ∀ (a : Addr) (xs : List V), H a = some (.tup xs) → H' a = some (.tup xs)) : FColAt H' kf m :=
  ⟨h _ _ M.at_det, h _ _ M.at_col, M.told.keep h, M.op, M.nm⟩
structure FSt (H0 H : Hp) (kf : Str → Option Bool) (d s p1 p2 : Addr) (ks : List Col) (ns : List Int) (tl : List V) (fs : List FCol) : Prop where
  dr : ∃ n, DrawAt H d s ns tl n
  b : But d H0 H
  f1 : H0 p1 = none
  f2 : H0 p2 = none
  fs' : ∃ o, H0 s = some o
  ne : p1 ≠ p2
  n1 : p1 ≠ d
  n2 : p2 ≠ d
  e1 : H p1 = some (.lst (fs.map fun m => .ref m.det))
  e2 : H p2 = some (.lst ((ks.map fun c => .ref c.1) ++ fs.map fun m => .ref m.col))
  each : ∀ m ∈ fs, FColAt H kf m
theorem FSt.step {H0 H H' : Hp} {kf : Str → Option Bool} {d s p1 p2 : Addr} {ks : List Col} {ns : List Int} {tl : List V} {fs : List FCol} {n : Int} (S : FSt H0 H kf d s p1 p2 ks ns tl fs) (b : But d H H') (D : DrawAt H' d s ns tl n) : FSt H0 H' kf d s p1 p2 ks ns tl fs := by
  obtain ⟨n0, D0⟩ := S.dr
  exact ⟨⟨n, D⟩, S.b.trans b, S.f1, S.f2, S.fs', S.ne, S.n1, S.n2, b _ _ S.n1 S.e1, b _ _ S.n2 S.e2, fun m hm => (S.each m hm).keep (b.tup D0.at_d)⟩
theorem FSt.new {H0 H : Hp} {kf : Str → Option Bool} {d s p1 p2 p : Addr} {ks : List Col} {ns : List Int} {tl : List V} {fs : List FCol} {o : HO} (S : FSt H0 H kf d s p1 p2 ks ns tl fs) (h : H p = none) : FSt H0 (upd H p o) kf d s p1 p2 ks ns tl fs := by
  obtain ⟨n0, D0⟩ := S.dr
  exact S.step (same_but (same_upd h)) (D0.keep (same_upd h))
theorem FSt.add {H0 H : Hp} {kf : Str → Option Bool} {d s p1 p2 : Addr} {ks : List Col} {ns : List Int} {tl : List V} {fs : List FCol} (S : FSt H0 H kf d s p1 p2 ks ns tl fs) {m : FCol} (M : FColAt H kf m) :
    FSt H0 (upd (upd H p1 (.lst ((fs.map fun m => .ref m.det) ++ [.ref m.det]))) p2 (.lst (((ks.map fun c => .ref c.1) ++ fs.map fun m => .ref m.col) ++ [.ref m.col]))) kf d s p1 p2 ks ns tl (fs ++ [m]) := by
  obtain ⟨n0, D0⟩ := S.dr
  have kp : ∀ {a : Addr} {o : HO}, a ≠ p1 → a ≠ p2 → H a = some o → upd (upd H p1 (.lst ((fs.map fun m => .ref m.det) ++ [.ref m.det]))) p2 (.lst (((ks.map fun c => .ref c.1) ++ fs.map fun m => .ref m.col) ++ [.ref m.col])) a = some o := fun h1 h2 e => by
    rw [upd_ne h2, upd_ne h1]
    exact e
  have kt : ∀ (a : Addr) (xs : List V), H a = some (.tup xs) → upd (upd H p1 (.lst ((fs.map fun m => .ref m.det) ++ [.ref m.det]))) p2 (.lst (((ks.map fun c => .ref c.1) ++ fs.map fun m => .ref m.col) ++ [.ref m.col])) a = some (.tup xs) := fun a xs e =>
    kp (fun q => by rw [q, S.e1] at e; cases e) (fun q => by rw [q, S.e2] at e; cases e) e
  obtain ⟨os, es⟩ := S.fs'
  have ks1 : s ≠ p1 := ne_of_none es S.f1
  have ks2 : s ≠ p2 := ne_of_none es S.f2
  refine ⟨⟨n0, kp S.n1.symm S.n2.symm D0.at_d, kp ks1 ks2 D0.at_s, D0.n0⟩, fun c o hc e => kp (ne_of_none e S.f1) (ne_of_none e S.f2) (S.b c o hc e), S.f1, S.f2, S.fs', S.ne, S.n1, S.n2, ?_, ?_, fun x hx => ?_⟩
  · rw [List.map_append, upd_ne S.ne]
    exact upd_same
  · rw [List.map_append, ← List.append_assoc]
    exact upd_same
  · rcases List.mem_append.mp hx with hx | hx
    · exact (S.each x hx).keep kt
    · rw [List.mem_singleton.mp hx]
      exact M.keep kt
theorem cut_2 (xs : List V) : cutV xs none (some 2) = xs.take 2 := by
  unfold cutV
  rw [HT.sIx_none, show (some (2 : Int)) = some ((2 : Nat) : Int) from rfl, HT.sIx_nat, List.drop_zero]
  match xs with
  | [] => rfl
  | [x] => rfl
  | x :: y :: r =>
    rw [List.length_cons, List.length_cons, show min 2 (r.length + 1 + 1) - 0 = 2 by omega]
theorem cut_two (ks : List Col) : ∃ ys : List Col, cutV (ks.map fun c => V.ref c.1) none (some 2) = (ys.map fun c => V.ref c.1) ∧ (∀ c ∈ ys, c ∈ ks) ∧ ys.length ≤ 2 := by
  have e : cutV (ks.map fun c => V.ref c.1) none (some 2) = (ks.take 2).map fun c => V.ref c.1 := by
    rw [List.map_take]
    exact cut_2 _
  exact ⟨_, e, fun c hc => List.mem_of_mem_take hc, by rw [List.length_take]; omega⟩
theorem f_name {i : Nat} (h : i < 3) : ("f" : Str) ++ Str.ofString (toString ((0 : Int) + (i : Nat))) ∈ fnames ∧ ("f" : Str).length + (Str.ofString (toString ((0 : Int) + (i : Nat)))).length ≤ sizeLine := by
  match i, h with
  | 0, _ => decide +kernel
  | 1, _ => decide +kernel
  | 2, _ => decide +kernel
theorem in_strs {z : Str} {l : List Str} {A B : Prop} (h1 : z ∈ l → A) (h2 : z ∉ l → B) : if (if false = true then !inV (.str z) (l.map V.str) else inV (.str z) (l.map V.str)) = true then A else B := by
  rw [if_neg Bool.false_ne_true, inV_str]
  by_cases h : z ∈ l
  · rw [decide_eq_true h]
    exact iteT (h1 h)
  · rw [decide_eq_false h]
    exact iteF (h2 h)
section
variable {P : Program} {w : World} {K : PySem.W.Frag} {mg : Str → Option Value} {base : Heap}
/-! ### _law_fold -/
abbrev N_law_fold : List Str := ["draw", "columns", "keys", "pair", "folds", "found", "number", "kind", "told", "late", "name", "names"]
def spFold : Sp := fun vs H Q _ => ∃ (d s cols : Addr) (cl : List Col) (kf : Str → Option Bool) (ns : List Int) (tl : List V) (n : Int), vs = [.ref d, .ref cols] ∧ DrawAt H d s ns tl n ∧ ColsAt H cols cl ∧ (∀ c ∈ cl, kf c.2.1 = some c.2.2) ∧ cl ≠ [] ∧
  ∀ (r t kt ft f : Addr) (ks : List Col) (fs : List FCol) (n' : Int) (H' : Hp), H' r = some (.tup [.ref t, .ref f]) → H' t = some (.tup [.ref kt, .ref ft]) → H' kt = some (.tup (ks.map fun c => .str c.2.1)) → H' ft = some (.tup (fs.map fun m => .ref m.det)) → H' f = some (.lst ((ks.map fun c => .ref c.1) ++ fs.map fun m => .ref m.col)) →
    (∀ c ∈ ks, c ∈ cl) → (∀ m ∈ fs, FColAt H' kf m) → ((ks.map fun c => c.2.1) ++ fs.map FCol.name).Nodup → fs ≠ [] → fs.length ≤ 3 → But d H H' → DrawAt H' d s ns tl n' → Q (.ref r) H'
theorem sc_fold : FnScope N_law_fold ["draw", "columns"] (defScope s_law_fold) := ⟨rfl, rfl, rfl, by decide +kernel, rfl, by decide +kernel, by decide +kernel⟩
theorem ok_fold {f : Addr} {fd : FuncData} (F : Fun K "_law_fold" "_law_fold" s_law_fold f fd) (m_range : mg "range" = none) (m_str : mg "str" = none) (m_tuple : mg "tuple" = none) (m_list : mg "list" = none) (m_len : mg "len" = none) (m_set : mg "set" = none) (G_law_next : Ready P w K mg base 3 "_law_next" ["draw", "bound"] spNext) (G_law_pick : Ready P w K mg base 4 "_law_pick" ["draw", "things"] (spPick K))
    (G_law_int : Ready P w K mg base 6 "_law_int" ["draw", "columns", "deep"] (spInt 2)) : FnOk P w K mg base CX0 8 f fd ["draw", "columns"] spFold := by
  refine F.ok sc_fold (fun vs H Q E h => ?_) (fun cdv A outer s0 H vs Q E hr h => ?_)
  · obtain ⟨d, s, cols, cl, kf, ns, tl, n, rfl, _⟩ := h
    rfl
  obtain ⟨d, s, cols, cl, kf, ns, tl, n, rfl, D, C, hk, hne, q⟩ := h
  have nd := sc_fold.nd
  have hu64 : _ + 64 < cLine := hr.units
  have hr6 : Room 6 _ := hr.mono (by omega)
  have hr4 : Room 4 _ := hr.mono (by omega)
  have hr3 : Room 3 _ := hr.mono (by omega)
  refine ⟨_, pss_cons (ps_set (i := 2) nd rfl (.inl rfl) (pe_slice sl_list (pe_lc (own := [("pair", 3)]) (g := gName 3) (tt := _) rfl nd (pi_list (pv 1)) (blkOk_by (N := N_law_fold) (sc := defScope s_law_fold) (by decide +kernel)) (fun _ _ _ _ _ => pg_name (i := 3) nd rfl (Or.inl rfl)) (fun _ _ _ _ _ => pts_one (pt_cmpR op_eq (pe_fn (G_law_next) hr3 (pa_cons (pv 0) (pa_cons pe_int pa_nil))) pe_int (nomark _))) (fun _ _ _ _ _ => (pv 3))) po_none (po_some pe_int)))
      (pss_cons (ps_par (i := 4) (j := 5) rfl nd rfl rfl (by decide) rfl rfl (pa_cons (pe_lst pa_nil) (pa_cons (pe_callTy call_list_of (by rfl) m_list PyProof.Rows.boot_list (pa_cons (pv 2) pa_nil)) pa_nil)) rfl)
      (pss_cons (ps_for PassesOwn.never rfl (pi_range1 rfl m_range (pa_cons (pe_op op_add pe_int (pe_fn (G_law_next) hr3 (pa_cons (pv 0) (pa_cons pe_int pa_nil)))) pa_nil)) (pg_name (i := 6) nd rfl (.inl rfl)) (pss_cons (ps_set (i := 7) nd rfl (.inl rfl) (pe_fn (G_law_pick) hr4 (pa_cons (pv 0) (pa_cons (pe_tup (pa_cons pe_str (pa_cons pe_str (pa_cons pe_str (pa_cons pe_str (pa_cons pe_str (pa_cons pe_str pa_nil))))))) pa_nil))))
      (C8.pss_cut (ps_asg (pe_ifExp (pt_cmpR op_eq (pv 7) pe_str (nomark _)) (pe_tup (pa_cons pe_non (pa_cons pe_str pa_nil))) (pe_tup (pa_cons (pe_fn (G_law_int) hr6 (pa_cons (pv 0) (pa_cons (pv 1) (pa_cons pe_int pa_nil)))) (pa_cons pe_str pa_nil)))) (pg_tup rfl (pgs_cons (pg_name (i := 8) nd rfl (.inl rfl)) (pgs_cons (pg_name (i := 9) nd rfl (.inl rfl)) pgs_nil))))
      (C8.pss_cut (ps_if (PW.pt (pw_and (pt_cmpR op_in_seq (pv 7) (pe_tup (pa_cons pe_str (pa_cons pe_str (pa_cons pe_str pa_nil)))) (by with_unfolding_all rfl)) (pw_and1 (pt_cmpR op_eq (pe_fn (G_law_next) hr3 (pa_cons (pv 0) (pa_cons pe_int pa_nil))) pe_int (nomark _))))) (pss_cons (ps_asg (pe_fn (G_law_pick) hr4 (pa_cons (pv 0) (pa_cons (pv 1) pa_nil))) (pg_tup rfl (pgs_cons (pg_name (i := 10) nd rfl (.inl rfl)) (pgs_cons (pg_name (i := 9) nd rfl (.inl rfl)) pgs_nil))))
      (pss_one (ps_set (i := 8) nd rfl (.inl rfl) (pe_tup (pa_cons pe_str (pa_cons (pv 10) pa_nil)))))) (pss_nil))
      (pss_cons (ps_expr (pe_bm PySem.F.plainAttrs_list PySem.F.slot_list_append PySem.F.type_list_append mt_append (pv 4) (pa_cons (pe_tup (pa_cons (pv 7) (pa_cons (pv 8) (pa_cons (pe_op op_add_str pe_str (pe_callTy call_str_int (by rfl) m_str PyProof.Rows.boot_str (pa_cons (pv 6) pa_nil))) pa_nil)))) pa_nil)))
      (pss_one (ps_expr (pe_bm PySem.F.plainAttrs_list PySem.F.slot_list_append PySem.F.type_list_append mt_append (pv 5) (pa_cons (pe_tup (pa_cons (pe_op op_add_str pe_str (pe_callTy call_str_int (by rfl) m_str PyProof.Rows.boot_str (pa_cons (pv 6) pa_nil))) (pa_cons (pe_ifExp (pt_cmpR op_in_seq (pv 7) (pe_tup (pa_cons pe_str (pa_cons pe_str pa_nil))) (by with_unfolding_all rfl)) (pv 9) pe_str) pa_nil))) pa_nil)))))))))
      (pss_cons (ps_setLc (i := 11) (own := [("name", 10), ("kind", 7)]) (g := (gTup K 2 (gCons (gName 10) (gCons (gName 7) gNil)))) (tt := tYes) rfl nd rfl rfl (sw_true rfl rfl rfl (by decide +kernel)) (pi_list (pv 5)) (blkOk_by (N := N_law_fold) (sc := defScope s_law_fold) (by decide +kernel)) (fun _ _ _ _ _ => pg_tup rfl (pgs_cons (pg_name (i := 10) nd rfl (.inl rfl)) (pgs_cons (pg_name (i := 7) nd rfl (.inl rfl)) pgs_nil))) (fun _ _ _ _ _ => pts_nil) (fun _ _ _ _ _ => (pv 10)))
      (pss_cons (ps_if (pt_cmpR op_lt (pe_callB cr_lenK (by rfl) m_len PySem.boot_len (pa_cons (pe_callTy (Yk.cr_setK rfl) (by rfl) m_set PyProof.Rows.boot_set (pa_cons (pv 11) pa_nil)) pa_nil)) (pe_callB call_len_seq (by rfl) m_len PySem.boot_len (pa_cons (pv 11) pa_nil)) (nomark _)) (pss_one (ps_ret (pe_tup (pa_cons (pe_tup (pa_cons (pe_tup pa_nil) (pa_cons (pe_tup (pa_cons (pe_tup (pa_cons pe_str (pa_cons pe_non (pa_cons pe_str pa_nil)))) pa_nil)) pa_nil))) (pa_cons (pe_lst (pa_cons (pe_tup (pa_cons pe_str (pa_cons pe_str pa_nil))) pa_nil)) pa_nil))))) (pss_nil))
      (pss_one (ps_ret (pe_tup (pa_cons (pe_tup (pa_cons (pe_callTy call_tuple_of (by rfl) m_tuple PyProof.Rows.boot_tuple (pa_cons (pe_lc (own := [("name", 10), ("kind", 7)]) (g := (gTup K 2 (gCons (gName 10) (gCons (gName 7) gNil)))) (tt := tYes) rfl nd (pi_list (pv 2)) (blkOk_by (N := N_law_fold) (sc := defScope s_law_fold) (by decide +kernel)) (fun _ _ _ _ _ => pg_tup rfl (pgs_cons (pg_name (i := 10) nd rfl (.inl rfl)) (pgs_cons (pg_name (i := 7) nd rfl (.inl rfl)) pgs_nil))) (fun _ _ _ _ _ => pts_nil) (fun _ _ _ _ _ => (pv 10))) pa_nil)) (pa_cons (pe_callTy call_tuple_of (by rfl) m_tuple PyProof.Rows.boot_tuple (pa_cons (pv 4) pa_nil)) pa_nil))) (pa_cons (pv 5) pa_nil))))))))), ?_⟩
  have z2 : 2 ≤ sizeLine := by decide
  have z3 : 3 ≤ sizeLine := by decide
  have z6 : 6 ≤ sizeLine := by decide
  have cne := C.ne D
  have clne : (cl.map fun c => V.ref c.1) ≠ [] := fun e => hne (List.map_eq_nil_iff.mp e)
  -- keys
  refine ⟨_, rfl, cols, rfl, ⟨_, SqL.of C.all⟩, fun D1 hD1 => ?_⟩
  have n1 : D1 ≠ d := (ne_of_none D.at_d hD1).symm
  refine lc_list (K := K) (a := cols) (xs := cl.map fun c => .ref c.1) (fun i H' => ∃ n' ks, DrawAt H' d s ns tl n' ∧ But d H H' ∧ H' D1 = some (.lst (ks.map fun c => .ref c.1)) ∧ (∀ c ∈ ks, c ∈ cl) ∧ ks.length ≤ i) ⟨n, [], D.keep (same_upd hD1), same_but (same_upd hD1), upd_same, fun c hc => absurd hc List.not_mem_nil, Nat.le_refl _⟩ (fun i H' _ h => ?_) ?_ ?_
  · obtain ⟨n', ks, D', b', _⟩ := h
    exact SqL.of (C.but D b').all
  · rintro i x H' hx ⟨n', ks, D', b', e', sub, le⟩
    rw [List.getElem?_map] at hx
    obtain ⟨c, hc, rfl⟩ := Option.map_eq_some_iff.mp hx
    have hi : i < cl.length := (List.getElem?_eq_some_iff.mp hc).1
    refine ⟨rfl, _, rfl, d, s, ns, tl, _, 2, rfl, D', by decide, fun r H3 r0 r1 b3 D3 => ⟨rfl, _, rfl, ite2 (fun cc => ?_) (fun cc => ?_)⟩⟩
    · have e3 := b3 _ _ n1 e'
      refine ⟨_, rfl, _, e3, ?_, n' + 1, ks ++ [c], ?_, ?_, ?_, ?_, ?_⟩
      · rw [List.length_map]
        have := C.few
        exact Nat.lt_of_le_of_lt (show ks.length ≤ 1000 by omega) (by decide)
      · exact ⟨by rw [upd_ne n1.symm]; exact D3.at_d, by rw [upd_ne (ne_of_none D.at_s hD1)]; exact D3.at_s, D3.n0⟩
      · exact fun b o hb e => by
          rw [upd_ne (ne_of_none e hD1)]
          exact (b'.trans b3) _ _ hb e
      · rw [upd_same, List.map_append]
        rfl
      · intro c' hc'
        rcases List.mem_append.mp hc' with hc' | hc'
        · exact sub _ hc'
        · rw [List.mem_singleton.mp hc']
          exact List.mem_of_getElem? hc
      · rw [List.length_append]
        exact Nat.succ_le_succ le
    · exact ⟨n' + 1, ks, D3, b'.trans b3, b3 _ _ n1 e', sub, Nat.le_succ_of_le le⟩
  rintro H1 ⟨nk, ks0, D1', b1, e1, sub0, le0⟩
  -- the first two
  refine ⟨_, rfl, D1, _, rfl, SqL.of e1, fun pk hpk => ?_⟩
  obtain ⟨ks, eks, subk, lek⟩ := cut_two ks0
  have hks : ks.length ≤ 2 := lek
  rw [eks]
  have sub : ∀ c ∈ ks, c ∈ cl := fun c hc => sub0 c (subk c hc)
  have b2 : But d H (upd H1 pk (.lst (ks.map fun c => .ref c.1))) := b1.trans (same_but (same_upd hpk))
  have D2 := D1'.keep (same_upd (o := .lst (ks.map fun c => .ref c.1)) hpk)
  have npk : pk ≠ d := (ne_of_none D1'.at_d hpk).symm
  have epk : upd H1 pk (.lst (ks.map fun c => .ref c.1)) pk = some (.lst (ks.map fun c => .ref c.1)) := upd_same
  generalize upd H1 pk (.lst (ks.map fun c => .ref c.1)) = H2 at b2 D2 epk ⊢
  clear D1' hpk e1 n1 b1 eks
  -- folds, found
  refine ⟨Nat.zero_le _, fun p1 hp1 => ?_⟩
  have s1 := same_upd (o := .lst []) hp1
  refine ⟨_, rfl, pk, _, rfl, .inl (SqL.of (s1 _ _ epk)), fun p2 hp2 => ⟨_, _, rfl, ?_⟩⟩
  have hp2' : H2 p2 = none := by
    by_cases e : p2 = p1
    · rw [e, upd_same] at hp2
      cases hp2
    · rw [upd_ne e] at hp2
      exact hp2
  have S0 : FSt H2 (upd (upd H2 p1 (.lst [])) p2 (.lst (ks.map fun c => .ref c.1))) kf d s p1 p2 ks ns tl [] := by
    have s2 := s1.trans (same_upd (o := .lst (ks.map fun c => .ref c.1)) hp2)
    exact ⟨⟨_, D2.keep s2⟩, same_but s2, hp1, hp2', ⟨_, D2.at_s⟩, ne_of_none upd_same hp2, (ne_of_none D2.at_d hp1).symm, (ne_of_none D2.at_d hp2').symm, same_upd hp2 _ _ upd_same, by rw [upd_same]; simp, fun m hm => (List.not_mem_nil hm).elim⟩
  obtain ⟨n0, D0⟩ := S0.dr
  refine ⟨_, rfl, d, s, ns, tl, _, _, rfl, D0, (by show (0 : Int) < 3; decide), fun r H1 r0 r1 b1 D1 => ?_⟩
  have S1 := S0.step b1 D1
  clear S0 D0 b1 D1 hp2
  refine ⟨_, _, rfl, rfl, _, rfl, by omega, by omega, ?_⟩
  have bC : ∀ {H' : Hp} {fs : List FCol}, FSt H2 H' kf d s p1 p2 ks ns tl fs → ColsAt H' cols cl := fun S => C.but D (b2.trans S.b)
  have e3 : ∀ {H' : Hp} {fs : List FCol}, FSt H2 H' kf d s p1 p2 ks ns tl fs → H' pk = some (.lst (ks.map fun c => .ref c.1)) := fun S => S.b _ _ npk epk
  refine for_range (fun i σ H' => ∃ y3 y6 y7 y8 y9 y10 y11 fs, σ = [some (.ref d), some (.ref cols), some (.ref pk), y3, some (.ref p1), some (.ref p2), y6, y7, y8, y9, y10, y11] ∧ FSt H2 H' kf d s p1 p2 ks ns tl fs ∧ fs.length ≤ i ∧ (0 < i → fs ≠ [])) ⟨none, none, none, none, none, none, none, [], rfl, S1, Nat.le_refl _, fun h => absurd h (Nat.lt_irrefl _)⟩ ?_ ?_
  · rintro i σ H3 hi ⟨y3, y6, y7, y8, y9, y10, y11, fs, rfl, S3, hl, hz⟩
    obtain ⟨n3, D3⟩ := S3.dr
    refine ⟨_, rfl, z6, fun q1 hq1 => ?_⟩
    have S4 := S3.new (o := .tup (folds6.map V.str)) hq1
    obtain ⟨n4, D4⟩ := S4.dr
    refine ⟨d, s, q1, ns, tl, _, folds6.map V.str, rfl, D4, (ne_of_none D3.at_d hq1).symm, .inr (SqT.of upd_same), (by intro z; cases z), fun v1 H5 hv1 b5 D5 => ?_⟩
    have S5 := S4.step b5 D5
    obtain ⟨op, hop, rfl⟩ := mem_strs (l := folds6) hv1
    clear S4 D4 b5 S3 D3 hq1 hv1
    refine ⟨fun σ H' => ∃ y10 tv oe k, σ = [some (.ref d), some (.ref cols), some (.ref pk), y3, some (.ref p1), some (.ref p2), some (.int ((0 : Int) + (i : Nat))), some (.str op), some tv, some (.str (kW k)), y10, y11] ∧ FSt H2 H' kf d s p1 p2 ks ns tl fs ∧ FTold H' kf op tv k oe, ?_, ?_⟩
    · refine ⟨_, rfl, rfl, _, rfl, ite2 (fun c => ?_) (fun c => ?_)⟩
      · refine ⟨z2, fun t ht => ⟨t, _, rfl, SqT.of upd_same, rfl, _, _, rfl, _, _, rfl, rfl, ?_⟩⟩
        exact ⟨_, .non, none, true, rfl, S5.new ht, by have := of_decide_eq_true c; injection this, rfl, rfl⟩
      · obtain ⟨n5, D5'⟩ := S5.dr
        refine ⟨_, rfl, _, rfl, d, s, cols, cl, kf, ns, tl, _, 1, rfl, D5', bC S5, hk, by decide, rfl, fun v e n6 H6 ke de xe b6 D6 => ?_⟩
        have S6 := S5.step b6 D6
        refine ⟨z2, fun t ht => ⟨t, _, rfl, SqT.of upd_same, rfl, _, _, rfl, _, _, rfl, rfl, ?_⟩⟩
        exact ⟨_, v, some e, true, rfl, S6.new ht, fun e' => c (decide_eq_true (by rw [e'])), xe.keep fun a xs z => same_upd ht _ _ z, ke, de, fun _ => rfl⟩
    clear S5 D5 y10
    rintro σ H6 ⟨y10, tv, oe, k, rfl, S6, T6⟩
    refine ⟨fun σ H' => ∃ y10 tv oe k, σ = [some (.ref d), some (.ref cols), some (.ref pk), y3, some (.ref p1), some (.ref p2), some (.int ((0 : Int) + (i : Nat))), some (.str op), some tv, some (.str (kW k)), y10, y11] ∧ FSt H2 H' kf d s p1 p2 ks ns tl fs ∧ FTold H' kf op tv k oe, ?_, ?_⟩
    · refine ⟨_, rfl, z3, fun q2 hq2 => ?_⟩
      have S7 := S6.new (o := .tup ((["least", "unlike", "greatest"] : List Str).map V.str)) hq2
      have T7 := T6.keep (H' := upd H6 q2 (.tup ((["least", "unlike", "greatest"] : List Str).map V.str))) fun a xs z => same_upd hq2 _ _ z
      refine ⟨q2, (["least", "unlike", "greatest"] : List Str).map V.str, rfl, .inr (SqT.of upd_same), rfl, flat_strs _, _, rfl, in_strs (fun hin => ?_) (fun hin => iteF ?_)⟩
      · obtain ⟨n7, D7⟩ := S7.dr
        refine ⟨_, rfl, d, s, ns, tl, _, _, rfl, D7, (by show (0 : Int) < 2; decide), fun r2 H8 _ _ b8 D8 => ?_⟩
        have S8 := S7.step b8 D8
        refine ⟨rfl, _, rfl, ite2 (fun c => ?_) (fun c => ?_)⟩
        · refine ⟨_, rfl, _, rfl, d, s, cols, ns, tl, _, _, rfl, D8, cne, .inl (SqL.of (bC S8).all), clne, fun v H9 hv b9 D9 => ?_⟩
          have S9 := S8.step b9 D9
          obtain ⟨⟨a, x, kb⟩, hc, rfl⟩ := List.mem_map.mp hv
          refine ⟨a, _, rfl, SqT.of ((bC S9).each _ hc), rfl, _, _, rfl, _, _, rfl, rfl, ?_⟩
          refine ⟨_, rfl, z2, fun t ht => ?_⟩
          exact ⟨_, .ref t, some (.col x), kb, rfl, S9.new ht, fun e => by rw [e] at hin; revert hin; decide +kernel, ⟨t, rfl, upd_same⟩, .col (hk _ hc), by show 1 ≤ 3; omega, fun hno => absurd hin hno⟩
        · exact ⟨_, tv, oe, k, rfl, S8, T7.keep (b8.tup D7.at_d)⟩
      · exact ⟨_, tv, oe, k, rfl, S7, T7⟩
    clear S6 T6 y10 tv oe k
    rintro σ H7 ⟨y10, tv, oe, k, rfl, S7, T7⟩
    obtain ⟨fn, fl⟩ := f_name (i := i) (by omega)
    have m3 : ∀ {g : FCol → V}, (fs.map g).length < sizeLine := by
      intro g
      rw [List.length_map]
      exact Nat.lt_of_le_of_lt (show _ ≤ 3 by omega) (by decide)
    have m9 : ((ks.map fun c => V.ref c.1) ++ fs.map fun m => V.ref m.col).length < sizeLine := by
      rw [List.length_append, List.length_map, List.length_map]
      exact Nat.lt_of_le_of_lt (show _ ≤ 1003 by omega) (by decide)
    refine ⟨_, rfl, .inl ⟨rfl, _, SqL.of S7.e1⟩, _, rfl, _, rfl, _, rfl, _, rfl, log_num (by omega), "f", _, rfl, rfl, fl, ?_⟩
    refine ⟨z3, fun t1 ht1 => ?_⟩
    have S8 := S7.new (o := .tup [.str op, tv, .str ("f" ++ Str.ofString (toString ((0 : Int) + (i : Nat))))]) ht1
    refine ⟨p1, _, _, rfl, rfl, S8.e1, m3, ?_⟩
    refine ⟨_, rfl, .inl ⟨rfl, _, SqL.of (by rw [upd_ne S8.ne.symm]; exact S8.e2)⟩, _, rfl, _, rfl, log_num (by omega), "f", _, rfl, rfl, fl, ?_⟩
    generalize ("f" : Str) ++ Str.ofString (toString ((0 : Int) + (i : Nat))) = z at fn S8 ⊢
    have fin : ∀ {H' : Hp} {t2 : Addr}, FSt H2 H' kf d s p1 p2 ks ns tl fs → FTold H' kf op tv k oe → H' t1 = some (.tup [.str op, tv, .str z]) → H' t2 = some (.tup [.str z, .str (kW (lateK op k))]) →
        FSt H2 (upd (upd H' p1 (.lst ((fs.map fun m => .ref m.det) ++ [.ref t1]))) p2 (.lst (((ks.map fun c => .ref c.1) ++ fs.map fun m => .ref m.col) ++ [.ref t2]))) kf d s p1 p2 ks ns tl (fs ++ [⟨t1, t2, op, tv, oe, k, z⟩]) := fun {H' t2} S T e1 e2 => S.add (m := ⟨t1, t2, op, tv, oe, k, z⟩) ⟨e1, e2, T, hop, fn⟩
    have T8 := T7.keep (H' := upd H7 t1 (.tup [.str op, tv, .str z])) fun a xs e => same_upd ht1 _ _ e
    have et1 : upd H7 t1 (.tup [.str op, tv, .str z]) t1 = some (.tup [.str op, tv, .str z]) := upd_same
    generalize upd H7 t1 (.tup [.str op, tv, .str z]) = H8 at S8 T8 et1 ⊢
    clear S7 T7 ht1
    refine ⟨_, rfl, z2, fun q3 hq3 => ?_⟩
    have nq3 : p1 ≠ q3 := ne_of_none upd_same hq3
    have hq3' : H8 q3 = none := by
      rw [upd_ne nq3.symm] at hq3
      exact hq3
    rw [upd_comm nq3]
    have S9 := S8.new (o := .tup [.str "least", .str "greatest"]) hq3'
    have T9 := T8.keep (H' := upd H8 q3 (.tup [.str "least", .str "greatest"])) fun a xs e => same_upd hq3' _ _ e
    have et9 := same_upd (o := .tup [.str "least", .str "greatest"]) hq3' _ _ et1
    have eq9 : upd (upd H8 q3 (.tup [.str "least", .str "greatest"])) p1 (.lst ((fs.map fun m => .ref m.det) ++ [.ref t1])) q3 = some (.tup [.str "least", .str "greatest"]) := by
      rw [upd_ne nq3.symm]
      exact upd_same
    refine ⟨q3, (["least", "greatest"] : List Str).map V.str, rfl, .inr (SqT.of eq9), rfl, flat_strs _, _, rfl, ?_⟩
    generalize upd H8 q3 (.tup [.str "least", .str "greatest"]) = H9 at S9 T9 et9 eq9 ⊢
    clear S8 T8 et1 hq3' hq3 nq3 eq9
    refine in_strs (fun hin => ⟨_, rfl, z2, fun t2 ht2 => ?_⟩) (fun hin => ⟨z2, fun t2 ht2 => ?_⟩)
    · have nt2 : p1 ≠ t2 := ne_of_none upd_same ht2
      have ht2' : H9 t2 = none := by
        rw [upd_ne nt2.symm] at ht2
        exact ht2
      rw [upd_comm nt2]
      have S10 := S9.new (o := .tup [.str z, .str (kW k)]) ht2'
      refine ⟨p2, _, _, rfl, rfl, by rw [upd_ne S10.ne.symm]; exact S10.e2, m9, ?_⟩
      have lk : lateK op k = k := if_pos hin
      exact ⟨_, _, _, _, _, _, _, _, rfl, fin S10 (T9.keep fun a xs e => same_upd ht2' _ _ e) (same_upd ht2' _ _ et9) (by rw [lk]; exact upd_same), by rw [List.length_append]; show fs.length + 1 ≤ i + 1; omega, fun _ h => by cases fs <;> cases h⟩
    · have nt2 : p1 ≠ t2 := ne_of_none upd_same ht2
      have ht2' : H9 t2 = none := by
        rw [upd_ne nt2.symm] at ht2
        exact ht2
      rw [upd_comm nt2]
      have S10 := S9.new (o := .tup [.str z, .str "int"]) ht2'
      refine ⟨p2, _, _, rfl, rfl, by rw [upd_ne S10.ne.symm]; exact S10.e2, m9, ?_⟩
      have lk : lateK op k = true := if_neg hin
      exact ⟨_, _, _, _, _, _, _, _, rfl, fin S10 (T9.keep fun a xs e => same_upd ht2' _ _ e) (same_upd ht2' _ _ et9) (by rw [lk]; exact upd_same), by rw [List.length_append]; show fs.length + 1 ≤ i + 1; omega, fun _ h => by cases fs <;> cases h⟩
  · rintro σ H3 ⟨y3, y6, y7, y8, y9, y10, y11, fs, rfl, S3, hl, hz⟩
    have hl3 : fs.length ≤ 3 := by omega
    have hfs : fs ≠ [] := hz (by omega)
    -- names
    obtain ⟨prs, eprs, enm⟩ : ∃ prs : List (Addr × Str), prs = (ks.map fun c => (c.1, c.2.1)) ++ fs.map (fun m => (m.col, m.name)) ∧ prs.map (·.2) = (ks.map fun c => c.2.1) ++ fs.map FCol.name := ⟨_, rfl, by rw [List.map_append, List.map_map, List.map_map]; rfl⟩
    have er : (ks.map fun c => V.ref c.1) ++ (fs.map fun m => V.ref m.col) = prs.map fun p => V.ref p.1 := by
      rw [eprs, List.map_append, List.map_map, List.map_map]
      rfl
    have lp : prs.length ≤ 1003 := by
      rw [eprs, List.length_append, List.length_map, List.length_map]
      omega
    have each : ∀ p ∈ prs, ∃ u, H3 p.1 = some (.tup [.str p.2, u]) := fun p hp => by
      rw [eprs] at hp
      rcases List.mem_append.mp hp with hp | hp
      · obtain ⟨c, hc, rfl⟩ := List.mem_map.mp hp
        exact ⟨_, (bC S3).each c (sub c hc)⟩
      · obtain ⟨m, hm, rfl⟩ := List.mem_map.mp hp
        exact ⟨_, (S3.each m hm).at_col⟩
    have e2 := S3.e2
    rw [er] at e2
    refine ⟨_, rfl, p2, rfl, ⟨_, SqL.of e2⟩, fun D4 hD4 => lc_list (K := K) (a := p2) (xs := prs.map fun p => .ref p.1) (fun i H' => Same H3 H' ∧ H' D4 = some (.lst (((prs.map (·.2)).take i).map V.str))) ⟨same_upd hD4, upd_same⟩ (fun i H' _ h => SqL.of (h.1 _ _ e2)) ?_ ?_⟩
    · rintro i x H' hx ⟨sm, e⟩
      rw [List.getElem?_map] at hx
      obtain ⟨p, hp, rfl⟩ := Option.map_eq_some_iff.mp hx
      obtain ⟨u, eu⟩ := each p (List.mem_of_getElem? hp)
      refine ⟨p.1, _, rfl, SqT.of (sm _ _ eu), rfl, _, _, rfl, _, _, rfl, rfl, rfl, _, rfl, _, e, ?_, fun b o' e' => ?_, ?_⟩
      · rw [List.length_map, List.length_take, List.length_map]
        exact Nat.lt_of_le_of_lt (show _ ≤ 1003 by omega) (by decide)
      · rw [upd_ne (ne_of_none e' hD4)]
        exact sm _ _ e'
      · have h1 : (prs.map (·.2)).take (i + 1) = (prs.map (·.2)).take i ++ [p.2] := by
          rw [List.take_add_one, List.getElem?_map, hp]
          rfl
        rw [h1, List.map_append]
        exact upd_same
    rintro H4 ⟨s4, e4⟩
    rw [List.length_map, List.take_of_length_le (by rw [List.length_map]; exact Nat.le_refl _), enm] at e4
    obtain ⟨n3, D3⟩ := S3.dr
    have S4 := S3.step (same_but s4) (D3.keep s4)
    clear each e2 er S3 D3 s4
    have ek : (((ks.map fun c => c.2.1) ++ fs.map FCol.name).map (fun x => (Sum.inr x : L2.Key))).map kV = ((ks.map fun c => c.2.1) ++ fs.map FCol.name).map V.str := by
      rw [List.map_map]
      rfl
    refine ⟨_, rfl, D4, ((ks.map fun c => c.2.1) ++ fs.map FCol.name).map (fun x => (Sum.inr x : L2.Key)), rfl, .inl (SqL.of (by rw [ek]; exact e4)), ?_, fun p M nM mM hp => ?_⟩
    · rw [List.length_map, List.length_append, List.length_map, List.length_map]
      omega
    have S5 := S4.new (o := Yk.SetKO P w p M) hp
    have e5 := same_upd (o := Yk.SetKO P w p M) hp _ _ e4
    have z1 : 1 ≤ sizeLine := by decide
    refine ⟨p, M, rfl, upd_same, _, rfl, D4, _, rfl, .inl (SqL.of e5), _, _, rfl, rfl, _, rfl, ite2 (fun c => ?_) (fun c => ?_)⟩
    · refine ⟨Nat.zero_le _, fun e0 h0 => ⟨z3, fun x hx => ⟨z1, fun y hy => ⟨z2, fun zt hzt => ⟨z2, fun wt hwt => ⟨z1, fun l hl => ⟨z2, fun rr hrr => ?_⟩⟩⟩⟩⟩⟩⟩
      have S12 := ((((((S5.new (o := .tup []) h0).new (o := .tup [.str "count", .non, .str "c"]) hx).new (o := .tup [.ref x]) hy).new (o := .tup [.ref e0, .ref y]) hzt).new (o := .tup [.str "c", .str "int"]) hwt).new (o := .lst [.ref wt]) hl).new (o := .tup [.ref zt, .ref l]) hrr
      obtain ⟨n12, D12⟩ := S12.dr
      have u1 := same_upd (o := .tup [.ref zt, .ref l]) hrr
      have u2 := (same_upd (o := .lst [.ref wt]) hl).trans u1
      have u3 := (same_upd (o := .tup [.str "c", .str "int"]) hwt).trans u2
      have u4 := (same_upd (o := .tup [.ref e0, .ref y]) hzt).trans u3
      have u5 := (same_upd (o := .tup [.ref x]) hy).trans u4
      have u6 := (same_upd (o := .tup [.str "count", .non, .str "c"]) hx).trans u5
      exact q rr zt e0 y l [] [⟨x, wt, "count", .non, none, true, "c"⟩] n12 _ upd_same (u3 _ _ upd_same) (u6 _ _ upd_same) (u4 _ _ upd_same) (u1 _ _ upd_same) (fun c hc => absurd hc List.not_mem_nil)
        (fun m hm => by
          rw [List.mem_singleton.mp hm]
          exact ⟨u5 _ _ upd_same, u2 _ _ upd_same, ⟨rfl, rfl, rfl⟩, (show ("count" : Str) ∈ folds6 by decide +kernel), (show ("c" : Str) ∈ fnames by decide +kernel)⟩) (List.nodup_cons.mpr ⟨List.not_mem_nil, List.nodup_nil⟩) (by intro z; cases z) (show 1 ≤ 3 by decide) (b2.trans S12.b) D12
    · have hnd : ((ks.map fun c => c.2.1) ++ fs.map FCol.name).Nodup := nodup_strs (len_nodup nM mM (by
        have h1 : ¬ ((M.length : Nat) : Int) < (((((ks.map fun c => c.2.1) ++ fs.map FCol.name).map V.str).length : Nat) : Int) := fun z => c (decide_eq_true z)
        rw [List.length_map] at h1 ⊢
        omega))
      have ek5 := e3 S5
      have C5 := bC S5
      obtain ⟨n5, D5⟩ := S5.dr
      refine ⟨_, rfl, pk, rfl, ⟨_, SqL.of ek5⟩, fun D6 hD6 => lc_list (K := K) (a := pk) (xs := ks.map fun c => .ref c.1) (fun i H' => Same (upd H4 p (Yk.SetKO P w p M)) H' ∧ H' D6 = some (.lst (((ks.map fun c => c.2.1).take i).map V.str))) ⟨same_upd hD6, upd_same⟩ (fun i H' _ h => SqL.of (h.1 _ _ ek5)) ?_ ?_⟩
      · rintro i x H' hx ⟨sm, e⟩
        rw [List.getElem?_map] at hx
        obtain ⟨p, hp, rfl⟩ := Option.map_eq_some_iff.mp hx
        have eu := C5.each p (sub p (List.mem_of_getElem? hp))
        refine ⟨p.1, _, rfl, SqT.of (sm _ _ eu), rfl, _, _, rfl, _, _, rfl, rfl, rfl, _, rfl, _, e, ?_, fun b o' e' => ?_, ?_⟩
        · rw [List.length_map, List.length_take, List.length_map]
          exact Nat.lt_of_le_of_lt (show _ ≤ 1003 by omega) (by decide)
        · rw [upd_ne (ne_of_none e' hD6)]
          exact sm _ _ e'
        · have h1 : (ks.map fun c => c.2.1).take (i + 1) = (ks.map fun c => c.2.1).take i ++ [p.2.1] := by
            rw [List.take_add_one, List.getElem?_map, hp]
            rfl
          rw [h1, List.map_append]
          exact upd_same
      rintro H6 ⟨s6, e6⟩
      rw [List.length_map, List.take_of_length_le (by rw [List.length_map]; exact Nat.le_refl _), List.map_map] at e6
      have S6 := S5.step (same_but s6) (D5.keep s6)
      refine ⟨D6, _, rfl, .inl ⟨SqL.of e6, fun kt hkt => ?_⟩⟩
      have S7 := S6.new (o := .tup (ks.map (V.str ∘ fun c => c.2.1))) hkt
      refine ⟨_, rfl, p1, _, rfl, .inl ⟨SqL.of S7.e1, fun ft hft => ?_⟩⟩
      have S8 := S7.new (o := .tup (fs.map fun m => .ref m.det)) hft
      refine ⟨z2, fun t ht => ⟨_, rfl, z2, fun rr hrr => ?_⟩⟩
      have S9 := (S8.new (o := .tup [.ref kt, .ref ft]) ht).new (o := .tup [.ref t, .ref p2]) hrr
      obtain ⟨n9, D9⟩ := S9.dr
      have u1 := same_upd (o := .tup [.ref t, .ref p2]) hrr
      have u2 := (same_upd (o := .tup [.ref kt, .ref ft]) ht).trans u1
      have u3 := (same_upd (o := .tup (fs.map fun m => .ref m.det)) hft).trans u2
      exact q rr t kt ft p2 ks fs n9 _ upd_same (u1 _ _ upd_same) (u3 _ _ upd_same) (u2 _ _ upd_same) S9.e2 sub S9.each hnd hfs hl3 (b2.trans S9.b) D9
end
end Kx

namespace Kx
open PySem PySem.Spec PyProof.Rows L2
abbrev NC : Type := Str × Bool
def colD (c : NC) : PyData := .tuple [.str c.1, .str (kW c.2)]
theorem kW_inj {a b : Bool} (h : kW a = kW b) : a = b := by
  cases a <;> cases b <;> first | rfl | (exfalso; revert h; decide +kernel)
theorem colD_eqv (a b : NC) : PyData.eqv (colD a) (colD b) = decide (a = b) := by
  show ((a.1 == b.1) && ((kW a.2 == kW b.2) && true)) = _
  rw [Bool.and_true]
  by_cases h : a = b
  · rw [h, decide_eq_true rfl, beq_self_eq_true, beq_self_eq_true]
    rfl
  · rw [decide_eq_false h]
    by_cases h1 : a.1 = b.1
    · have h2 : ¬ kW a.2 = kW b.2 := fun e => h (Prod.ext h1 (kW_inj e))
      rw [beq_eq_false_iff_ne.mpr h2, Bool.and_false]
    · rw [beq_eq_false_iff_ne.mpr h1]
      rfl
theorem any_col (c : NC) : ∀ l : List NC, (l.map colD).any (fun z => PyData.eqv z (colD c)) = decide (c ∈ l)
  | [] => by simp
  | a :: l => by
    rw [List.map_cons, List.any_cons, colD_eqv, any_col c l]
    by_cases h : a = c
    · simp [h]
    · have h' : ¬ c = a := fun e => h e.symm
      simp [h, h']
theorem colD_ok {c : NC} (h : PyData.canLay0 (.str c.1) = true) : PyData.canLay0 (colD c) = true := by
  show (PyData.canLay0 (.str c.1) && (PyData.canLay0 (.str (kW c.2)) && true)) = true
  rw [h]
  cases c.2 <;> decide +kernel
theorem colsD_ok : ∀ l : List NC, (∀ c ∈ l, PyData.canLay0 (.str c.1) = true) → PyData.canLayAll0 (l.map colD) = true
  | [], _ => rfl
  | c :: l, h => by
    show (PyData.canLay0 (colD c) && PyData.canLayAll0 (l.map colD)) = true
    rw [colD_ok (h c List.mem_cons_self), colsD_ok l fun x hx => h x (List.mem_cons_of_mem _ hx)]
    rfl
theorem colsD_dep : ∀ l : List NC, PyData.depthAll (l.map colD) ≤ 1
  | [] => Nat.zero_le _
  | c :: l => by
    show max (PyData.depth (colD c)) (PyData.depthAll (l.map colD)) ≤ 1
    exact Nat.max_le.mpr ⟨Nat.le_refl 1, colsD_dep l⟩
theorem colD_sh {c : NC} (h : PyData.canLay0 (.str c.1) = true) : SeqAt.shaped (colD c) = true := by
  show (PyData.canLay0 (colD c) && decide (PyData.depth (colD c) ≤ 64)) = true
  rw [colD_ok h]
  rfl
theorem colsD_sh {l : List NC} (h : ∀ c ∈ l, PyData.canLay0 (.str c.1) = true) : SeqAt.shaped (.list (l.map colD)) = true := by
  have d := colsD_dep l
  show (PyData.canLayAll0 (l.map colD) && decide (PyData.depthAll (l.map colD) + 1 ≤ 64)) = true
  rw [colsD_ok l h, decide_eq_true (by omega)]
  rfl
def PairsAt (H : Hp) (cl : List Col) : Prop := ∀ c ∈ cl, H c.1 = some (.tup [.str c.2.1, .str (kW c.2.2)])
theorem col_dp {K : PySem.W.Frag} {H : Hp} {c : Col} (h : H c.1 = some (.tup [.str c.2.1, .str (kW c.2.2)])) : Dp K H (.ref c.1) (colD c.2) := .tup (SqT.of h) (.cons (.str _) (.cons (.str _) .nil))
theorem cols_dpA {K : PySem.W.Frag} {H : Hp} : ∀ {cl : List Col}, PairsAt H cl → DpAll K H (cl.map fun c => .ref c.1) ((cl.map (·.2)).map colD)
  | [], _ => .nil
  | c :: cl, h => .cons (col_dp (h c List.mem_cons_self)) (cols_dpA fun x hx => h x (List.mem_cons_of_mem _ hx))
theorem cols_dp {K : PySem.W.Frag} {H : Hp} {a : Addr} {cl : List Col} (e : H a = some (.lst (cl.map fun c => .ref c.1))) (h : PairsAt H cl) : Dp K H (.ref a) (.list ((cl.map (·.2)).map colD)) := .lst (SqL.of e) (cols_dpA h)
/-- a table that the law knows: where its columns' list stands -/
structure Tab (H : Hp) (a : Addr) (cl : List Col) : Prop where
  cols : ColsAt H a cl
  nod : (cl.map fun c => c.2.1).Nodup
  inn : ∀ c ∈ cl, c.2.1 ∈ allNames
  ne : cl ≠ []
theorem Tab.few {H : Hp} {a : Addr} {cl : List Col} (T : Tab H a cl) : cl.length ≤ 24 := by
  have := few_names T.nod fun x hx => by
    obtain ⟨c, hc, rfl⟩ := List.mem_map.mp hx
    exact T.inn c hc
  rw [List.length_map] at this
  exact this
theorem all_ok : ∀ x ∈ allNames, PyData.canLay0 (.str x) = true := by decide +kernel
theorem Tab.keep {H H' : Hp} {a : Addr} {cl : List Col} (T : Tab H a cl) (h : Same H H') : Tab H' a cl := ⟨T.cols.keep h, T.nod, T.inn, T.ne⟩
theorem Tab.but {H H' : Hp} {a d s : Addr} {cl : List Col} {ns : List Int} {tl : List V} {n : Int} (T : Tab H a cl) (D : DrawAt H d s ns tl n) (h : But d H H') : Tab H' a cl := ⟨T.cols.but D h, T.nod, T.inn, T.ne⟩
/-- what the law knows: names, where their columns stand, the columns -/
abbrev Knw : Type := List (Str × Addr × List Col)
structure KnowsAt (H : Hp) (kd g : Addr) (kn : Knw) : Prop where
  at_k : H kd = some (.dK (kn.map fun e => (.inr e.1, .ref e.2.1)))
  tabs : ∀ e ∈ kn, Tab H e.2.1 e.2.2
  nod : (kn.map (·.1)).Nodup
  few : kn.length ≤ 40
  sizes : ∃ kvs : List (L2.Key × V), H g = some (.dK kvs) ∧ kvs.length ≤ 40 ∧ ∀ e ∈ kn, ∃ j : Int, valV kvs (.inr e.1) = some (.int j) ∧ 0 ≤ j ∧ j ≤ 400
  nms : ∀ e ∈ kn, PyData.canLay0 (.str e.1) = true
theorem KnowsAt.keep {H H' : Hp} {kd g : Addr} {kn : Knw} (k : KnowsAt H kd g kn) (h : Same H H') : KnowsAt H' kd g kn := by
  obtain ⟨kvs, h1, h2⟩ := k.sizes
  exact ⟨h _ _ k.at_k, fun e he => (k.tabs e he).keep h, k.nod, k.few, ⟨kvs, h _ _ h1, h2⟩, k.nms⟩
theorem KnowsAt.but {H H' : Hp} {kd g d s : Addr} {kn : Knw} {ns : List Int} {tl : List V} {n : Int} (k : KnowsAt H kd g kn) (D : DrawAt H d s ns tl n) (h : But d H H') : KnowsAt H' kd g kn := by
  obtain ⟨kvs, h1, h2⟩ := k.sizes
  have nd : ∀ {a : Addr} {q : List (L2.Key × V)}, H a = some (.dK q) → a ≠ d := fun e z => by
    rw [z, D.at_d] at e
    cases e
  exact ⟨h _ _ (nd k.at_k) k.at_k, fun e he => (k.tabs e he).but D h, k.nod, k.few, ⟨kvs, h _ _ (nd h1) h1, h2⟩, k.nms⟩
theorem val_key {α : Type} {f : α → V} {nm : α → Str} : ∀ {l : List α}, (l.map nm).Nodup → ∀ {e : α}, e ∈ l → valV (l.map fun e => ((.inr (nm e) : L2.Key), f e)) (.inr (nm e)) = some (f e)
  | [], _, e, h => absurd h List.not_mem_nil
  | x :: l, hn, e, h => by
    unfold valV
    rw [List.map_cons, List.find?_cons]
    by_cases hx : nm x = nm e
    · have hxe : x = e := by
        rcases List.mem_cons.mp h with rfl | h
        · rfl
        · exact absurd (by rw [hx]; exact List.mem_map.mpr ⟨e, h, rfl⟩) (List.nodup_cons.mp hn).1
      rw [decide_eq_true (show (Sum.inr (nm x) : L2.Key) = Sum.inr (nm e) by rw [hx]), hxe]
      rfl
    · rw [decide_eq_false (show ¬ (Sum.inr (nm x) : L2.Key) = Sum.inr (nm e) from fun z => hx (Sum.inr.inj z))]
      have hl : e ∈ l := by
        rcases List.mem_cons.mp h with rfl | h
        · exact absurd rfl hx
        · exact h
      exact val_key (List.nodup_cons.mp hn).2 hl
theorem KnowsAt.get {H : Hp} {kd g : Addr} {kn : Knw} (k : KnowsAt H kd g kn) {e : Str × Addr × List Col} (he : e ∈ kn) : DGet H kd (.str e.1) (some (.ref e.2.1)) := by
  have := val_key (f := fun e : Str × Addr × List Col => V.ref e.2.1) (nm := fun e => e.1) k.nod he
  exact this ▸ DGet.k (k := .inr e.1) k.at_k
def joinC (f s k : List NC) : List NC := k ++ (f.filter (fun c => decide (c ∉ k)) ++ s.filter fun c => decide (c ∉ k))
theorem filt_yes {P : Col → Bool} {cl : List Col} {i : Nat} {c : Col} (h : cl[i]? = some c) (hp : P c = true) : (cl.take (i + 1)).filter P = (cl.take i).filter P ++ [c] := by
  rw [take_at h, List.filter_append, List.filter_cons, hp]
  rfl
theorem filt_no {P : Col → Bool} {cl : List Col} {i : Nat} {c : Col} (h : cl[i]? = some c) (hp : P c = false) : (cl.take (i + 1)).filter P = (cl.take i).filter P := by
  rw [take_at h, List.filter_append, List.filter_cons, hp]
  show _ ++ [] = _
  rw [List.append_nil]
theorem filt_len {P : Col → Bool} (cl : List Col) : (cl.filter P).length ≤ cl.length := List.length_filter_le _ _
theorem cut_nat (xs : List V) (m : Nat) : cutV xs none (some (m : Int)) = xs.take m := by
  unfold cutV
  rw [HT.sIx_none, HT.sIx_nat, List.drop_zero, Nat.sub_zero]
  by_cases h : m ≤ xs.length
  · rw [Nat.min_eq_left h]
  · rw [Nat.min_eq_right (by omega), List.take_length, List.take_of_length_le (by omega)]
theorem room65 {k : Nat} {A : Around} (r : Room k A) : A.units + 65 < cLine := by
  have := r.un
  omega
section
variable {P : Program} {w : World} {K : PySem.W.Frag} {mg : Str → Option Value} {base : Heap}
/-! ### _law_join -/
abbrev N_law_join : List Str := ["draw", "known", "one", "other", "first", "second", "keys", "pair", "rest", "names", "name", "kind"]
def spJoin : Sp := fun vs H Q _ => ∃ (d s kd g : Addr) (kn : Knw) (one : Str) (a1 : Addr) (c1 : List Col) (ns : List Int) (n : Int), vs = [.ref d, .ref kd, .str one] ∧ DrawAt H d s ns [.ref g] n ∧ KnowsAt H kd g kn ∧ (one, a1, c1) ∈ kn ∧
  (∀ (r : Addr) (n' : Int) (H' : Hp), H' r = some (.tup [.non, .non]) → But d H H' → DrawAt H' d s ns [.ref g] n' → Q (.ref r) H') ∧
  ∀ (r t kt f a2 : Addr) (other : Str) (c2 ks cl : List Col) (n' : Int) (H' : Hp), H' r = some (.tup [.ref t, .ref f]) → H' t = some (.tup [.str other, .ref kt]) → H' kt = some (.tup (ks.map fun c => .str c.2.1)) → (other, a2, c2) ∈ kn → Tab H' f cl → ks ≠ [] →
    (∀ c ∈ ks, c ∈ c1 ∧ c.2 ∈ c2.map (·.2)) → cl.map (·.2) = joinC (c1.map (·.2)) (c2.map (·.2)) (ks.map (·.2)) → (∀ kvs x y, H g = some (.dK kvs) → valV kvs (.inr one) = some (.int x) → valV kvs (.inr other) = some (.int y) → x * y ≤ 400) → But d H H' → DrawAt H' d s ns [.ref g] n' → Q (.ref r) H'
end
end Kx

set_option maxHeartbeats 8000000
namespace Kx
open PySem PySem.Spec PyProof.Rows L2
/-! ### jobs as data -/
abbrev MC : Type := Ex × Bool × Str
abbrev FC : Type := Str × Option Ex × Bool × Str
inductive Det where
  | read (cs : List NC)
  | filter (e : Ex)
  | map (ms : List MC)
  | fold (ks : List NC) (fs : List FC)
  | join (ks : List NC)
  | union
  | unlike
  | sort (ws : List (Str × Str)) (m : Int)
def Det.what : Det → Str
  | .read _ => "read"
  | .filter _ => "filter"
  | .map _ => "map"
  | .fold _ _ => "fold"
  | .join _ => "join"
  | .union => "union"
  | .unlike => "unlike"
  | .sort _ _ => "sort"
def FTo (H : Hp) (told : V) : Option Ex → Prop
  | none => told = .non
  | some e => ExAt H told e
/-- a tuple of which it is known that it has no dict of its own -/
def TupF (H : Hp) (a : Addr) (xs : List V) : Prop := ∃ o : Obj, o.dict = none ∧ H a = some (.frz o (.tup xs))
theorem TupF.sq {K : PySem.W.Frag} {H : Hp} {a : Addr} {xs : List V} (t : TupF H a xs) : SqT K H a xs := let ⟨o, _, e⟩ := t; .inl (.inr ⟨o, e⟩)
abbrev KeepF (H H' : Hp) : Prop := ∀ (a : Addr) (xs : List V), TupF H a xs → TupF H' a xs
theorem same_f {H H' : Hp} (h : Same H H') : KeepF H H' := fun a xs ⟨o, d, e⟩ => ⟨o, d, h _ _ e⟩
theorem But.tupF {H H' : Hp} {d : Addr} {l : List V} (h : But d H H') (hd : H d = some (.lst l)) : KeepF H H' := fun a xs ⟨o, dn, e⟩ => ⟨o, dn, h a _ (fun q => by rw [q, hd] at e; cases e) e⟩
def DetAt (H : Hp) (v : V) : Det → Prop
  | .read cs => ∃ (t : Addr) (as : List Col), v = .ref t ∧ TupF H t (as.map fun c => .ref c.1) ∧ PairsAt H as ∧ as.map (·.2) = cs
  | .filter e => ExAt H v e
  | .map ms => ∃ (t : Addr) (as : List (Addr × MC)), v = .ref t ∧ H t = some (.tup (as.map fun p => .ref p.1)) ∧ (∀ p ∈ as, ∃ told, H p.1 = some (.tup [told, .str p.2.2.2]) ∧ ExAt H told p.2.1) ∧ as.map (·.2) = ms
  | .fold ks fs => ∃ (t kt ft : Addr) (as : List (Addr × FC)), v = .ref t ∧ H t = some (.tup [.ref kt, .ref ft]) ∧ H kt = some (.tup (ks.map fun k => .str k.1)) ∧ H ft = some (.tup (as.map fun p => .ref p.1)) ∧ (∀ p ∈ as, ∃ told, H p.1 = some (.tup [.str p.2.1, told, .str p.2.2.2.2]) ∧ FTo H told p.2.2.1) ∧ as.map (·.2) = fs
  | .join ks => ∃ t : Addr, v = .ref t ∧ H t = some (.tup (ks.map fun k => .str k.1))
  | .union => ∃ t : Addr, v = .ref t ∧ H t = some (.tup [])
  | .unlike => ∃ t : Addr, v = .ref t ∧ H t = some (.tup [])
  | .sort ws m => ∃ (t wt : Addr) (as : List (Addr × Str × Str)), v = .ref t ∧ H t = some (.tup [.ref wt, .int m]) ∧ H wt = some (.tup (as.map fun p => .ref p.1)) ∧ (∀ p ∈ as, H p.1 = some (.tup [.str p.2.1, .str p.2.2])) ∧ as.map (·.2) = ws
abbrev KeepT (H H' : Hp) : Prop := ∀ (a : Addr) (xs : List V), H a = some (.tup xs) → H' a = some (.tup xs)
theorem FTo.keep {H H' : Hp} (h : KeepT H H') {told : V} : ∀ {o : Option Ex}, FTo H told o → FTo H' told o
  | none, q => q
  | some _, q => ExAt.keep h q
theorem DetAt.keep {H H' : Hp} (h : KeepT H H') (hf : KeepF H H') {v : V} : ∀ {d : Det}, DetAt H v d → DetAt H' v d
  | .read _, ⟨t, as, e, h1, h2, h3⟩ => ⟨t, as, e, hf _ _ h1, fun c hc => h _ _ (h2 c hc), h3⟩
  | .filter _, q => ExAt.keep h q
  | .map _, ⟨t, as, e, h1, h2, h3⟩ => ⟨t, as, e, h _ _ h1, fun p hp => let ⟨told, a, b⟩ := h2 p hp; ⟨told, h _ _ a, b.keep h⟩, h3⟩
  | .fold _ _, ⟨t, kt, ft, as, e, h1, h2, h3, h4, h5⟩ => ⟨t, kt, ft, as, e, h _ _ h1, h _ _ h2, h _ _ h3, fun p hp => let ⟨told, a, b⟩ := h4 p hp; ⟨told, h _ _ a, b.keep h⟩, h5⟩
  | .join _, ⟨t, e, h1⟩ => ⟨t, e, h _ _ h1⟩
  | .union, ⟨t, e, h1⟩ => ⟨t, e, h _ _ h1⟩
  | .unlike, ⟨t, e, h1⟩ => ⟨t, e, h _ _ h1⟩
  | .sort _ _, ⟨t, wt, as, e, h1, h2, h3, h4⟩ => ⟨t, wt, as, e, h _ _ h1, h _ _ h2, fun p hp => h _ _ (h3 p hp), h4⟩
structure Stp where
  name : Str
  ins : List Str
  det : Det
def StpAt (H : Hp) (a : Addr) (s : Stp) : Prop := ∃ (inp : Addr) (dv : V), H a = some (.tup [.str s.name, .str s.det.what, .ref inp, dv]) ∧ H inp = some (.tup (s.ins.map V.str)) ∧ DetAt H dv s.det
theorem StpAt.keep {H H' : Hp} (h : KeepT H H') (hf : KeepF H H') {a : Addr} {s : Stp} : StpAt H a s → StpAt H' a s := fun ⟨inp, dv, h1, h2, h3⟩ => ⟨inp, dv, h _ _ h1, h _ _ h2, h3.keep h hf⟩
theorem same_t {H H' : Hp} (h : Same H H') : KeepT H H' := fun a xs e => h a _ e
/-- the kind of a column, by its name -/
def kfN (cs : List NC) (x : Str) : Option Bool := (cs.find? fun c => decide (c.1 = x)).map (·.2)
theorem kfN_of : ∀ {cs : List NC}, (cs.map (·.1)).Nodup → ∀ {c : NC}, c ∈ cs → kfN cs c.1 = some c.2
  | [], _, c, h => absurd h List.not_mem_nil
  | x :: cs, hn, c, h => by
    unfold kfN
    rw [List.find?_cons]
    by_cases hx : x.1 = c.1
    · have e : x = c := by
        rcases List.mem_cons.mp h with rfl | h
        · rfl
        · exact absurd (by show x.1 ∈ _; rw [hx]; exact List.mem_map.mpr ⟨c, h, rfl⟩) (List.nodup_cons.mp hn).1
      rw [decide_eq_true hx, e]
      rfl
    · rw [decide_eq_false hx]
      have hl : c ∈ cs := by
        rcases List.mem_cons.mp h with rfl | h
        · exact absurd rfl hx
        · exact h
      exact kfN_of (List.nodup_cons.mp hn).2 hl
def FOk (cs : List NC) (m : FC) : Prop := m.1 ∈ folds6 ∧ match m.2.1 with
  | none => m.1 = "count" ∧ m.2.2.1 = true
  | some e => m.1 ≠ "count" ∧ Kind (kfN cs) e m.2.2.1 ∧ e.dep ≤ 3 ∧ (m.1 ∉ (["least", "unlike", "greatest"] : List Str) → m.2.2.1 = true)
inductive StepOk (kn : List (Str × List NC)) : List Str → Det → List NC → Prop where
  | filter {one : Str} {cs : List NC} {e : Ex} (h : (one, cs) ∈ kn) (k : Kind (kfN cs) e true) (d : e.dep ≤ 4) : StepOk kn [one] (.filter e) cs
  | map {one : Str} {cs : List NC} {ms : List MC} (h : (one, cs) ∈ kn) (k : ∀ m ∈ ms, Kind (kfN cs) m.1 m.2.1 ∧ m.1.dep ≤ 4) (nd : (ms.map (·.2.2)).Nodup) (ne : ms ≠ []) (l : ms.length ≤ 3) : StepOk kn [one] (.map ms) (ms.map fun m => (m.2.2, m.2.1))
  | fold {one : Str} {cs ks : List NC} {fs : List FC} (h : (one, cs) ∈ kn) (hk : ∀ k ∈ ks, k ∈ cs) (hf : ∀ m ∈ fs, FOk cs m) (nd : (ks.map (·.1) ++ fs.map (·.2.2.2)).Nodup) (ne : fs ≠ []) (l : fs.length ≤ 3) : StepOk kn [one] (.fold ks fs) (ks ++ fs.map fun m => (m.2.2.2, lateK m.1 m.2.2.1))
  | join {one other : Str} {f s ks : List NC} (h1 : (one, f) ∈ kn) (h2 : (other, s) ∈ kn) (ne : ks ≠ []) (hk : ∀ k ∈ ks, k ∈ f ∧ k ∈ s) (nd : ((joinC f s ks).map (·.1)).Nodup) : StepOk kn [one, other] (.join ks) (joinC f s ks)
  | union {one other : Str} {cs : List NC} (h1 : (one, cs) ∈ kn) (h2 : (other, cs) ∈ kn) : StepOk kn [one, other] .union cs
  | unlike {one : Str} {cs : List NC} (h : (one, cs) ∈ kn) : StepOk kn [one] .unlike cs
  | sort {one : Str} {cs : List NC} {ws : List (Str × Str)} {m : Int} (h : (one, cs) ∈ kn) (ne : ws ≠ []) (hw : ∀ x ∈ ws, (∃ k, (x.1, k) ∈ cs) ∧ (x.2 = "up" ∨ x.2 = "down")) (l : ws.length ≤ 2) (m1 : 1 ≤ m) (m5 : m ≤ 5) : StepOk kn [one] (.sort ws m) cs
def abs (kn : Knw) : List (Str × List NC) := kn.map fun e => (e.1, e.2.2.map (·.2))
theorem abs_mem {kn : Knw} {e : Str × Addr × List Col} (h : e ∈ kn) : (e.1, e.2.2.map (·.2)) ∈ abs kn := List.mem_map.mpr ⟨e, h, rfl⟩
def SizeOk (kvs : List (L2.Key × V)) (ins : List Str) (what : Str) : Prop := ∃ js : List Int, ins.length = js.length ∧ (∀ (i : Nat) (x : Str), ins[i]? = some x → ∃ j : Int, js[i]? = some j ∧ valV kvs (.inr x) = some (.int j)) ∧
  (what = "join" → ∃ a b : Int, js = [a, b] ∧ 0 ≤ a ∧ a ≤ 400 ∧ 0 ≤ b ∧ b ≤ 400 ∧ 0 ≤ a * b ∧ a * b ≤ 400) ∧ (what ≠ "join" → 0 ≤ js.sum ∧ js.sum ≤ 400)
theorem size_one {kvs : List (L2.Key × V)} {one what : Str} {j : Int} (h : valV kvs (.inr one) = some (.int j)) (h0 : 0 ≤ j) (h1 : j ≤ 400) (nj : what ≠ "join") : SizeOk kvs [one] what :=
  by
  refine ⟨[j], rfl, fun i x e => ?_, fun z => absurd z nj, fun _ => ?_⟩
  · match i, e with
    | 0, e =>
      cases e
      exact ⟨j, rfl, h⟩
    | i + 1, e => cases e
  · show 0 ≤ j + 0 ∧ j + 0 ≤ 400
    omega
theorem size_two {kvs : List (L2.Key × V)} {one other what : Str} {a b : Int} (h : valV kvs (.inr one) = some (.int a)) (h' : valV kvs (.inr other) = some (.int b)) (a0 : 0 ≤ a) (a1 : a ≤ 400) (b0 : 0 ≤ b) (b1 : b ≤ 400) (hj : what = "join" → a * b ≤ 400) (hs : what ≠ "join" → a + b ≤ 400) : SizeOk kvs [one, other] what :=
  by
  refine ⟨[a, b], rfl, fun i x e => ?_, fun z => ⟨a, b, rfl, a0, a1, b0, b1, Int.mul_nonneg a0 b0, hj z⟩, fun z => ?_⟩
  · match i, e with
    | 0, e =>
      cases e
      exact ⟨a, rfl, h⟩
    | 1, e =>
      cases e
      exact ⟨b, rfl, h'⟩
    | i + 2, e => cases e
  · have := hs z
    show 0 ≤ a + (b + 0) ∧ a + (b + 0) ≤ 400
    omega
theorem colsA_eqv : ∀ l m : List NC, PyData.eqvAll (l.map colD) (m.map colD) = decide (l = m)
  | [], [] => rfl
  | [], _ :: _ => rfl
  | _ :: _, [] => rfl
  | a :: l, b :: m => by
    show (PyData.eqv (colD a) (colD b) && PyData.eqvAll (l.map colD) (m.map colD)) = _
    rw [colD_eqv, colsA_eqv l m]
    by_cases h1 : a = b
    · by_cases h2 : l = m
      · simp [h1, h2]
      · simp [h1, h2]
    · simp [h1]
theorem colsD_eqv (l m : List NC) : PyData.eqv (.list (l.map colD)) (.list (m.map colD)) = decide (l = m) := colsA_eqv l m
def WaysAt (H : Hp) (cl : List Col) (as : List (Addr × Str × Str)) : Prop := ∀ p ∈ as, H p.1 = some (.tup [.str p.2.1, .str p.2.2]) ∧ (∃ k, (p.2.1, k) ∈ cl.map (·.2)) ∧ (p.2.2 = "up" ∨ p.2.2 = "down") ∧ PyData.canLay0 (.str p.2.1) = true
theorem WaysAt.keep {H H' : Hp} {cl : List Col} {as : List (Addr × Str × Str)} (W : WaysAt H cl as) (h : KeepT H H') : WaysAt H' cl as := fun p hp => ⟨h _ _ (W p hp).1, (W p hp).2⟩
def wayD (x : Str × Str) : PyData := .tuple [.str x.1, .str x.2]
theorem ways_dp {K : PySem.W.Frag} {H : Hp} {cl : List Col} : ∀ {as : List (Addr × Str × Str)}, WaysAt H cl as → DpAll K H (as.map fun p => .ref p.1) (as.map fun p => wayD p.2)
  | [], _ => .nil
  | p :: as, h => .cons (.tup (SqT.of (h p List.mem_cons_self).1) (.cons (.str _) (.cons (.str _) .nil))) (ways_dp fun x hx => h x (List.mem_cons_of_mem _ hx))
theorem way_ok {x : Str × Str} (h : PyData.canLay0 (.str x.1) = true) (w : x.2 = "up" ∨ x.2 = "down") : PyData.canLay0 (wayD x) = true := by
  show (PyData.canLay0 (.str x.1) && (PyData.canLay0 (.str x.2) && true)) = true
  rw [h]
  rcases w with w | w
  · rw [w]
    decide +kernel
  · rw [w]
    decide +kernel
theorem ways_ok {H : Hp} {cl : List Col} : ∀ {as : List (Addr × Str × Str)}, WaysAt H cl as → PyData.canLayAll0 (as.map fun p => wayD p.2) = true
  | [], _ => rfl
  | p :: as, h => by
    show (PyData.canLay0 (wayD p.2) && PyData.canLayAll0 (as.map fun p => wayD p.2)) = true
    rw [way_ok (h p List.mem_cons_self).2.2.2 (h p List.mem_cons_self).2.2.1, ways_ok fun x hx => h x (List.mem_cons_of_mem _ hx)]
    rfl
theorem ways_dep : ∀ as : List (Addr × Str × Str), PyData.depthAll (as.map fun p => wayD p.2) ≤ 1
  | [] => Nat.zero_le _
  | p :: as => by
    show max (PyData.depth (wayD p.2)) (PyData.depthAll (as.map fun p => wayD p.2)) ≤ 1
    exact Nat.max_le.mpr ⟨Nat.le_refl 1, ways_dep as⟩
theorem ways_sh {H : Hp} {cl : List Col} {as : List (Addr × Str × Str)} (W : WaysAt H cl as) : SeqAt.shaped (.tuple (as.map fun p => wayD p.2)) = true := by
  have d := ways_dep as
  show (PyData.canLayAll0 (as.map fun p => wayD p.2) && decide (PyData.depthAll (as.map fun p => wayD p.2) + 1 ≤ 64)) = true
  rw [ways_ok W, decide_eq_true (by omega)]
  rfl
theorem fn_all : ∀ x ∈ fnames, x ∈ allNames := by decide +kernel
section
variable {P : Program} {w : World} {K : PySem.W.Frag} {mg : Str → Option Value} {base : Heap}
/-! ### _law_step -/
abbrev N_law_step : List Str := ["draw", "known", "name", "one", "columns", "kind", "details", "late", "pair", "some", "other", "ways"]
def spStep : Sp := fun vs H Q _ => ∃ (d s kd g : Addr) (kn : Knw) (name one : Str) (a1 : Addr) (c1 : List Col) (ns : List Int) (n : Int), vs = [.ref d, .ref kd, .str name, .str one] ∧ DrawAt H d s ns [.ref g] n ∧ KnowsAt H kd g kn ∧ (one, a1, c1) ∈ kn ∧
  ∀ (r st f : Addr) (ins : List Str) (det : Det) (cl : List Col) (n' : Int) (H' : Hp), H' r = some (.tup [.ref st, .ref f]) → StpAt H' st ⟨name, ins, det⟩ → Tab H' f cl → StepOk (abs kn) ins det (cl.map (·.2)) → (∀ kvs, H g = some (.dK kvs) → SizeOk kvs ins det.what) → But d H H' → DrawAt H' d s ns [.ref g] n' → Q (.ref r) H'
end
end Kx

namespace Kx
open PySem PySem.Spec PyProof.Rows L2
section
variable {X : Cx}
/-- the pairs (a text, a value) that stand at these addresses -/
theorem prs_of {pins : List (Addr × Obj)} {σ : L2.St} {H : Hp} {s : Shared} (I : Inv X pins σ H s) : ∀ {ps : List Addr} {kvs : List (Str × V)}, Paired (fun p kv => SqT X.K H p [.str kv.1, kv.2]) ps kvs →
    ∃ prs : List (Value × Value), prs.length = ps.length ∧ kvs.length = ps.length ∧ (∀ (j : Nat) (u v : Value), prs[j]? = some (u, v) → ∃ b, ps[j]? = some b ∧ s.heap.IsTuple b #[u, v]) ∧ ∃ rs : List (L2.Key × Value), L2.KV (kvs.map fun kv => ((.inr kv.1 : L2.Key), kv.2)) rs ∧ rs.length = ps.length ∧ ∀ (j : Nat) (u v : Value), prs[j]? = some (u, v) → ∃ k, rs[j]? = some (k, v) ∧ (mixKind X.prog X.w).is k u = true
  | _, _, .nil => ⟨[], rfl, rfl, fun j u v e => by simp at e, [], .nil, rfl, fun j u v e => by simp at e⟩
  | _, _, .cons (a := p) (b := kv) h t => by
    obtain ⟨prs, l1, l2, hp, rs, hr, l3, hk⟩ := prs_of I t
    obtain ⟨its, rv, pt, _⟩ := I.tuple h
    cases rv with
    | cons r1 rv =>
      cases rv with
      | cons r2 rv =>
        cases rv
        rename_i u1 u2
        refine ⟨(u1, u2) :: prs, by rw [List.length_cons, List.length_cons, l1], by rw [List.length_cons, List.length_cons, l2], fun j u v e => ?_, (.inr kv.1, u2) :: rs, .cons ⟨rfl, r2⟩ hr, by rw [List.length_cons, List.length_cons, l3], fun j u v e => ?_⟩
        · cases j with
          | zero =>
            cases e
            exact ⟨p, rfl, pt⟩
          | succ j => exact hp j u v e
        · cases j with
          | zero =>
            cases e
            exact ⟨.inr kv.1, rfl, (Yk.rel_plain (k := .inr kv.1) r1).2 ▸ Yk.plain_is (Yk.rel_plain (k := .inr kv.1) r1).1⟩
          | succ j => exact hk j u v e
/-- dict(t) of such a tuple of pairs whose keys are texts -/
def rDictT (K : PySem.W.Frag) : List V → Hp → VK → Prop := fun vs H Q => ∃ (a : Addr) (ps : List Addr) (kvs : List (Str × V)), vs = [.ref a] ∧ TupF H a (ps.map V.ref) ∧ Paired (fun p kv => SqT K H p [.str kv.1, kv.2]) ps kvs ∧ ∀ p, H p = none → Q (.ref p) (upd H p (.dK (mergeK [] (kvs.map fun kv => ((.inr kv.1 : L2.Key), kv.2)))))
theorem cr_dictT (hc : X.calm = true) : CallR X (.type "dict") (rDictT X.K) := by
  intro pins s σ H vs us Q I r h
  obtain ⟨a, ps, kvs, rfl, hq, hp, q⟩ := h
  rw [Vals.ref1 r]
  obtain ⟨its, rv, pl, hz⟩ := I.tuple (hq.sq (K := X.K))
  have ei := refs_at rv
  subst ei
  rw [List.length_map] at hz
  obtain ⟨prs, l1, l2, hpr, rs, hr, l3, hk⟩ := prs_of I hp
  have pa : PlainSeq "tuple" s.heap a (ps.map Value.ref).toArray := by
    obtain ⟨o, hd, e⟩ := hq
    have ho := (I.hok a _ e).1
    obtain ⟨o', ho', hc', n, hdat⟩ := pl
    rw [ho] at ho'
    cases ho'
    exact ⟨o, n, ho, hc', hd, hdat⟩
  have items : PairItems s.heap (ps.map Value.ref).toArray (fun j => ps.getD j 0) prs := ⟨by simp [l1], fun j u v e => by
    obtain ⟨b, eb, ht⟩ := hpr j u v e
    have e0 : ps.getD j 0 = b := by simp [List.getD, eb]
    dsimp only
    rw [e0]
    exact ⟨by simp [eb], .inl ht⟩⟩
  refine PySem.call_dict_pairs (knd := mixKind X.prog X.w) (kvs := rs) (PairArg.tuple (prog := X.prog) (w := X.w) a (ps.map Value.ref).toArray (fun j => ps.getD j 0) prs) (I.ok.hd hc) ⟨pa, items⟩ ⟨by rw [l3, l1], fun j u v e => hk j u v e⟩ (by rw [l1]; exact hz) fun h' tk hd' k => ?_
  have hm : (s.heap.objs.size == sysModules) = false := beq_eq_false_iff_ne.mpr (Nat.ne_of_gt I.big)
  have hlen : (mergeK [] (kvs.map fun kv => ((.inr kv.1 : L2.Key), kv.2))).length ≤ sizeLine := by
    refine Nat.le_trans (length_mergeK _ []) ?_
    rw [List.length_nil, Nat.zero_add, List.length_map, l2]
    exact hz
  exact ⟨.ref s.heap.objs.size, upd H s.heap.objs.size (.dK (mergeK [] (kvs.map fun kv => ((.inr kv.1 : L2.Key), kv.2)))), I.laid (t' := tk) (fun b o e => k b o (by simp) e) (Nat.le_refl _) (show ObjOk X.prog X.w _ _ _ (.dK (mergeK [] (kvs.map fun kv => ((.inr kv.1 : L2.Key), kv.2)))) from ⟨hlen, hm, merged [] rs, KV.merge hr .nil, hd'⟩), rfl, q _ (I.hok.fresh (Nat.le_refl _))⟩
/-- a tuple display, the tuple known to have no dict of its own -/
def tTupF (t : TA) : TE := fun σ H Q => t σ H fun xs H1 => xs.length ≤ sizeLine ∧ ∀ (p : Addr) (o : Obj), H1 p = none → o.dict = none → Q (.ref p) (upd H1 p (.frz o (.tup xs)))
theorem pe_tupF {es : List Expr} {t : TA} {k : Nat} {pos : Pos} (h : PA X es t) : PE X (.Tuple es k pos) (tTupF t) := by
  constructor
  intro pins s σ H Q I hq
  refine wpAny_Tuple_spliced (thn (h.run pos pins s σ H _ I hq) ?_)
  rintro us s1 ⟨xs, H1, I1, r, z, q⟩
  have fr := I1.hok.fresh (Nat.le_refl s1.heap.objs.size)
  refine ⟨r.length ▸ z, ?_⟩
  have ob : ObjOk X.prog X.w (upd H1 s1.heap.objs.size (.frz { cls := .type "tuple", data := .seq us.toArray } (.tup xs))) (s1.heap.push { cls := .type "tuple", data := .seq us.toArray }) s1.heap.objs.size (.frz { cls := .type "tuple", data := .seq us.toArray } (.tup xs)) :=
    ⟨Heap.get?_push_size _ rfl, z, us, r, _, Heap.get?_push_size _ rfl, rfl, _, rfl⟩
  exact ⟨.ref s1.heap.objs.size, _, I1.laid (t' := s1.toks) (fun b u e => Heap.get?_push_of_some _ e) (Nat.le_refl _) ob, rfl, q _ { cls := .type "tuple", data := .seq us.toArray } fr rfl⟩
/-- tuple(xs): of a list a new tuple that has no dict of its own, of a tuple itself -/
def rTupleF (K : PySem.W.Frag) : List V → Hp → VK → Prop := fun xs H Q => ∃ p ys, xs = [.ref p] ∧ ((SqL K H p ys ∧ ∀ (l : Addr) (o : Obj), H l = none → o.dict = none → Q (.ref l) (upd H l (.frz o (.tup ys)))) ∨ (SqT K H p ys ∧ Q (.ref p) H))
theorem cr_tupleF : CallR X (.type "tuple") (rTupleF X.K) := by
  intro pins s σ H xs us Q I r h
  obtain ⟨p, ys, rfl, h⟩ := h
  rw [Vals.ref1 r]
  rcases h with ⟨hl, q⟩ | ⟨ht, q⟩
  · obtain ⟨its, rv, pl, hz⟩ := I.list hl
    have hlen := rv.length
    refine call_tuple_list pl.isList (fun h' kp => ?_) (by rw [List.size_toArray]; omega)
    have I1 : Inv X pins σ H { s with heap := h' } := I.kept (t' := s.toks) kp
    have fr := I1.hok.fresh (Nat.le_refl h'.objs.size)
    have ob : ObjOk X.prog X.w (upd H h'.objs.size (.frz { cls := .type "tuple", data := .seq its.toArray } (.tup ys))) (h'.push { cls := .type "tuple", data := .seq its.toArray }) h'.objs.size (.frz { cls := .type "tuple", data := .seq its.toArray } (.tup ys)) :=
      ⟨Heap.get?_push_size _ rfl, hz, its, rv, IsTup.new _ _⟩
    exact ⟨.ref h'.objs.size, _, I1.laid (t' := s.toks) (fun b o e => Heap.get?_push_of_some _ e) (Nat.le_refl _) ob, rfl, q _ { cls := .type "tuple", data := .seq its.toArray } fr rfl⟩
  · obtain ⟨its, rv, pl, _⟩ := I.tuple ht
    exact call_tuple_same pl ⟨.ref p, H, I, rfl, q⟩
end
end Kx

set_option maxHeartbeats 8000000
namespace Kx
open PySem PySem.Spec PyProof.Rows L2
def stepNms : List Str := ["a", "b", "s0", "s1", "s2", "s3", "s4", "s5", "s6", "s7"]
theorem s_name {i : Nat} (h : i < 8) : stepNms.take (i + 2) ++ [("s" : Str) ++ Str.ofString (toString ((0 : Int) + (i : Nat)))] = stepNms.take (i + 3) ∧ ("s" : Str) ++ Str.ofString (toString ((0 : Int) + (i : Nat))) ∉ stepNms.take (i + 2) ∧
    ("s" : Str).length + (Str.ofString (toString ((0 : Int) + (i : Nat)))).length ≤ sizeLine ∧ PyData.canLay0 (.str (("s" : Str) ++ Str.ofString (toString ((0 : Int) + (i : Nat))))) = true := by
  match i, h with
  | 0, _ => decide +kernel
  | 1, _ => decide +kernel
  | 2, _ => decide +kernel
  | 3, _ => decide +kernel
  | 4, _ => decide +kernel
  | 5, _ => decide +kernel
  | 6, _ => decide +kernel
  | 7, _ => decide +kernel
theorem log_num8 {i : Nat} (h : i < 8) : ((0 : Int) + (i : Nat)).natAbs.log2 < 1920 := by
  match i, h with
  | 0, _ => decide +kernel
  | 1, _ => decide +kernel
  | 2, _ => decide +kernel
  | 3, _ => decide +kernel
  | 4, _ => decide +kernel
  | 5, _ => decide +kernel
  | 6, _ => decide +kernel
  | 7, _ => decide +kernel
def colsA : List NC := [("k", true), ("t", false), ("n", true)]
def colsB : List NC := [("k", true), ("m", true)]
/-- a drawn job: its steps, and the columns of each -/
inductive JobOk : List Stp → List (Str × List NC) → Prop where
  | base : JobOk [⟨"a", [], .read colsA⟩, ⟨"b", [], .read colsB⟩] [("a", colsA), ("b", colsB)]
  | step {ss : List Stp} {kn : List (Str × List NC)} {nm : Str} {ins : List Str} {det : Det} {cs : List NC} (h : JobOk ss kn) (n : nm ∉ kn.map (·.1)) (k : StepOk kn ins det cs) (nd : (cs.map (·.1)).Nodup) (inn : ∀ c ∈ cs, c.1 ∈ allNames) (ne : cs ≠ []) : JobOk (ss ++ [⟨nm, ins, det⟩]) (kn ++ [(nm, cs)])
theorem StepOk.len {kn : List (Str × List NC)} {ins : List Str} {det : Det} {cs : List NC} (O : StepOk kn ins det cs) : ins.length ≤ 2 := by
  cases O <;> first | exact Nat.le_refl 2 | exact (by decide : 1 ≤ 2)
theorem StepOk.sort_pos {kn : List (Str × List NC)} {ins : List Str} {ws : List (Str × Str)} {m : Int} {cs : List NC} (O : StepOk kn ins (.sort ws m) cs) : 1 ≤ m := by
  cases O
  assumption
theorem val_none {kn : Knw} {x : Str} (h : x ∉ kn.map (·.1)) : valV (kn.map fun e => ((.inr e.1 : L2.Key), V.ref e.2.1)) (.inr x) = none := by
  unfold valV
  rw [List.find?_eq_none.mpr]
  · rfl
  · intro p hp
    obtain ⟨e, he, rfl⟩ := List.mem_map.mp hp
    intro z
    have z' := of_decide_eq_true z
    exact h (List.mem_map.mpr ⟨e, he, Sum.inr.inj z'⟩)
theorem none_same {H H' : Hp} {a : Addr} (h : Same H H') (e : H' a = none) : H a = none := by
  cases q : H a with
  | none => rfl
  | some o =>
    rw [h _ _ q] at e
    cases e
structure JobSt (H0 H : Hp) (d s kd g sl : Addr) (ns : List Int) (as : List (Addr × Stp)) (kn : Knw) (last : Str) (i : Nat) : Prop where
  dr : ∃ n, DrawAt H d s ns [.ref g] n
  b : But d H0 H
  fs' : ∃ o, H0 s = some o
  f1 : H0 kd = none
  f2 : H0 g = none
  f3 : H0 sl = none
  k : KnowsAt H kd g kn
  kg : kd ≠ g
  n3 : sl ≠ d
  e3 : H sl = some (.lst (as.map fun p => .ref p.1))
  off : ∀ e ∈ kn, e.2.1 ≠ sl
  stp : ∀ p ∈ as, StpAt H p.1 p.2
  len : as.length = i + 2
  ok : JobOk (as.map (·.2)) (abs kn)
  nms : kn.map (·.1) = stepNms.take (i + 2)
  lst : last ∈ kn.map (·.1)
  szl : ∀ kvs, H g = some (.dK kvs) → kvs.length ≤ i + 2
theorem JobSt.step {H0 H H' : Hp} {d s kd g sl : Addr} {ns : List Int} {as : List (Addr × Stp)} {kn : Knw} {last : Str} {i : Nat} {n : Int} (S : JobSt H0 H d s kd g sl ns as kn last i) (b : But d H H') (D : DrawAt H' d s ns [.ref g] n) : JobSt H0 H' d s kd g sl ns as kn last i := by
  obtain ⟨n0, D0⟩ := S.dr
  exact ⟨⟨n, D⟩, S.b.trans b, S.fs', S.f1, S.f2, S.f3, S.k.but D0 b, S.kg, S.n3, b _ _ S.n3 S.e3, S.off, fun p hp => (S.stp p hp).keep (b.tup D0.at_d) (b.tupF D0.at_d), S.len, S.ok, S.nms, S.lst, fun kvs e => by
    obtain ⟨kv, h1, _⟩ := S.k.sizes
    have h2 := b _ _ (fun z => by rw [z, D0.at_d] at h1; cases h1) h1
    rw [h2] at e
    cases e
    exact S.szl _ h1⟩
theorem JobSt.new {H0 H : Hp} {d s kd g sl p : Addr} {ns : List Int} {as : List (Addr × Stp)} {kn : Knw} {last : Str} {i : Nat} {o : HO} (S : JobSt H0 H d s kd g sl ns as kn last i) (h : H p = none) : JobSt H0 (upd H p o) d s kd g sl ns as kn last i := by
  obtain ⟨n0, D0⟩ := S.dr
  exact S.step (same_but (same_upd h)) (D0.keep (same_upd h))
theorem JobSt.kn_len {H0 H : Hp} {d s kd g sl : Addr} {ns : List Int} {as : List (Addr × Stp)} {kn : Knw} {last : Str} {i : Nat} (S : JobSt H0 H d s kd g sl ns as kn last i) : kn.length ≤ 10 := by
  have h := congrArg List.length S.nms
  rw [List.length_map, List.length_take] at h
  have : stepNms.length = 10 := rfl
  omega
theorem JobSt.add {H0 H H' : Hp} {d s kd g sl st f : Addr} {ns : List Int} {as : List (Addr × Stp)} {kn : Knw} {last nm : Str} {ins : List Str} {det : Det} {cl : List Col} {i : Nat} {j : Int} {kvs : List (L2.Key × V)} (S : JobSt H0 H d s kd g sl ns as kn last i)
    (X : StpAt H st ⟨nm, ins, det⟩) (T : Tab H f cl) (O : StepOk (abs kn) ins det (cl.map (·.2))) (hn : nm ∉ kn.map (·.1)) (hn2 : stepNms.take (i + 2) ++ [nm] = stepNms.take (i + 3)) (okn : PyData.canLay0 (.str nm) = true) (j0 : 0 ≤ j) (j1 : j ≤ 400) (fs : f ≠ sl)
    (eg : H g = some (.dK kvs)) (lkv : kvs.length + 1 ≤ 40) (hsz : ∀ e ∈ kn, ∃ j : Int, valV kvs (.inr e.1) = some (.int j) ∧ 0 ≤ j ∧ j ≤ 400)
    (off : ∀ b o, b ≠ sl → b ≠ kd → b ≠ g → H b = some o → H' b = some o) (e1 : H' sl = some (.lst ((as.map fun p => .ref p.1) ++ [.ref st]))) (e2 : H' kd = some (.dK (putK (kn.map fun e => ((.inr e.1 : L2.Key), V.ref e.2.1)) (.inr nm) (.ref f)))) (e3 : H' g = some (.dK (putK kvs (.inr nm) (.int j)))) :
    JobSt H0 H' d s kd g sl ns (as ++ [(st, ⟨nm, ins, det⟩)]) (kn ++ [(nm, f, cl)]) nm (i + 1) := by
  obtain ⟨n0, D0⟩ := S.dr
  have ek := S.k.at_k
  have kt : KeepT H H' := fun a xs e => off a _ (fun z => by rw [z, S.e3] at e; cases e) (fun z => by rw [z, ek] at e; cases e) (fun z => by rw [z, eg] at e; cases e) e
  have kf : KeepF H H' := fun a xs ⟨o, dn, e⟩ => ⟨o, dn, off a _ (fun z => by rw [z, S.e3] at e; cases e) (fun z => by rw [z, ek] at e; cases e) (fun z => by rw [z, eg] at e; cases e) e⟩
  have kl : ∀ (a : Addr) (xs : List V), a ≠ sl → H a = some (.lst xs) → H' a = some (.lst xs) := fun a xs h e => off a _ h (fun z => by rw [z, ek] at e; cases e) (fun z => by rw [z, eg] at e; cases e) e
  have ktab : ∀ {a : Addr} {c : List Col}, a ≠ sl → Tab H a c → Tab H' a c := fun h t => ⟨⟨kl _ _ h t.cols.all, fun c hc => kt _ _ (t.cols.each c hc), t.cols.few, t.cols.ok⟩, t.nod, t.inn, t.ne⟩
  obtain ⟨os, es⟩ := S.fs'
  refine ⟨⟨n0, kl _ _ S.n3.symm D0.at_d, kl _ _ (ne_of_none es S.f3) D0.at_s, D0.n0⟩, fun b o hb e => off b o (ne_of_none e S.f3) (ne_of_none e S.f1) (ne_of_none e S.f2) (S.b b o hb e), S.fs', S.f1, S.f2, S.f3, ⟨?_, fun e he => ?_, ?_, ?_, ⟨_, e3, ?_, fun e he => ?_⟩, fun e he => ?_⟩, S.kg, S.n3, ?_, fun e he => ?_, fun p hp => ?_, ?_, ?_, ?_, ?_, fun kv e => ?_⟩
  · rw [e2, putK_new _ (val_none hn), List.map_append]
    rfl
  · rcases List.mem_append.mp he with he | he
    · exact ktab (S.off e he) (S.k.tabs e he)
    · rw [List.mem_singleton.mp he]
      exact ktab fs T
  · rw [List.map_append]
    exact List.nodup_append.mpr ⟨S.k.nod, by simp, fun a ha b hb e => hn (by
      have : b = nm := List.mem_singleton.mp hb
      rw [← this, ← e]
      exact ha)⟩
  · rw [List.length_append]
    have := S.kn_len
    show kn.length + 1 ≤ 40
    omega
  · have := length_putK kvs (.inr nm) (.int j)
    omega
  · rw [valV_put]
    rcases List.mem_append.mp he with he | he
    · obtain ⟨j', h1, h2, h3⟩ := hsz e he
      refine ⟨j', ?_, h2, h3⟩
      rw [if_neg (fun z => hn (by rw [← Sum.inr.inj z]; exact List.mem_map.mpr ⟨e, he, rfl⟩))]
      exact h1
    · rw [List.mem_singleton.mp he, if_pos rfl]
      exact ⟨j, rfl, j0, j1⟩
  · rcases List.mem_append.mp he with he | he
    · exact S.k.nms e he
    · rw [List.mem_singleton.mp he]
      exact okn
  · rw [e1, List.map_append]
    rfl
  · rcases List.mem_append.mp he with he | he
    · exact S.off e he
    · rw [List.mem_singleton.mp he]
      exact fs
  · rcases List.mem_append.mp hp with hp | hp
    · exact (S.stp p hp).keep kt kf
    · rw [List.mem_singleton.mp hp]
      exact X.keep kt kf
  · rw [List.length_append, S.len]
    rfl
  · rw [List.map_append]
    unfold abs
    rw [List.map_append]
    refine .step S.ok (by rw [List.map_map]; exact hn) O ?_ (fun c hc => ?_) (fun z => T.ne (List.map_eq_nil_iff.mp z))
    · rw [List.map_map]
      exact T.nod
    · obtain ⟨c', hc', rfl⟩ := List.mem_map.mp hc
      exact T.inn c' hc'
  · rw [List.map_append, S.nms]
    exact hn2
  · rw [List.map_append]
    exact List.mem_append_right _ List.mem_cons_self
  · rw [e3] at e
    cases e
    have h1 := length_putK kvs (.inr nm) (.int j)
    have h2 := S.szl _ eg
    omega
section
variable {P : Program} {w : World} {K : PySem.W.Frag} {mg : Str → Option Value} {base : Heap}
/-! ### _law_job -/
abbrev N_law_job : List Str := ["draw", "many", "known", "steps", "last", "at", "name", "one", "step", "columns"]
def spJob : Sp := fun vs H Q _ => ∃ (d s : Addr) (ns : List Int) (tl : List V) (n many : Int), vs = [.ref d, .int many] ∧ DrawAt H d s ns tl n ∧ (tl = [] ∨ ∃ x, tl = [x]) ∧ 1 ≤ many ∧ many ≤ 8 ∧
  ∀ (r st g : Addr) (as : List (Addr × Stp)) (kn : List (Str × List NC)) (last : Str) (n' : Int) (H' : Hp), H' r = some (.tup [.ref st, .str last]) → H' st = some (.tup (as.map fun p => .ref p.1)) → (∀ p ∈ as, StpAt H' p.1 p.2) → JobOk (as.map (·.2)) kn → last ∈ kn.map (·.1) → kn.length ≤ 10 → (∀ e ∈ kn, e.1 ∈ stepNms) → But d H H' → DrawAt H' d s ns [.ref g] n' → Q (.ref r) H'
end
end Kx

set_option maxHeartbeats 8000000
namespace Kx
open PySem PySem.Spec PyProof.Rows L2
abbrev s_two : Stmt := topS 59
abbrev s_kind : Stmt := topS 60
/-! ### the kind of an expression, none if it has none -/
def ops2 : List Str := sums ++ (["and", "or"] : List Str)
def twoK (op : Str) : Option Bool → Option Bool → Option Bool
  | some a, some b => if a = b then (if a = true ∨ op ∈ cmps then some true else none) else none
  | _, _ => none
def oneK (want : Bool) (o : Option Bool) : Option Bool := if o = some want then some true else none
def kindE (kf : Str → Option Bool) : Ex → Option Bool
  | .num _ => some true
  | .quo _ => some false
  | .col x => kf x
  | .two op a b => twoK op (kindE kf a) (kindE kf b)
  | .nt a => oneK true (kindE kf a)
  | .mn a => oneK true (kindE kf a)
  | .ln a => oneK false (kindE kf a)
def OpsOk : Ex → Prop
  | .two op a b => (op ∈ cmps ∨ op ∈ ops2) ∧ OpsOk a ∧ OpsOk b
  | .nt a => OpsOk a
  | .mn a => OpsOk a
  | .ln a => OpsOk a
  | _ => True
def kV' (o : Option Bool) : V := match o with
  | none => .non
  | some b => .str (kW b)
theorem ops2_no : ∀ op ∈ ops2, op ∉ cmps := by decide +kernel
structure Lv (K : PySem.W.Frag) (w : World) (mg : Str → Option Value) : Prop where
  ex : ∃ d, mg "LEVELS" = some (.ref d) ∧ (∀ op ∈ cmps, KDct K w d op (.int 4)) ∧ ∀ op ∈ ops2, ∃ l : Int, l ≠ 4 ∧ KDct K w d op (.int l)
  four : ∃ t, mg "COMPARISON" = some (.int 4 t)
theorem in_yes {z : Str} {l : List Str} {A B : Prop} (h : z ∈ l) (q : A) : if (if false = true then !inV (.str z) (l.map V.str) else inV (.str z) (l.map V.str)) = true then A else B := in_strs (fun _ => q) fun n => absurd h n
theorem in_no {z : Str} {l : List Str} {A B : Prop} (h : z ∉ l) (q : B) : if (if false = true then !inV (.str z) (l.map V.str) else inV (.str z) (l.map V.str)) = true then A else B := in_strs (fun y => absurd y h) fun _ => q
def nqL : List Str := ["number", "quoted"]
def nmL : List Str := ["not", "minus"]
theorem nq1 : ("number" : Str) ∈ nqL := by decide +kernel
theorem nq2 : ("quoted" : Str) ∈ nqL := by decide +kernel
theorem nq3 : ("column" : Str) ∉ nqL := by decide +kernel
theorem nq4 : ("not" : Str) ∉ nqL := by decide +kernel
theorem nq5 : ("minus" : Str) ∉ nqL := by decide +kernel
theorem nq6 : ("length" : Str) ∉ nqL := by decide +kernel
theorem nq7 : ("two" : Str) ∉ nqL := by decide +kernel
theorem nm1 : ("not" : Str) ∈ nmL := by decide +kernel
theorem nm2 : ("minus" : Str) ∈ nmL := by decide +kernel
theorem nm3 : ("length" : Str) ∉ nmL := by decide +kernel
theorem nm4 : ("two" : Str) ∉ nmL := by decide +kernel
theorem kW_ne : ("int" : Str) ≠ "text" := by decide +kernel
section
variable {P : Program} {w : World} {K : PySem.W.Frag} {mg : Str → Option Value} {base : Heap}
def spTwoK : Sp := fun vs H Q _ => ∃ (op : Str) (a b : Option Bool), vs = [.str op, kV' a, kV' b] ∧ (op ∈ cmps ∨ op ∈ ops2) ∧ Q (kV' (twoK op a b)) H
theorem sc_twoK : FnScope ["op", "one", "other"] ["op", "one", "other"] (defScope s_two) := ⟨rfl, rfl, rfl, by decide +kernel, rfl, by decide +kernel, by decide +kernel⟩
theorem ok_twoK {f : Addr} {fd : FuncData} (F : Fun K "kind_of_two" "kind_of_two" s_two f fd) (L : Lv K w mg) : FnOk P w K mg base CX0 1 f fd ["op", "one", "other"] spTwoK := by
  refine F.ok sc_twoK (fun vs H Q E h => ?_) (fun cdv A outer s H vs Q E hr h => ?_)
  · obtain ⟨op, a, b, rfl, _⟩ := h
    rfl
  obtain ⟨op, a, b, rfl, ho, q⟩ := h
  obtain ⟨dl, m_LV, lc, ls⟩ := L.ex
  obtain ⟨t4, m_C⟩ := L.four
  refine ⟨_, pss_cons (ps_if (PW.pt (pw_or (pt_cmpR op_isN (pv 1) pe_non (nomark _)) (pw_or1 (pt_cmpR op_ne (pv 1) (pv 2) (nomark _))))) (pss_one (ps_ret pe_non)) (pss_nil))
      (pss_cons (ps_if (PW.pt (pw_and (pt_cmpR op_eq (pv 1) pe_str (nomark _)) (pw_and1 (pt_cmpR op_ne (pe_ix ix_kdict (pe_glob (v := .ref dl) rfl m_LV rfl) (pv 0) (fun _ _ => rfl)) (pe_glob (v := .int 4) rfl m_C ⟨_, rfl⟩) (nomark _))))) (pss_one (ps_ret pe_non)) (pss_nil))
      (pss_one (ps_ret pe_str))), ?_⟩
  cases a with
  | none =>
    exact ⟨_, rfl, rfl, _, rfl, iteT (by cases b <;> exact q)⟩
  | some a =>
    refine ⟨_, rfl, rfl, _, rfl, iteF ?_⟩
    cases b with
    | none => exact ⟨_, rfl, _, rfl, rfl, _, rfl, iteT q⟩
    | some b =>
      change Q (kV' (if a = b then (if a = true ∨ op ∈ cmps then some true else none) else none)) H at q
      refine ⟨_, rfl, _, rfl, rfl, _, rfl, ite2 (fun c => ?_) (fun c => ?_)⟩
      · have : ¬ a = b := fun z => by
          rw [z] at c
          simp at c
        rw [if_neg this] at q
        exact q
      have hab : a = b := by
        by_cases z : a = b
        · exact z
        · exfalso
          apply c
          cases a <;> cases b <;> first | exact absurd rfl z | decide +kernel
      rw [if_pos hab] at q
      cases a with
      | true =>
        rw [if_pos (.inl rfl)] at q
        exact ⟨_, rfl, rfl, _, rfl, iteF (iteF q)⟩
      | false =>
        refine ⟨_, rfl, rfl, _, rfl, iteT ?_⟩
        rcases ho with ho | ho
        · rw [if_pos (.inr ho)] at q
          exact ⟨_, rfl, dl, op, _, rfl, rfl, lc op ho, rfl, _, rfl, iteF q⟩
        · obtain ⟨l, l4, hl⟩ := ls op ho
          rw [if_neg (fun z => by
            rcases z with z | z
            · cases z
            · exact ops2_no op ho z)] at q
          refine ⟨_, rfl, dl, op, _, rfl, rfl, hl, rfl, _, rfl, ?_⟩
          rw [decide_eq_false (show ¬ V.int l = V.int 4 from fun z => l4 (by injection z))]
          exact iteT q
/-! ### kind_of -/
def KdAt (H : Hp) (kd : Addr) (kf : Str → Option Bool) : Prop := ∃ kvs : List (L2.Key × V), H kd = some (.dK kvs) ∧ ∀ x, valV kvs (.inr x) = (kf x).map fun b => V.str (kW b)
theorem KdAt.keep {H H' : Hp} {kd : Addr} {kf : Str → Option Bool} (k : KdAt H kd kf) (h : Same H H') : KdAt H' kd kf := let ⟨kvs, e, g⟩ := k; ⟨kvs, h _ _ e, g⟩
def spKind (m : Nat) : Sp := fun vs H Q _ => ∃ (v : V) (kd : Addr) (kf : Str → Option Bool) (e : Ex), vs = [v, .ref kd] ∧ ExAt H v e ∧ OpsOk e ∧ e.dep ≤ m ∧ KdAt H kd kf ∧ Q (kV' (kindE kf e)) H
abbrev N_kind : List Str := ["told", "kinds", "what", "wanted"]
theorem sc_kind : FnScope N_kind ["told", "kinds"] (defScope s_kind) := ⟨rfl, rfl, rfl, by decide +kernel, rfl, by decide +kernel, by decide +kernel⟩
theorem ok_kind {f : Addr} {fd : FuncData} {m : Nat} (F : Fun K "kind_of" "kind_of" s_kind f fd) (G_two : Ready P w K mg base 1 "kind_of_two" ["op", "one", "other"] spTwoK) (G_kind : Ready P w K mg base (m + 1) "kind_of" ["told", "kinds"] (spKind m)) : FnOk P w K mg base CX0 (m + 2) f fd ["told", "kinds"] (spKind (m + 1)) := by
  refine F.ok sc_kind (fun vs H Q E h => ?_) (fun cdv A outer s H vs Q E hr h => ?_)
  · obtain ⟨v, kd, kf, e, rfl, _⟩ := h
    rfl
  obtain ⟨v, kd, kf, e, rfl, hv, ho, hd, hk, q⟩ := h
  have nd := sc_kind.nd
  have hr1 : Room 1 _ := hr.mono (by omega)
  have hu64 : _ + 64 < cLine := hr.units
  have hu1 : _ + 1 < cLine := Nat.lt_of_le_of_lt (Nat.add_le_add_left (by decide : 1 ≤ 64) _) hu64
  refine ⟨_, pss_cons (ps_set (i := 2) nd rfl (.inl rfl) (pe_ix ix_tup (pv 0) pe_int (fun _ _ => rfl)))
      (pss_cons (ps_if (pt_cmpR op_eq (pv 2) pe_str (nomark _)) (pss_one (ps_ret pe_str)) (pss_nil))
      (pss_cons (ps_if (pt_cmpR op_eq (pv 2) pe_str (nomark _)) (pss_one (ps_ret pe_str)) (pss_nil))
      (pss_cons (ps_if (pt_cmpR op_eq (pv 2) pe_str (nomark _)) (pss_one (ps_ret (pe_dget1 hu1 (pv 1) (pe_ix ix_tup (pv 0) pe_int (fun _ _ => rfl)) ⟨rfl, rfl, rfl, rfl⟩))) (pss_nil))
      (pss_cons (ps_if (pt_cmpR op_eq (pv 2) pe_str (nomark _)) (pss_one (ps_ret (pe_fn (G_two) hr1 (pa_cons (pe_ix ix_tup (pv 0) pe_int (fun _ _ => rfl)) (pa_cons (pe_fn (G_kind) hr (pa_cons (pe_ix ix_tup (pv 0) pe_int (fun _ _ => rfl)) (pa_cons (pv 1) pa_nil))) (pa_cons (pe_fn (G_kind) hr (pa_cons (pe_ix ix_tup (pv 0) pe_int (fun _ _ => rfl)) (pa_cons (pv 1) pa_nil))) pa_nil)))))) (pss_nil))
      (pss_cons (ps_set (i := 3) nd rfl (.inl rfl) pe_str)
      (pss_cons (ps_if (pt_cmpR op_eq (pv 2) pe_str (nomark _)) (pss_one (ps_set (i := 3) nd rfl (.inl rfl) pe_str)) (pss_nil))
      (pss_cons (ps_if (pt_cmpR op_ne (pe_fn (G_kind) hr (pa_cons (pe_ix ix_tup (pv 0) pe_int (fun _ _ => rfl)) (pa_cons (pv 1) pa_nil))) (pv 3) (nomark _)) (pss_one (ps_ret pe_non)) (pss_nil))
      (pss_one (ps_ret pe_str))))))))), ?_⟩
  cases e with
  | num i =>
    obtain ⟨a, rfl, ha⟩ := hv
    exact ⟨_, rfl, a, _, 0, _, rfl, rfl, SqT.of ha, rfl, _, rfl, rfl, _, rfl, iteT q⟩
  | quo z =>
    obtain ⟨a, rfl, ha⟩ := hv
    exact ⟨_, rfl, a, _, 0, _, rfl, rfl, SqT.of ha, rfl, _, rfl, rfl, _, rfl, iteF ⟨_, rfl, rfl, _, rfl, iteT q⟩⟩
  | col x =>
    obtain ⟨a, rfl, ha⟩ := hv
    obtain ⟨kvs, ek, gk⟩ := hk
    refine ⟨_, rfl, a, _, 0, _, rfl, rfl, SqT.of ha, rfl, _, rfl, rfl, _, rfl, iteF ⟨_, rfl, rfl, _, rfl, iteF ⟨_, rfl, rfl, _, rfl, iteT ?_⟩⟩⟩
    refine ⟨_, rfl, kd, rfl, .inl ⟨_, .inl ek⟩, _, rfl, a, _, 1, _, rfl, rfl, SqT.of ha, rfl, _, DGet.k (k := .inr x) ek, ?_⟩
    rw [gk x]
    change Q (kV' (kf x)) H at q
    cases h : kf x with
    | none =>
      rw [h] at q
      exact q
    | some b =>
      rw [h] at q
      exact q
  | two op x y =>
    obtain ⟨a, vx, vy, rfl, ha, hx, hy⟩ := hv
    have dx : x.dep ≤ m := by
      have h1 : max x.dep y.dep + 1 ≤ m + 1 := hd
      omega
    have dy : y.dep ≤ m := by
      have h1 : max x.dep y.dep + 1 ≤ m + 1 := hd
      omega
    refine ⟨_, rfl, a, _, 0, _, rfl, rfl, SqT.of ha, rfl, _, rfl, rfl, _, rfl, iteF ⟨_, rfl, rfl, _, rfl, iteF ⟨_, rfl, rfl, _, rfl, iteF ⟨_, rfl, rfl, _, rfl, iteT ?_⟩⟩⟩⟩
    exact ⟨_, rfl, a, _, 1, _, rfl, rfl, SqT.of ha, rfl, _, rfl, a, _, 2, _, rfl, rfl, SqT.of ha, rfl, _, rfl, vx, kd, kf, x, rfl, hx, ho.2.1, dx, hk, _, rfl, a, _, 3, _, rfl, rfl, SqT.of ha, rfl, _, rfl, vy, kd, kf, y, rfl, hy, ho.2.2, dy, hk, op, _, _, rfl, ho.1, q⟩
  | nt x =>
    obtain ⟨a, vx, rfl, ha, hx⟩ := hv
    refine ⟨_, rfl, a, _, 0, _, rfl, rfl, SqT.of ha, rfl, _, rfl, rfl, _, rfl, iteF ⟨_, rfl, rfl, _, rfl, iteF ⟨_, rfl, rfl, _, rfl, iteF ⟨_, rfl, rfl, _, rfl, iteF ⟨_, rfl, rfl, _, rfl, iteF ?_⟩⟩⟩⟩⟩
    refine ⟨_, rfl, a, _, 1, _, rfl, rfl, SqT.of ha, rfl, _, rfl, vx, kd, kf, x, rfl, hx, ho, Nat.le_of_succ_le_succ hd, hk, _, rfl, ?_⟩
    change Q (kV' (oneK true (kindE kf x))) H at q
    generalize kindE kf x = o at q ⊢
    rcases o with _ | _ | _ <;> exact ⟨rfl, _, rfl, q⟩
  | mn x =>
    obtain ⟨a, vx, rfl, ha, hx⟩ := hv
    refine ⟨_, rfl, a, _, 0, _, rfl, rfl, SqT.of ha, rfl, _, rfl, rfl, _, rfl, iteF ⟨_, rfl, rfl, _, rfl, iteF ⟨_, rfl, rfl, _, rfl, iteF ⟨_, rfl, rfl, _, rfl, iteF ⟨_, rfl, rfl, _, rfl, iteF ?_⟩⟩⟩⟩⟩
    refine ⟨_, rfl, a, _, 1, _, rfl, rfl, SqT.of ha, rfl, _, rfl, vx, kd, kf, x, rfl, hx, ho, Nat.le_of_succ_le_succ hd, hk, _, rfl, ?_⟩
    change Q (kV' (oneK true (kindE kf x))) H at q
    generalize kindE kf x = o at q ⊢
    rcases o with _ | _ | _ <;> exact ⟨rfl, _, rfl, q⟩
  | ln x =>
    obtain ⟨a, vx, rfl, ha, hx⟩ := hv
    refine ⟨_, rfl, a, _, 0, _, rfl, rfl, SqT.of ha, rfl, _, rfl, rfl, _, rfl, iteF ⟨_, rfl, rfl, _, rfl, iteF ⟨_, rfl, rfl, _, rfl, iteF ⟨_, rfl, rfl, _, rfl, iteF ⟨_, rfl, rfl, _, rfl, iteT ?_⟩⟩⟩⟩⟩
    refine ⟨_, rfl, a, _, 1, _, rfl, rfl, SqT.of ha, rfl, _, rfl, vx, kd, kf, x, rfl, hx, ho, Nat.le_of_succ_le_succ hd, hk, _, rfl, ?_⟩
    change Q (kV' (oneK false (kindE kf x))) H at q
    generalize kindE kf x = o at q ⊢
    rcases o with _ | _ | _ <;> exact ⟨rfl, _, rfl, q⟩
/-! ### _law_kind -/
end
end Kx

namespace PySem
namespace BadY
open PySem.W PySem.Calls PyProof.Rows PySem.HandSPX
/-! ### self.thing = v on an exception that has no dict yet -/
abbrev exT : List Value := [.type "Exception", .type "BaseException", .type "object"]
section
open Builtin Builtin.ObjectAttr
variable {prog : Program} {w : World} {A : Around} {R : Result → Shared → Prop} {hp : Heap} {g : Array GenState} {d : Drawn} {t : Nat} {os : OsState}
theorem osa_first {K : Frag} {name : Str} {tk : Tok} {v : Value} {x C : Addr} {fv : Array Value} {cd : ClassData} {bm : List Value}
    (X : K.In hp) (ho : hp.get? x = some { cls := .ref C, data := .fields fv }) (hc : clsIn K C = some cd) (ht : excTail exT bm = true) (hm : cd.mro = .ref C :: bm) (hh : cd.hasDict = true) (hn : findIn K (.ref C) name = some none)
    (q : ∀ h' tk' dx, (∀ b o, b ≠ x → hp.get? b = some o → h'.get? b = some o) → hp.objs.size ≤ dx → dx ≠ x → h'.get? x = some { cls := .ref C, dict := some dx, data := .fields fv } → h'.Ns1 dx (fun y => if y = name then some v else none) → R (.ok (.ret .none)) ⟨h', g, d, tk', os⟩) :
    codeAny (model prog w) A (.call (.builtin "object.__setattr__") ⟨[.ref x, .str name tk, v], []⟩) R ⟨hp, g, d, t, os⟩ := by
  have over : excOver K C exT = true := by
    unfold excOver
    rw [hc]
    show (match cd.mro with | .ref C' :: bm => C' == C && excTail exT bm | _ => false) = true
    rw [hm]
    show (C == C && excTail exT bm) = true
    rw [ht, beq_self_eq_true] <;> rfl
  have free : takerIn K C name = some none := by
    unfold takerIn
    rw [hn] <;> rfl
  have apart : hp.objs.size ≠ x := fun z => absurd (Heap.lt_size ho) (by rw [z]; exact Nat.lt_irrefl _)
  refine osa_openX (s := ⟨hp, g, d, t, os⟩) F.store_Exception X (ox := { cls := .ref C, data := .fields fv }) (od := none) ⟨ho, rfl, rfl, trivial⟩ over free fun b => ?_
  have look : Looks (model prog w) hp (classData C) cd := looks_clsIn X hc
  obtain ⟨c1, c2, c3, c4, c5, c6, c7, c8, c9, c10, c11⟩ := cd
  dsimp only at hh
  subst hh
  show wpAny _ _ (storeInOwnDict (.ref x) (.ref C) (.str name tk) name v b) _ _ _
  unfold storeInOwnDict ownDictForStores
  repeat (first | with_reducible refine look.at ?_ | with_reducible refine wpAny_loadPart_at ho ?_ | with_reducible refine store_in_new ?_ ?_ | wp_step)
  · exact ⟨_, #[], _, (Heap.get?_update_ne _ _ _ _ apart).trans (Heap.get?_push_at rfl rfl), rfl, (by intro e he; simp at he), (fun _ => rfl)⟩
  intro h2 tk2 n2 sb
  have mid : (hp.push { cls := .type "dict", data := .dict #[] }).get? x = some { cls := .ref C, data := .fields fv } := Heap.get?_push_of_some _ ho
  refine q h2 tk2 _ (fun c o hc e => ?_) (Nat.le_refl _) apart ((sb.2 x apart.symm).trans (Heap.get?_update_self _ mid rfl)) n2
  have far : c ≠ hp.objs.size := fun z => absurd (Heap.lt_size e) (by rw [z]; exact Nat.lt_irrefl _)
  rw [sb.2 c far, Heap.get?_update_ne _ _ _ _ hc]
  exact Heap.get?_push_of_some _ e
theorem osa_second {K : Frag} {name : Str} {tk : Tok} {v : Value} {x C dx : Addr} {fv : Array Value} {cd : ClassData} {bm : List Value} {m0 : Str → Option Value} {nl : List Str}
    (X : K.In hp) (ho : hp.get? x = some { cls := .ref C, dict := some dx, data := .fields fv }) (hns : hp.Ns1 dx m0) (hw : Within m0 nl) (hz : nl.length ≤ 1000) (hc : clsIn K C = some cd) (ht : excTail exT bm = true) (hm : cd.mro = .ref C :: bm) (hh : cd.hasDict = true) (hn : findIn K (.ref C) name = some none)
    (q : ∀ h' tk', (∀ b o, b ≠ dx → hp.get? b = some o → h'.get? b = some o) → h'.Ns1 dx (fun y => if y = name then some v else m0 y) → R (.ok (.ret .none)) ⟨h', g, d, tk', os⟩) :
    codeAny (model prog w) A (.call (.builtin "object.__setattr__") ⟨[.ref x, .str name tk, v], []⟩) R ⟨hp, g, d, t, os⟩ := by
  have over : excOver K C exT = true := by
    unfold excOver
    rw [hc]
    show (match cd.mro with | .ref C' :: bm => C' == C && excTail exT bm | _ => false) = true
    rw [hm]
    show (C == C && excTail exT bm) = true
    rw [ht, beq_self_eq_true] <;> rfl
  have free : takerIn K C name = some none := by
    unfold takerIn
    rw [hn] <;> rfl
  obtain ⟨oD, esD, epD, hoD, hdD, _⟩ := hns.count hw
  refine osa_openX (s := ⟨hp, g, d, t, os⟩) F.store_Exception X (ox := { cls := .ref C, dict := some dx, data := .fields fv }) (od := some oD) ⟨ho, rfl, rfl, hoD⟩ over free fun b => ?_
  have look : Looks (model prog w) hp (classData C) cd := looks_clsIn X hc
  obtain ⟨c1, c2, c3, c4, c5, c6, c7, c8, c9, c10, c11⟩ := cd
  dsimp only at hh
  subst hh
  show wpAny _ _ (storeInOwnDict (.ref x) (.ref C) (.str name tk) name v b) _ _ _
  unfold storeInOwnDict ownDictForStores
  repeat (first | with_reducible refine OEX.store_in_old hns hw hz ?_ | with_reducible refine wpAny_loadPart_at ho ?_ | with_reducible refine look.at ?_ | wp_step)
  intro h2 tk2 n2 sb
  exact q h2 tk2 (fun b o hb e => (sb.2 b hb).trans e) n2
end
/-! ### the text of __init__ -/
def iA (p1 p2 p3 : Pos) : Arguments := { posonlyargs := [], args := [{ arg := "self", annotation := none, pos := p1 }, { arg := "name", annotation := none, pos := p2 }, { arg := "why", annotation := none, pos := p3 }], vararg := none, kwonlyargs := [], kw_defaults := [], kwarg := none, defaults := [] }
def iB (q1 q2 q3 q4 q5 q6 q7 q8 : Pos) : List Stmt := [.Assign [.Attribute (.Name "self" q1) "name" q2] (.Name "name" q3) q4, .Assign [.Attribute (.Name "self" q5) "why" q6] (.Name "why" q7) q8]
def iS : Scope := { kind := .function, names := [(PySem.Str.ofString "self", .local), (PySem.Str.ofString "name", .local), (PySem.Str.ofString "why", .local)], isGenerator := false, isCoroutine := false, more := [] }
/-- what the written part says of BadThing, at C, and of its __init__, at fI -/
structure BadTxt (K : Frag) (mg : Str → Option Value) (C fI : Addr) : Prop where
  gC : mg "BadJob" = some (.ref C)
  cls : ∃ nm q N bs bm sn sub ab col dd k0 k1 k2 k3 k5, K.lookup C = some (excClassObj nm q C N bs bm true sn sub ab col dd k0 k1 k2 k3 k5 "Exception.__new__") ∧ excTail exT bm = true
  sa : findIn K (.ref C) "__setattr__" = some (some (.builtin "object.__setattr__"))
  ga : findIn K (.ref C) "__getattribute__" = some (some (.builtin "BaseException.__getattribute__"))
  gg : findIn K (.ref C) "__getattr__" = some none
  noN : findIn K (.ref C) "name" = some none
  noW : findIn K (.ref C) "why" = some none
  iC : findIn K (.ref C) "__init__" = some (some (.ref fI))
  tC : typeIn K (.ref fI) = some (.type "function")
  kC : keepIn K (.ref C) = true
  exC : subIn K (.ref C) (.type "BaseException") = some true
  tyC : typeIn K (.ref C) = some (.type "type")
  hdC : hasDictIn K C = true
  te : exmOne K (.ref C) (.ref C) = some true
  fn : ∃ (oc : Value) (od : Option Addr) (doc pm : Value) (an : Option Addr) (cdv ct : Value) (osl : Array (Option Value)) (p1 p2 p3 q1 q2 q3 q4 q5 q6 q7 q8 : Pos),
    K.lookup fI = some ⟨oc, od, .func (fnOf "__init__" "BadJob.__init__" (iA p1 p2 p3) (iB q1 q2 q3 q4 q5 q6 q7 q8) iS .none .none doc pm an cdv ct), osl⟩ ∧ codeIn K cdv "BadJob.__init__" = true
theorem two_size (v u : Value) : [v, u].length ≤ sizeLine := by
  rw [sizeLine_eq]
  exact (by decide : 2 ≤ 16777216)
theorem kept_but {K : Frag} {h h' : Heap} {x : Addr} (X : K.In h) (hx : K.lookup x = none) (k : ∀ b o, b ≠ x → h.get? b = some o → h'.get? b = some o) : K.In h' := fun a o e =>
  k a o (fun z => by rw [z, hx] at e; cases e) (X a o e)
theorem ldC {M : Model} {s : Shared} {name : Str} {scope : Scope} {L a : Addr} {cd : Value} {m : Str → Option Value} {x : Str} {pos : Pos} {v : Value} {Q : Value → Shared → Prop} {A : Around} {E : Value → Shared → Prop} (hn : s.heap.Ns L m) (hv : m x = some v) (h : Q v s)
    (hk : scope.kind = .function := by rfl) (hl : (envOfC name scope L a cd).kindOf x = some .local := by rfl) (hd : (x == ("__debug__" : Str)) = false := by decide) :
    wpAny M A (eval (.Name x pos) (envOfC name scope L a cd)) Q E s := wpAny_Name (wpAny_loadName_local hk hl hn hv h) hd
/-- what __init__ leaves of a fresh exception at x -/
structure InitEnd (h h' : Heap) (x C dx t1 : Addr) (v u : Value) : Prop where
  keep : ∀ b o, b ≠ x → h.get? b = some o → h'.get? b = some o
  obj : h'.get? x = some { cls := .ref C, dict := some dx, data := .fields #[.ref t1, .none, .none, .none, .bool false, .none] }
  dbig : h.objs.size ≤ dx
  dne : dx ≠ x
  ns : h'.Ns1 dx (fun y => if y = "why" then some u else if y = "name" then some v else none)
/-- a made BadThing -/
structure OwnMade (h h' : Heap) (e C d : Addr) (v u : Value) : Prop where
  keep : ∀ b o, h.get? b = some o → h'.get? b = some o
  new : h.objs.size ≤ e
  obj : ∃ oe vs, h'.get? e = some oe ∧ oe.cls = .ref C ∧ oe.dict = some d ∧ oe.data = .fields vs ∧ vs[1]? = some .none
  dbig : h.objs.size ≤ d
  dne : d ≠ e
  ns : h'.Ns1 d (fun y => if y = "why" then some u else if y = "name" then some v else none)
section
variable {prog : Program} {w : World} {A : Around} {E : Value → Shared → Prop} {R : Result → Shared → Prop} {s : Shared} {K : Frag} {mg : Str → Option Value} {C fI : Addr}
theorem within_one {v : Value} : Within (fun y => if y = ("name" : Str) then some v else none) ["name"] := fun y hy => by
  by_cases h : y = ("name" : Str)
  · rw [h]
    exact List.mem_cons_self
  · exact absurd (if_neg h) hy
theorem bad_init (T : BadTxt K mg C fI) {x t0 : Addr} {v u : Value} (X : K.In s.heap) (hlim : s.heap.NoLimit) (hx : s.heap.get? x = some (excO C t0)) (hnx : K.lookup x = none) (hroom : A.depth < recursionLimit)
    (hq : ∀ h' tk dx, InitEnd s.heap h' x C dx t0 v u → R (.ok (.ret .none)) { s with heap := h', toks := tk }) :
    codeAny (model prog w) A (.call (.ref fI) ⟨[.ref x, v, u], []⟩) R s := by
  obtain ⟨oc, od, doc, pm, an, cdv, ct, osl, p1, p2, p3, q1, q2, q3, q4, q5, q6, q7, q8, ho, hcd⟩ := T.fn
  obtain ⟨nm, q, N, bs, bm, sn, sub, ab, col, dd, k0, k1, k2, k3, k5, hC, hbm⟩ := T.cls
  have hcl : clsIn K C = some { name := nm, bases := bs, mro := .ref C :: bm, ns := N, qualname := q, hasDict := true, slotNames := sn, subclasses := sub, abstract := ab, collection := col, hasDel := false } := by unfold clsIn; rw [hC] <;> rfl
  refine Att.call_fn (binds := [("self", .ref x), ("name", v), ("why", u)]) X hlim ho hcd hroom (BindsTo.of_eq (by first | rfl | with_unfolding_all rfl)) (by first | rfl | decide | with_unfolding_all rfl) (fun s₁ IC => ?_) rfl rfl rfl
  obtain ⟨h₁, tk₁, rfl⟩ := IC.toInCall.same
  have k : ∀ b o, s.heap.get? b = some o → h₁.get? b = some o := IC.toInCall.keep
  have hn := IC.toInCall.ns
  have hxL : s.heap.objs.size ≠ x := Nat.ne_of_gt (Heap.lt_size hx)
  have X₁ : K.In h₁ := X.keeps k
  have hx₁ := k _ _ hx
  -- self.by = by
  show wpAny _ _ (execs _ _) _ _ _
  refine wpAny_execs_cons (plainObj_wpAny_Assign_Attribute ?_)
  refine ldC (v := v) hn (by first | rfl | with_unfolding_all rfl | kernel_rfl) (ldC (v := .ref x) hn (by first | rfl | with_unfolding_all rfl | kernel_rfl) ?_)
  refine set_plain X₁ (ox := excO C t0) (od := none) ⟨hx₁, rfl, rfl, trivial⟩ T.sa ?_
  refine osa_first X₁ hx₁ hcl (show excTail exT bm = true from hbm) rfl rfl T.noN (fun h₃ tk₃ dx k₃ dn dne hx₃ hn₃ => ?_)
  have xL : s.heap.objs.size ≠ x := hxL
  have z : s.heap.objs.size < h₁.objs.size := hn.lt
  have X₃ : K.In h₃ := kept_but X₁ hnx k₃
  have hn₃' := hn.at fun o e => k₃ _ o xL e
  -- self.why = why
  show wpAny _ _ (execs _ _) _ _ _
  refine wpAny_execs_cons (plainObj_wpAny_Assign_Attribute ?_)
  refine ldC (v := u) hn₃' (by first | rfl | with_unfolding_all rfl | kernel_rfl) (ldC (v := .ref x) hn₃' (by first | rfl | with_unfolding_all rfl | kernel_rfl) ?_)
  have cnt : Within (fun y => if y = "name" then some v else none) ["name"] := within_one
  obtain ⟨oD, esD, epD, hoD, hdD, _⟩ := hn₃.count cnt
  refine set_plain X₃ (ox := { cls := .ref C, dict := some dx, data := .fields #[.ref t0, .none, .none, .none, .bool false, .none] }) (od := some oD) ⟨hx₃, rfl, rfl, hoD⟩ T.sa ?_
  refine osa_second X₃ hx₃ hn₃ cnt (by decide) hcl (show excTail exT bm = true from hbm) rfl rfl T.noW (fun h₄ tk₄ k₄ hn₄ => ?_)
  show wpAny _ _ (execs _ _) _ _ _
  have hdx : s.heap.objs.size ≤ dx := Nat.le_of_lt (Nat.lt_of_lt_of_le z dn)
  exact wpAny_execs_nil (hq h₄ tk₄ dx ⟨fun b o hb e => k₄ b o (Nat.ne_of_lt (Nat.lt_of_lt_of_le (Heap.lt_size e) hdx)) (k₃ b o hb (k b o e)), k₄ _ _ (Ne.symm dne) hx₃, hdx, dne, hn₄⟩)
theorem bad_made (T : BadTxt K mg C fI) {v u : Value} (X : K.In s.heap) (hlim : s.heap.NoLimit) (hroom : A.depth + 1 < recursionLimit)
    (hq : ∀ h' tk e d, OwnMade s.heap h' e C d v u → R (.ok (.ret (.ref e))) { s with heap := h', toks := tk }) :
    codeAny (model prog w) A (.call (.ref C) ⟨[v, u], []⟩) R s := by
  obtain ⟨nm, q, N, bs, bm, sn, sub, ab, col, dd, k0, k1, k2, k3, k5, hC, hbm⟩ := T.cls
  obtain ⟨hp, g, dr, tk, os⟩ := s
  have k : ∀ b o, hp.get? b = some o → ((hp.push (kdv_tup [v, u])).push (excO C hp.objs.size)).get? b = some o := fun b o e => Heap.get?_push_of_some _ (Heap.get?_push_of_some _ e)
  have hget : ((hp.push (kdv_tup [v, u])).push (excO C hp.objs.size)).get? (hp.objs.size + 1) = some (excO C hp.objs.size) := by heap_get
  have hnx : K.lookup (hp.objs.size + 1) = none := by
    cases e : K.lookup (hp.objs.size + 1) with
    | none => rfl
    | some o =>
      have z : hp.get? (hp.objs.size + 1) = some o := X _ _ e
      exact absurd (Nat.lt_of_succ_lt (Heap.lt_size z)) (Nat.lt_irrefl _)
  refine call_own F.excBase_Exception (fun X => excTail_contains X bm hbm) (X _ _ hC) (looks_findIn X T.iC) (fun self => bind_fn X self T.tC) (two_size v u) ?_
  refine bad_init (s := ⟨(hp.push (kdv_tup [v, u])).push (excO C hp.objs.size), g, dr, tk, os⟩) T (X.keeps k) (hlim.keeps k) hget hnx ?_ fun h' tk' dx ⟨k', hx, dn, dne, hns⟩ => ?_
  · show A.depth + 1 < recursionLimit
    exact hroom
  · have old : ∀ b o, hp.get? b = some o → h'.get? b = some o := fun b o e => k' b o (Nat.ne_of_lt (Nat.lt_succ_of_lt (Heap.lt_size e))) (k b o e)
    have z : hp.objs.size + 1 + 1 ≤ dx := by
      first
        | (simpa only [Heap.size_push] using dn)
        | exact dn
        | (have q := dn; rw [Heap.size_push, Heap.size_push] at q; exact q)
    exact ⟨rfl, hq h' tk' (hp.objs.size + 1) dx ⟨old, Nat.le_succ _, ⟨_, _, hx, rfl, rfl, rfl, rfl⟩, Nat.le_trans (Nat.le_trans (Nat.le_succ _) (Nat.le_succ _)) z, dne, hns⟩⟩
end
end BadY
end PySem
namespace Kx
open PySem PySem.Spec PyProof.Rows L2
theorem relO_bad {v u : V} {v' u' : Value} (r : RelV v v') (ru : RelV u u') (f : Str) : RelO (List.lookup f [(("name" : Str), v), ("why", u)]) (if f = "why" then some u' else if f = "name" then some v' else none) := by
  by_cases hw : f = "why"
  · subst hw
    rw [if_pos rfl]
    exact ru
  · rw [if_neg hw]
    by_cases hn : f = "name"
    · subst hn
      rw [if_pos rfl]
      exact r
    · rw [if_neg hn]
      have q1 : (f == ("name" : Str)) = false := by simpa using hn
      have q2 : (f == ("why" : Str)) = false := by simpa using hw
      have q3 : List.lookup f [(("name" : Str), v), ("why", u)] = none := by simp [List.lookup, q1, q2]
      rw [q3]
      trivial
section
variable {X : Cx} {C fI : Addr}
/-- BadJob(e, f) -/
def tMkBad2 (C : Addr) (ta : TA) : L2.St → Hp → XK → Prop := fun σ H Q => ta σ H fun vs H1 => ∃ v u, vs = [v, u] ∧ ∀ d, H1 d = none → Q (.ref C) (some d) (upd H1 d (.xd [(("name" : Str), v), ("why", u)]))
theorem pmk_bad2 {a b : Expr} {ta : TA} {p pos : Pos} {k : Nat} (T : PySem.BadY.BadTxt X.K X.mg C fI) (hr : Room k X.A) (ha : PA X [a, b] ta) (hg : Gl X "BadJob" := by rfl)
    (he : starEach (a :: [b]) X.env = (false, eval a X.env) :: starEach [b] X.env := by rfl) (hpl : (backTo pos (starEach [b] X.env)).any (·.1) = false := by rfl) :
    PMk X (.Call (.Name "BadJob" p) [a, b] [] pos) (tMkBad2 C ta) := by
  intro pins s σ H Q I h
  refine wpAny_Call_Name_kw (ld_glob I hg T.gC ?_)
  refine PySem.W.callWith_K (h₀ := X.base) I.ok.mod.kin T.kC (thn (ha.run pos pins s σ H _ I h) fun us s1 hh => ?_) he hpl
  obtain ⟨vs, H1, I1, r1, v, u, ev, q1⟩ := hh
  subst ev
  refine ⟨I1.kIn, ?_⟩
  cases r1 with
  | cons rv rn =>
    rename_i v' us'
    cases rn with
    | cons ru rn =>
      rename_i u' us2
      cases rn
      show wpAny _ _ (call (.ref C) [v', u']) _ _ _
      have hlim := I1.nolimit
      obtain ⟨hp, g, dr, tk, os⟩ := s1
      refine wpAny_call (PySem.BadY.bad_made T I1.kIn hlim (by have := hr.dp; omega) fun h' tk' e d M => ?_)
      show MkP X pins σ Q (.ref e) ⟨h', g, dr, tk', os⟩
      obtain ⟨oe, fv, hoe, hc, hd, hdat, h1⟩ := M.obj
      have hns := M.ns
      obtain ⟨G', g1, g2⟩ := restrict h' fun b => decide (b ≠ e)
      have gk : ∀ b, b ≠ e → G'.get? b = h'.get? b := fun b hb => g1 b (decide_eq_true hb)
      have ge : G'.get? e = none := g2 e (by simp)
      have old : ∀ b o, hp.get? b = some o → G'.get? b = some o := fun b o q => (gk b (Nat.ne_of_lt (Nat.lt_of_lt_of_le (Heap.lt_size q) M.new))).trans (M.keep b o q)
      have ob : ObjOk X.prog X.w (upd H1 d (.xd [(("name" : Str), v), ("why", u)])) G' d (.xd [(("name" : Str), v), ("why", u)]) :=
        ⟨_, hns.at (fun o q => (gk d M.dne).trans q), fun f => relO_bad rv ru f⟩
      have J : Inv X pins σ (upd H1 d (.xd [(("name" : Str), v), ("why", u)])) ⟨G', g, dr, tk', os⟩ := I1.laid (t' := tk') old M.dbig ob
      refine ⟨e, oe, fv, ⟨G', g, dr, tk', os⟩, _, .ref C, some d, rfl, J, fun b o q => ?_, ge, hoe, ⟨hc, hd⟩, hdat, h1, ?_, rfl, I1.bare, raises_own T.exC T.tyC, q1 d (I1.hok.fresh M.dbig)⟩
      · by_cases hb : b = e
        · have q' : G'.get? b = some o := q
          rw [hb, ge] at q'; cases q'
        · exact (gk b hb).symm.trans q
      · rw [upd_ne (Ne.symm M.dne)]
        exact I1.hok.fresh M.new
/-- raise BadJob(e, f) -/
def tRaiseBad2 (C : Addr) (W : WX) (ta : TA) : TS := fun _ σ H => tMkBad2 C ta σ H fun cls d H' => W cls d σ H'
theorem ps_raiseBad2 {a b : Expr} {ta : TA} {W : WX} {p pos pos2 : Pos} {k : Nat} (hc : X.calm = true) (T : PySem.BadY.BadTxt X.K X.mg C fI) (hr : Room k X.A) (tk : Takes X W) (ha : PA X [a, b] ta) (hg : Gl X "BadJob" := by rfl)
    (he : starEach (a :: [b]) X.env = (false, eval a X.env) :: starEach [b] X.env := by rfl) (hpl : (backTo pos (starEach [b] X.env)).any (·.1) = false := by rfl) :
    PS X (.Raise (some (.Call (.Name "BadJob" p) [a, b] [] pos)) none pos2) (tRaiseBad2 C W ta) := ps_raise hc tk (pmk_bad2 T hr ha hg he hpl)
/-- error.name, low the exception that the suite holds (at a; its class cls, its dict d) -/
def tByName (C : Addr) (a : Addr) (cls : Value) (d : Option Addr) (te : TE) : TE := fun σ H Q => te σ H fun x H1 => x = .ref a ∧ cls = .ref C ∧ ∃ (dd : Addr) (v u : V), d = some dd ∧ H1 dd = some (.xd [(("name" : Str), v), ("why", u)]) ∧ Q v H1
theorem pe_byName {a : Addr} {oe : Obj} {cls : Value} {d : Option Addr} {pn : List (Addr × Obj)} {e : Expr} {te : TE} {pos : Pos} (T : PySem.BadY.BadTxt X.K X.mg C fI) (hz : Zc cls d oe) (hf : ∃ vs, oe.data = .fields vs) (he : PE (X.suite a ((a, oe) :: pn)) e te)
    (hb : attributeBase e "name" X.env (eval e X.env) = eval e X.env := by rfl) :
    PE (X.suite a ((a, oe) :: pn)) (.Attribute e "name" pos) (tByName C a cls d te) := by
  refine ⟨fun pins s σ H Q I h => ?_⟩
  refine attr_of hb (thn (he.run pins s σ H _ I h) fun ue s1 hh => ?_)
  obtain ⟨x, H1, I1, rx, ex, ec, dd, v, u, ed, ea, q⟩ := hh
  subst ex
  obtain rfl : ue = Value.ref a := rx
  subst ec
  subst ed
  obtain ⟨ha, _⟩ := I1.pin (a, oe) (List.mem_append_left _ List.mem_cons_self)
  obtain ⟨vs, hd⟩ := hf
  have hx : ObjOk X.prog X.w H1 s1.heap dd (.xd [(("name" : Str), v), ("why", u)]) := I1.hok dd _ ea
  obtain ⟨mA, hns, hr⟩ := hx
  obtain ⟨od, ho, hl⟩ := lookIn_ns hns
  have l : List.lookup ("name" : Str) [(("name" : Str), v), ("why", u)] = some v := by simp [List.lookup]
  obtain ⟨u1, hu, ru⟩ := RelO.some_of (v := v) (o := mA "name") (by rw [← l]; exact hr "name")
  have J : PySem.W.InstAt s1.heap a oe C (some od) := ⟨ha, hz.1, by unfold PySem.W.notCls; rw [hd] <;> rfl, by rw [hz.2]; exact ho⟩
  exact HandSPX.exc_get I1.kIn J T.ga T.gg T.exC (PySem.W.findObj_own T.hdC T.noN rfl (by rw [hl, hu])) (handed_of ru) ⟨v, H1, I1.tok _, ru, q⟩
end
end Kx


set_option maxHeartbeats 8000000
namespace Kx
open PySem PySem.Spec PyProof.Rows L2
abbrev s_check_there : Stmt := topS 61
abbrev s_unlike_columns : Stmt := topS 62
abbrev s_columns_of_read : Stmt := topS 63
abbrev s_columns_of_filter : Stmt := topS 64
abbrev s_columns_of_union : Stmt := topS 69
abbrev s_columns_of_unlike : Stmt := topS 70
abbrev s_columns_of_sort : Stmt := topS 71
structure ReadyX (P : Program) (w : World) (K : PySem.W.Frag) (mg : Str → Option Value) (base : Heap) (k : Nat) (x : Str) (ps : List Str) (sp : Sp) : Prop where
  ex : ∃ f fd, FnOk P w K mg base (L2.CX P w) k f fd ps sp ∧ Binds K fd ps [] ∧ mg x = some (.ref f) ∧ PySem.W.keepIn K (.ref f) = true
theorem pe_fnX {X : Cx} {W : WX} {k : Nat} {x : Str} {ps : List Str} {sp : Sp} {p pos : Pos} {e : Expr} {es : List Expr} {t : TA} (G : ReadyX X.prog X.w X.K X.mg X.base k x ps sp) (hr : Room k X.A) (tk : Takes X W) (ha : PA X (e :: es) t) (hg : Gl X x := by rfl)
    (hdb : (x == ("__debug__" : Str)) = false := by decide) (he : starEach (e :: es) X.env = (false, eval e X.env) :: starEach es X.env := by rfl) (hpl : (backTo pos (starEach es X.env)).any (·.1) = false := by rfl) :
    PE X (.Call (.Name x p) (e :: es) [] pos) (tCallS sp (WE W) t) := by
  obtain ⟨f, fd, h, hb, hm, hk⟩ := G.ex
  exact pe_callS h hr hg hm hk hb (fun σ => passAt tk σ) ha hdb he hpl
theorem pi_or {X : Cx} {tg e : Expr} {t1 t2 : TI} (h1 : PI X tg e t1) (h2 : PI X tg e t2) : PI X tg e (fun σ H R => t1 σ H R ∨ t2 σ H R) :=
  ⟨fun pins s σ H R I h => h.elim (h1.run pins s σ H R I) (h2.run pins s σ H R I)⟩
/-- what an error of a step's name says -/
def BadE (C : Addr) (nm : Str) (H : Hp) (E : XK) : Prop := ∀ (H' : Hp) (u : V) (d : Addr), Same H H' → H' d = none → E (.ref C) (some d) (upd H' d (.xd [("name", .str nm), ("why", u)]))
section
variable {P : Program} {w : World} {K : PySem.W.Frag} {mg : Str → Option Value} {base : Heap}
/-! ### check_there -/
def spThere (K : PySem.W.Frag) (C : Addr) : Sp := fun vs H Q E => ∃ (nm : Str) (ws kd : Addr) (xs : List Str) (kf : Str → Option Bool), vs = [.str nm, .ref ws, .ref kd] ∧ (SqT K H ws (xs.map V.str) ∨ SqL K H ws (xs.map V.str)) ∧ KdAt H kd kf ∧ ((∀ x ∈ xs, kf x ≠ none) → Q .non H) ∧ ((∃ x ∈ xs, kf x = none) → BadE C nm H E)
theorem sc_there : FnScope ["name", "words", "kinds", "word"] ["name", "words", "kinds"] (defScope s_check_there) := ⟨rfl, rfl, rfl, by decide +kernel, rfl, by decide +kernel, by decide +kernel⟩
theorem ok_there {f C fI : Addr} {fd : FuncData} (F : Fun K "check_there" "check_there" s_check_there f fd) (T : PySem.BadY.BadTxt K mg C fI) : FnOk P w K mg base (L2.CX P w) 2 f fd ["name", "words", "kinds"] (spThere K C) := by
  refine F.okX sc_there (fun vs H Q E h => ?_) (fun cdv A outer s H vs Q E hr h => ?_)
  · obtain ⟨nm, ws, kd, xs, kf, rfl, _⟩ := h
    rfl
  obtain ⟨nm, ws, kd, xs, kf, rfl, hw, hk, q, qe⟩ := h
  have nd := sc_there.nd
  have hr1 : Room 1 _ := hr
  have hu64 : _ + 64 < cLine := hr.units
  have hu1 : _ + 1 < cLine := Nat.lt_of_le_of_lt (Nat.add_le_add_left (by decide : 1 ≤ 64) _) hu64
  refine ⟨_, pss_one (ps_for (passes_of rfl) rfl (pi_or (pi_tup (pv 1)) (pi_list (pv 1))) (pg_name (i := 3) nd rfl (.inl rfl)) (pss_one (ps_if (pt_cmp (pc_dnotin hu1 (pv 3) (pv 2)) rfl) (pss_one (ps_raiseBad2 rfl T hr1 (takes_of rfl rfl rfl rfl) (pa_cons (pv 0) (pa_cons pe_str pa_nil)))) (pss_nil)))), ?_⟩
  obtain ⟨kvs, ek, gk⟩ := hk
  rcases hw with hw | hw
  · refine .inl ⟨_, rfl, ws, rfl, ⟨_, hw⟩, ?_⟩
    refine for_tup (K := K) (a := ws) (xs := xs.map V.str) (fun i σ H' => ∃ y3, σ = [some (.str nm), some (.ref ws), some (.ref kd), y3] ∧ H' = H ∧ ∀ x ∈ xs.take i, kf x ≠ none) ⟨_, rfl, rfl, fun x hx => absurd hx (by simp)⟩ (fun i σ H' _ h => by obtain ⟨_, _, rfl, _⟩ := h; exact hw) ?_ ?_
    · rintro i x σ H' hx ⟨y3, rfl, rfl, ok⟩
      rw [List.getElem?_map] at hx
      obtain ⟨x, ex, rfl⟩ := Option.map_eq_some_iff.mp hx
      have gx := gk x
      refine ⟨_, rfl, _, rfl, kd, _, rfl, DGet.k (k := .inr x) ek, _, rfl, ?_⟩
      cases h : kf x with
      | none =>
        have e0 : valV kvs (.inr x) = none := by rw [gx, h]; rfl
        rw [e0]
        exact iteT ⟨_, rfl, _, _, rfl, fun d nd' => qe ⟨x, List.mem_of_getElem? ex, h⟩ _ _ d (Same.refl _) nd'⟩
      | some b =>
        have e0 : valV kvs (.inr x) = some (.str (kW b)) := by rw [gx, h]; rfl
        rw [e0]
        refine iteF ⟨_, rfl, rfl, fun z hz => ?_⟩
        rw [List.take_add_one, ex] at hz
        rcases List.mem_append.mp hz with hz | hz
        · exact ok z hz
        · rw [List.mem_singleton.mp hz, h]
          intro z
          cases z
    · rintro σ H' ⟨y3, rfl, rfl, ok⟩
      exact q fun x hx => ok x (by rw [List.length_map, List.take_length]; exact hx)
  · refine .inr ⟨_, rfl, ws, rfl, ⟨_, hw⟩, ?_⟩
    refine for_list (K := K) (a := ws) (xs := xs.map V.str) (fun i σ H' => ∃ y3, σ = [some (.str nm), some (.ref ws), some (.ref kd), y3] ∧ H' = H ∧ ∀ x ∈ xs.take i, kf x ≠ none) ⟨_, rfl, rfl, fun x hx => absurd hx (by simp)⟩ (fun i σ H' _ h => by obtain ⟨_, _, rfl, _⟩ := h; exact hw) ?_ ?_
    · rintro i x σ H' hx ⟨y3, rfl, rfl, ok⟩
      rw [List.getElem?_map] at hx
      obtain ⟨x, ex, rfl⟩ := Option.map_eq_some_iff.mp hx
      have gx := gk x
      refine ⟨_, rfl, _, rfl, kd, _, rfl, DGet.k (k := .inr x) ek, _, rfl, ?_⟩
      cases h : kf x with
      | none =>
        have e0 : valV kvs (.inr x) = none := by rw [gx, h]; rfl
        rw [e0]
        exact iteT ⟨_, rfl, _, _, rfl, fun d nd' => qe ⟨x, List.mem_of_getElem? ex, h⟩ _ _ d (Same.refl _) nd'⟩
      | some b =>
        have e0 : valV kvs (.inr x) = some (.str (kW b)) := by rw [gx, h]; rfl
        rw [e0]
        refine iteF ⟨_, rfl, rfl, fun z hz => ?_⟩
        rw [List.take_add_one, ex] at hz
        rcases List.mem_append.mp hz with hz | hz
        · exact ok z hz
        · rw [List.mem_singleton.mp hz, h]
          intro z
          cases z
    · rintro σ H' ⟨y3, rfl, rfl, ok⟩
      exact q fun x hx => ok x (by rw [List.length_map, List.take_length]; exact hx)
/-! ### unlike_columns -/
abbrev N_unlike_columns : List Str := ["name", "columns", "words", "column", "_"]
def spUnl (K : PySem.W.Frag) (C : Addr) : Sp := fun vs H Q E => ∃ (nm : Str) (ca : Addr) (as : List Col), vs = [.str nm, .ref ca] ∧ (TupF H ca (as.map fun c => .ref c.1) ∨ H ca = some (.lst (as.map fun c => .ref c.1))) ∧ PairsAt H as ∧ as.length ≤ 500 ∧
  ((as.map fun c => c.2.1).Nodup → ∀ (a : Addr) (H' : Hp), Same H H' → TupF H' a (as.map fun c => .ref c.1) → Q (.ref a) H') ∧ (¬ (as.map fun c => c.2.1).Nodup → BadE C nm H E)
theorem sc_unl : FnScope N_unlike_columns ["name", "columns"] (defScope s_unlike_columns) := ⟨rfl, rfl, rfl, by decide +kernel, rfl, by decide +kernel, by decide +kernel⟩
theorem ok_unl {f C fI : Addr} {fd : FuncData} (F : Fun K "unlike_columns" "unlike_columns" s_unlike_columns f fd) (T : PySem.BadY.BadTxt K mg C fI) (m_len : mg "len" = none) (m_set : mg "set" = none) (m_tuple : mg "tuple" = none) : FnOk P w K mg base (L2.CX P w) 2 f fd ["name", "columns"] (spUnl K C) := by
  refine F.okX sc_unl (fun vs H Q E h => ?_) (fun cdv A outer s H vs Q E hr h => ?_)
  · obtain ⟨nm, ca, as, rfl, _⟩ := h
    rfl
  obtain ⟨nm, ca, as, rfl, hca, hp, h500, q, qe⟩ := h
  have nd := sc_unl.nd
  have hr1 : Room 1 _ := hr
  refine ⟨_, pss_cons (ps_setLc (i := 2) (own := [("column", 3), ("_", 4)]) (g := (gTup K 2 (gCons (gName 3) (gCons (gName 4) gNil)))) (tt := tYes) rfl nd rfl rfl (sw_true rfl rfl rfl (by decide +kernel)) (pi_or (pi_tup (pv 1)) (pi_list (pv 1))) (blkOk_by (N := N_unlike_columns) (sc := defScope s_unlike_columns) (by decide +kernel)) (fun _ _ _ _ _ => pg_tup rfl (pgs_cons (pg_name (i := 3) nd rfl (.inl rfl)) (pgs_cons (pg_name (i := 4) nd rfl (.inl rfl)) pgs_nil))) (fun _ _ _ _ _ => pts_nil) (fun _ _ _ _ _ => (pv 3)))
      (pss_cons (ps_if (pt_cmpR op_ne (pe_callB cr_lenK (by rfl) m_len PySem.boot_len (pa_cons (pe_callTy (Yk.cr_setK rfl) (by rfl) m_set PyProof.Rows.boot_set (pa_cons (pv 2) pa_nil)) pa_nil)) (pe_callB call_len_seq (by rfl) m_len PySem.boot_len (pa_cons (pv 2) pa_nil)) (nomark _)) (pss_one (ps_raiseBad2 rfl T hr1 (takes_of rfl rfl rfl rfl) (pa_cons (pv 0) (pa_cons pe_str pa_nil)))) (pss_nil))
      (pss_one (ps_ret (pe_callTy cr_tupleF (by rfl) m_tuple PyProof.Rows.boot_tuple (pa_cons (pv 1) pa_nil))))), ?_⟩
  have s500 : ∀ {n : Nat}, n ≤ 500 → n < sizeLine := fun h => Nat.lt_of_le_of_lt h (by decide)
  have fin : ∀ (D1 : Addr) (H1 : Hp), Same H H1 → H1 D1 = some (.lst ((as.map fun c => c.2.1).map V.str)) → (as.map fun c => c.2.1).length ≤ 500 → ∀ (M : List L2.Key), M.Nodup → (∀ z, z ∈ M ↔ z ∈ (as.map fun c => c.2.1).map (fun x => (Sum.inr x : L2.Key))) → (M.length = (as.map fun c => c.2.1).length ↔ (as.map fun c => c.2.1).Nodup) := fun D1 H1 _ _ _ M nM mM => by
    constructor
    · intro e
      exact nodup_strs (len_nodup nM mM (by rw [List.length_map]; omega))
    · intro hn
      have hn' : ((as.map fun c => c.2.1).map (fun x => (Sum.inr x : L2.Key))).Nodup := List.pairwise_map.mpr (hn.imp fun ne e => ne (Sum.inr.inj e))
      have h1 := nodup_len nM fun z hz => (mM z).mp hz
      have h2 := nodup_len hn' fun z hz => (mM z).mpr hz
      rw [List.length_map] at h1 h2
      omega
  rcases hca with tf | tf
  · refine .inl ⟨_, rfl, ca, rfl, ⟨_, tf.sq (K := K)⟩, fun D1 hD1 => lc_tup (K := K) (a := ca) (xs := as.map fun c => .ref c.1) (fun i H' => Same H H' ∧ H' D1 = some (.lst (((as.map fun c => c.2.1).take i).map V.str))) ⟨same_upd hD1, upd_same⟩ (fun i H' _ h => (same_f h.1 _ _ tf).sq (K := K)) ?_ ?_⟩
    · rintro i x H' hx ⟨sm, e⟩
      rw [List.getElem?_map] at hx
      obtain ⟨p, hp', rfl⟩ := Option.map_eq_some_iff.mp hx
      have eu := hp p (List.mem_of_getElem? hp')
      refine ⟨p.1, _, rfl, SqT.of (sm _ _ eu), rfl, _, _, rfl, _, _, rfl, rfl, rfl, _, rfl, _, e, ?_, fun b o' e' => ?_, ?_⟩
      · rw [List.length_map, List.length_take, List.length_map]
        exact s500 (by omega)
      · rw [upd_ne (ne_of_none e' hD1)]
        exact sm _ _ e'
      · have h1 : (as.map fun c => c.2.1).take (i + 1) = (as.map fun c => c.2.1).take i ++ [p.2.1] := by
          rw [List.take_add_one, List.getElem?_map, hp']
          rfl
        rw [h1, List.map_append]
        exact upd_same
    rintro H1 ⟨s1, e1⟩
    rw [List.length_map, List.take_of_length_le (by rw [List.length_map]; exact Nat.le_refl _)] at e1
    have ek : ((as.map fun c => c.2.1).map (fun x => (Sum.inr x : L2.Key))).map kV = (as.map fun c => c.2.1).map V.str := by
      rw [List.map_map]
      rfl
    refine ⟨_, rfl, D1, (as.map fun c => c.2.1).map (fun x => (Sum.inr x : L2.Key)), rfl, .inl (SqL.of (by rw [ek]; exact e1)), (by rw [List.length_map, List.length_map]; omega), fun p M nM mM hpp => ?_⟩
    have s2 := same_upd (o := Yk.SetKO P w p M) hpp
    have iff := fin D1 H1 s1 e1 (by rw [List.length_map]; exact h500) M nM mM
    refine ⟨p, M, rfl, upd_same, _, rfl, D1, _, rfl, .inl (SqL.of (s2 _ _ e1)), rfl, _, rfl, ite2 (fun c => ?_) (fun c => ?_)⟩
    · have hn : ¬ (as.map fun c => c.2.1).Nodup := fun z => by
        have h1 := iff.mpr z
        have h2 : (((as.map fun c => c.2.1).map V.str).length : Nat) = M.length := by rw [List.length_map, h1]
        rw [h2] at c
        simp at c
      exact ⟨_, rfl, _, _, rfl, fun d nd' => qe hn _ _ d (s1.trans s2) nd'⟩
    · have hy : (as.map fun c => c.2.1).Nodup := iff.mp (by
        by_cases z : M.length = (as.map fun c => c.2.1).length
        · exact z
        · exfalso
          apply c
          have h2 : ¬ V.int ((M.length : Nat) : Int) = V.int ((((as.map fun c => c.2.1).map V.str).length : Nat) : Int) := fun h => by
            injection h with h
            rw [List.length_map] at h
            omega
          rw [decide_eq_false h2]
          rfl)
      exact ⟨_, rfl, ca, _, rfl, .inr ⟨(same_f (s1.trans s2) _ _ tf).sq, q hy ca _ (s1.trans s2) (same_f (s1.trans s2) _ _ tf)⟩⟩
  · refine .inr ⟨_, rfl, ca, rfl, ⟨_, SqL.of tf⟩, fun D1 hD1 => lc_list (K := K) (a := ca) (xs := as.map fun c => .ref c.1) (fun i H' => Same H H' ∧ H' D1 = some (.lst (((as.map fun c => c.2.1).take i).map V.str))) ⟨same_upd hD1, upd_same⟩ (fun i H' _ h => SqL.of (h.1 _ _ tf)) ?_ ?_⟩
    · rintro i x H' hx ⟨sm, e⟩
      rw [List.getElem?_map] at hx
      obtain ⟨p, hp', rfl⟩ := Option.map_eq_some_iff.mp hx
      have eu := hp p (List.mem_of_getElem? hp')
      refine ⟨p.1, _, rfl, SqT.of (sm _ _ eu), rfl, _, _, rfl, _, _, rfl, rfl, rfl, _, rfl, _, e, ?_, fun b o' e' => ?_, ?_⟩
      · rw [List.length_map, List.length_take, List.length_map]
        exact s500 (by omega)
      · rw [upd_ne (ne_of_none e' hD1)]
        exact sm _ _ e'
      · have h1 : (as.map fun c => c.2.1).take (i + 1) = (as.map fun c => c.2.1).take i ++ [p.2.1] := by
          rw [List.take_add_one, List.getElem?_map, hp']
          rfl
        rw [h1, List.map_append]
        exact upd_same
    rintro H1 ⟨s1, e1⟩
    rw [List.length_map, List.take_of_length_le (by rw [List.length_map]; exact Nat.le_refl _)] at e1
    have ek : ((as.map fun c => c.2.1).map (fun x => (Sum.inr x : L2.Key))).map kV = (as.map fun c => c.2.1).map V.str := by
      rw [List.map_map]
      rfl
    refine ⟨_, rfl, D1, (as.map fun c => c.2.1).map (fun x => (Sum.inr x : L2.Key)), rfl, .inl (SqL.of (by rw [ek]; exact e1)), (by rw [List.length_map, List.length_map]; omega), fun p M nM mM hpp => ?_⟩
    have s2 := same_upd (o := Yk.SetKO P w p M) hpp
    have iff := fin D1 H1 s1 e1 (by rw [List.length_map]; exact h500) M nM mM
    refine ⟨p, M, rfl, upd_same, _, rfl, D1, _, rfl, .inl (SqL.of (s2 _ _ e1)), rfl, _, rfl, ite2 (fun c => ?_) (fun c => ?_)⟩
    · have hn : ¬ (as.map fun c => c.2.1).Nodup := fun z => by
        have h1 := iff.mpr z
        have h2 : (((as.map fun c => c.2.1).map V.str).length : Nat) = M.length := by rw [List.length_map, h1]
        rw [h2] at c
        simp at c
      exact ⟨_, rfl, _, _, rfl, fun d nd' => qe hn _ _ d (s1.trans s2) nd'⟩
    · have hy : (as.map fun c => c.2.1).Nodup := iff.mp (by
        by_cases z : M.length = (as.map fun c => c.2.1).length
        · exact z
        · exfalso
          apply c
          have h2 : ¬ V.int ((M.length : Nat) : Int) = V.int ((((as.map fun c => c.2.1).map V.str).length : Nat) : Int) := fun h => by
            injection h with h
            rw [List.length_map] at h
            omega
          rw [decide_eq_false h2]
          rfl)
      refine ⟨_, rfl, ca, _, rfl, .inl ⟨SqL.of (s2 _ _ (s1 _ _ tf)), fun l o hl ho => ?_⟩⟩
      exact q hy l _ ((s1.trans s2).trans (same_upd hl)) ⟨o, ho, upd_same⟩
end
end Kx

set_option maxHeartbeats 8000000
namespace Kx
open PySem PySem.Spec PyProof.Rows L2







def ndC (cs : List NC) : Option (List NC) := if (cs.map (·.1)).Nodup then some cs else none
def foldK (kf : Str → Option Bool) (m : FC) : Option Bool :=
  if m.1 = "count" then some true else match m.2.1 with
  | none => none
  | some e => match kindE kf e with
    | none => none
    | some b => if (m.1 ∈ (["sum", "mean"] : List Str)) ∧ b = false then none else some (lateK m.1 b)
def colsD (css : List (List NC)) : Det → Option (List NC)
  | .read cs => ndC cs
  | .filter e => if kindE (kfN (css.getD 0 [])) e = some true then some (css.getD 0 []) else none
  | .map ms => if ms.all (fun m => (kindE (kfN (css.getD 0 [])) m.1).isSome) = true then ndC (ms.map fun m => (m.2.2, (kindE (kfN (css.getD 0 [])) m.1).getD true)) else none
  | .fold ks fs => if (ks.all (fun k => (kfN (css.getD 0 []) k.1).isSome) && fs.all fun m => (foldK (kfN (css.getD 0 [])) m).isSome) = true then ndC ((ks.map fun k => (k.1, (kfN (css.getD 0 []) k.1).getD true)) ++ fs.map fun m => (m.2.2.2, (foldK (kfN (css.getD 0 [])) m).getD true)) else none
  | .join ks => if (ks.all fun k => (kfN (css.getD 0 []) k.1).isSome && decide (kfN (css.getD 1 []) k.1 = kfN (css.getD 0 []) k.1)) = true then
      ndC ((ks.map fun k => (k.1, (kfN (css.getD 0 []) k.1).getD true)) ++ ((css.getD 0 []).filter (fun c => decide (c.1 ∉ ks.map (·.1))) ++ (css.getD 1 []).filter fun c => decide (c.1 ∉ ks.map (·.1)))) else none
  | .union => if css.getD 0 [] = css.getD 1 [] then some (css.getD 0 []) else none
  | .unlike => some (css.getD 0 [])
  | .sort ws _ => if ws.all (fun x => (kfN (css.getD 0 []) x.1).isSome) = true then some (css.getD 0 []) else none
/-- columns in a tuple that has no dict of its own -/
def CF (H : Hp) (a : Addr) (cs : List NC) : Prop := ∃ as : List Col, TupF H a (as.map fun c => .ref c.1) ∧ PairsAt H as ∧ as.map (·.2) = cs
theorem CF.keep {H H' : Hp} {a : Addr} {cs : List NC} (c : CF H a cs) (h : KeepT H H') (hf : KeepF H H') : CF H' a cs := let ⟨as, t, p, e⟩ := c; ⟨as, hf _ _ t, fun x hx => h _ _ (p x hx), e⟩
structure GoodC (cs : List NC) : Prop where
  nod : (cs.map (·.1)).Nodup
  few : cs.length ≤ 100
  lay : ∀ c ∈ cs, PyData.canLay0 (.str c.1) = true
def GivenAt (H : Hp) (gs : List Addr) (css : List (List NC)) : Prop := gs.length = css.length ∧ ∀ (i : Nat) (g : Addr) (cs : List NC), gs[i]? = some g → css[i]? = some cs → CF H g cs ∧ GoodC cs
def ExOk (e : Ex) : Prop := OpsOk e ∧ e.dep ≤ 12
def DetOk : Det → Prop
  | .read cs => cs.length ≤ 100
  | .filter e => ExOk e
  | .map ms => ms.length ≤ 100 ∧ ∀ m ∈ ms, ExOk m.1
  | .fold ks fs => ks.length ≤ 100 ∧ fs.length ≤ 100 ∧ ∀ m ∈ fs, m.1 ≠ "count" → ∃ e, m.2.1 = some e ∧ ExOk e
  | .join ks => ks.length ≤ 100
  | .union => True
  | .unlike => True
  | .sort ws _ => ws.length ≤ 100
def Det.arity : Det → Nat
  | .read _ => 0
  | .join _ => 2
  | .union => 2
  | _ => 1
def spChk (K : PySem.W.Frag) (C : Addr) (wh : Str) : Sp := fun vs H Q E => ∃ (nm : Str) (gv : Addr) (dv : V) (det : Det) (gs : List Addr) (css : List (List NC)), vs = [.str nm, .ref gv, dv] ∧ det.what = wh ∧ SqL K H gv (gs.map V.ref) ∧ GivenAt H gs css ∧ css.length = det.arity ∧ DetAt H dv det ∧ DetOk det ∧
  (∀ cs, colsD css det = some cs → ∀ (a : Addr) (H' : Hp), Same H H' → CF H' a cs → Q (.ref a) H') ∧ (colsD css det = none → BadE C nm H E)
theorem paired_cols {K : PySem.W.Frag} {H : Hp} : ∀ {as : List Col}, PairsAt H as → Paired (fun p kv => SqT K H p [.str kv.1, kv.2]) (as.map (·.1)) (as.map fun c => (c.2.1, V.str (kW c.2.2)))
  | [], _ => .nil
  | c :: as, h => .cons (SqT.of (h c List.mem_cons_self)) (paired_cols fun x hx => h x (List.mem_cons_of_mem _ hx))
theorem kfN_none {cs : List NC} {x : Str} (h : x ∉ cs.map (·.1)) : kfN cs x = none := by
  unfold kfN
  rw [List.find?_eq_none.mpr]
  · rfl
  · intro c hc z
    exact h (List.mem_map.mpr ⟨c, hc, of_decide_eq_true z⟩)
theorem val_merge : ∀ {cs : List NC} (acc : List (L2.Key × V)), (cs.map (·.1)).Nodup → ∀ x : Str, valV (mergeK acc (cs.map fun c => ((.inr c.1 : L2.Key), V.str (kW c.2)))) (.inr x) = (match kfN cs x with | some b => some (V.str (kW b)) | none => valV acc (.inr x))
  | [], acc, _, x => rfl
  | c :: cs, acc, hn, x => by
    have hn' := List.nodup_cons.mp hn
    show valV (mergeK (putK acc (.inr c.1) (.str (kW c.2))) (cs.map fun c => ((.inr c.1 : L2.Key), V.str (kW c.2)))) (.inr x) = _
    rw [val_merge _ hn'.2 x]
    by_cases h : c.1 = x
    · have h0 : kfN cs x = none := kfN_none (by rw [← h]; exact hn'.1)
      have h1 : kfN (c :: cs) x = some c.2 := by
        unfold kfN
        rw [List.find?_cons, decide_eq_true h]
        rfl
      rw [h0, h1, valV_put, if_pos (by rw [h])]
    · have h1 : kfN (c :: cs) x = kfN cs x := by
        unfold kfN
        rw [List.find?_cons, decide_eq_false h]
      rw [h1]
      cases kfN cs x with
      | some b => rfl
      | none =>
        show valV (putK acc (.inr c.1) (.str (kW c.2))) (.inr x) = valV acc (.inr x)
        rw [valV_put, if_neg (fun z => h (Sum.inr.inj z).symm)]
theorem kd_new {H : Hp} {kd : Addr} {as : List Col} {cs : List NC} (e : as.map (·.2) = cs) (hn : (cs.map (·.1)).Nodup) : KdAt (upd H kd (.dK (mergeK [] ((as.map fun c => (c.2.1, V.str (kW c.2.2))).map fun kv => ((.inr kv.1 : L2.Key), kv.2))))) kd (kfN cs) := by
  refine ⟨_, upd_same, fun x => ?_⟩
  have e2 : ((as.map fun c => (c.2.1, V.str (kW c.2.2))).map fun kv => ((.inr kv.1 : L2.Key), kv.2)) = cs.map fun c => ((.inr c.1 : L2.Key), V.str (kW c.2)) := by
    rw [← e, List.map_map, List.map_map]
    rfl
  rw [e2, val_merge [] hn x]
  cases kfN cs x <;> rfl
theorem what_read {d : Det} (h : d.what = "read") : ∃ cs, d = .read cs := by
  cases d <;> first | exact ⟨_, rfl⟩ | (dsimp only [Det.what] at h; exact absurd h (by decide +kernel))
theorem what_filter {d : Det} (h : d.what = "filter") : ∃ cs, d = .filter cs := by
  cases d <;> first | exact ⟨_, rfl⟩ | (dsimp only [Det.what] at h; exact absurd h (by decide +kernel))
theorem what_map {d : Det} (h : d.what = "map") : ∃ cs, d = .map cs := by
  cases d <;> first | exact ⟨_, rfl⟩ | (dsimp only [Det.what] at h; exact absurd h (by decide +kernel))
theorem what_join {d : Det} (h : d.what = "join") : ∃ cs, d = .join cs := by
  cases d <;> first | exact ⟨_, rfl⟩ | (dsimp only [Det.what] at h; exact absurd h (by decide +kernel))
theorem what_fold {d : Det} (h : d.what = "fold") : ∃ ks fs, d = .fold ks fs := by
  cases d <;> first | exact ⟨_, _, rfl⟩ | (dsimp only [Det.what] at h; exact absurd h (by decide +kernel))
theorem what_sort {d : Det} (h : d.what = "sort") : ∃ ws m, d = .sort ws m := by
  cases d <;> first | exact ⟨_, _, rfl⟩ | (dsimp only [Det.what] at h; exact absurd h (by decide +kernel))
theorem what_union {d : Det} (h : d.what = "union") : d = .union := by
  cases d <;> first | rfl | (dsimp only [Det.what] at h; exact absurd h (by decide +kernel))
theorem what_unlike {d : Det} (h : d.what = "unlike") : d = .unlike := by
  cases d <;> first | rfl | (dsimp only [Det.what] at h; exact absurd h (by decide +kernel))
section
variable {P : Program} {w : World} {K : PySem.W.Frag} {mg : Str → Option Value} {base : Heap}
theorem sc_read : FnScope ["name", "given", "details"] ["name", "given", "details"] (defScope s_columns_of_read) := ⟨rfl, rfl, rfl, by decide +kernel, rfl, by decide +kernel, by decide +kernel⟩
theorem ok_read {f C : Addr} {fd : FuncData} (F : Fun K "columns_of_read" "columns_of_read" s_columns_of_read f fd) (G_unlike_columns : ReadyX P w K mg base 2 "unlike_columns" ["name", "columns"] (spUnl K C)) : FnOk P w K mg base (L2.CX P w) 3 f fd ["name", "given", "details"] (spChk K C "read") := by
  refine F.okX sc_read (fun vs H Q E h => ?_) (fun cdv A outer s H vs Q E hr h => ?_)
  · obtain ⟨nm, gv, dv, det, gs, css, rfl, _⟩ := h
    rfl
  obtain ⟨nm, gv, dv, det, gs, css, rfl, hw, hgv, hg, har, hd, hok, q, qe⟩ := h
  have nd := sc_read.nd
  have hr2 : Room 2 _ := hr
  refine ⟨_, pss_one (ps_ret (pe_fnX G_unlike_columns hr2 (takes_of rfl rfl rfl rfl) (pa_cons (pv 0) (pa_cons (pv 2) pa_nil)))), ?_⟩
  obtain ⟨cs, rfl⟩ := what_read hw
  obtain ⟨t, as, rfl, tf, hp, rfl⟩ := hd
  have e1 : ((as.map (·.2)).map (·.1)) = as.map fun c => c.2.1 := by
    rw [List.map_map]
    rfl
  have l1 : as.length ≤ 100 := by
    have : (as.map (·.2)).length ≤ 100 := hok
    rw [List.length_map] at this
    exact this
  refine ⟨_, rfl, _, rfl, nm, t, as, rfl, .inl tf, hp, by omega, fun hn a H' sm ta => ?_, fun hn => qe ?_⟩
  · refine q _ ?_ a H' sm ⟨as, ta, fun c hc => sm _ _ (hp c hc), rfl⟩
    show ndC _ = _
    exact if_pos (by rw [e1]; exact hn)
  · show ndC _ = _
    exact if_neg (by rw [e1]; exact hn)
theorem sc_unlike : FnScope ["name", "given", "details"] ["name", "given", "details"] (defScope s_columns_of_unlike) := ⟨rfl, rfl, rfl, by decide +kernel, rfl, by decide +kernel, by decide +kernel⟩
end
end Kx

set_option maxHeartbeats 8000000
namespace Kx
open PySem PySem.Spec PyProof.Rows L2







theorem given1 {H : Hp} {gs : List Addr} {css : List (List NC)} (g : GivenAt H gs css) (h : css.length = 1) : ∃ a c, gs = [a] ∧ css = [c] ∧ CF H a c ∧ GoodC c := by
  match css, h with
  | [c], _ =>
    match gs, g.1 with
    | [a], _ => exact ⟨a, c, rfl, rfl, g.2 0 a c rfl rfl⟩
theorem given2 {H : Hp} {gs : List Addr} {css : List (List NC)} (g : GivenAt H gs css) (h : css.length = 2) : ∃ a b c e, gs = [a, b] ∧ css = [c, e] ∧ CF H a c ∧ GoodC c ∧ CF H b e ∧ GoodC e := by
  match css, h with
  | [c, e], _ =>
    match gs, g.1 with
    | [a, b], _ => exact ⟨a, b, c, e, rfl, rfl, (g.2 0 a c rfl rfl).1, (g.2 0 a c rfl rfl).2, (g.2 1 b e rfl rfl).1, (g.2 1 b e rfl rfl).2⟩
theorem colsT_sh {l : List NC} (h : ∀ c ∈ l, PyData.canLay0 (.str c.1) = true) : SeqAt.shaped (.tuple (l.map colD)) = true := by
  have d := colsD_dep l
  show (PyData.canLayAll0 (l.map colD) && decide (PyData.depthAll (l.map colD) + 1 ≤ 64)) = true
  rw [colsD_ok l h, decide_eq_true (by omega)]
  rfl
theorem colsT_eqv (l m : List NC) : PyData.eqv (.tuple (l.map colD)) (.tuple (m.map colD)) = decide (l = m) := colsA_eqv l m
theorem CF.dp {K : PySem.W.Frag} {H : Hp} {a : Addr} {cs : List NC} (c : CF H a cs) : Dp K H (.ref a) (.tuple (cs.map colD)) := by
  obtain ⟨as, t, p, rfl⟩ := c
  exact .tup t.sq (cols_dpA p)
theorem sqL_same {K : PySem.W.Frag} {H H' : Hp} (h : Same H H') {a : Addr} {xs : List V} (q : SqL K H a xs) : SqL K H' a xs := by
  rcases q with (q | ⟨o, q⟩) | q
  · exact .inl (.inl (h _ _ q))
  · exact .inl (.inr ⟨o, h _ _ q⟩)
  · exact .inr q
section
variable {P : Program} {w : World} {K : PySem.W.Frag} {mg : Str → Option Value} {base : Heap}
theorem ok_unlike {f C : Addr} {fd : FuncData} (F : Fun K "columns_of_unlike" "columns_of_unlike" s_columns_of_unlike f fd) : FnOk P w K mg base (L2.CX P w) 3 f fd ["name", "given", "details"] (spChk K C "unlike") := by
  refine F.okX sc_unlike (fun vs H Q E h => ?_) (fun cdv A outer s H vs Q E hr h => ?_)
  · obtain ⟨nm, gv, dv, det, gs, css, rfl, _⟩ := h
    rfl
  obtain ⟨nm, gv, dv, det, gs, css, rfl, hw, hgv, hg, har, hd, hok, q, qe⟩ := h
  have nd := sc_unlike.nd
  refine ⟨_, pss_one (ps_ret (pe_ix (show IxR _ (rIxL K) from ix_list) (pv 1) pe_int (fun _ _ => rfl))), ?_⟩
  have hw' := what_unlike hw
  subst hw'
  obtain ⟨a, c, rfl, rfl, hc, gc⟩ := given1 hg har
  exact ⟨_, rfl, gv, _, 0, _, rfl, rfl, hgv, rfl, q c rfl a H (Same.refl _) hc⟩
theorem sc_union : FnScope ["name", "given", "details"] ["name", "given", "details"] (defScope s_columns_of_union) := ⟨rfl, rfl, rfl, by decide +kernel, rfl, by decide +kernel, by decide +kernel⟩
theorem ok_union {f C fI : Addr} {fd : FuncData} (F : Fun K "columns_of_union" "columns_of_union" s_columns_of_union f fd) (T : PySem.BadY.BadTxt K mg C fI) : FnOk P w K mg base (L2.CX P w) 3 f fd ["name", "given", "details"] (spChk K C "union") := by
  refine F.okX sc_union (fun vs H Q E h => ?_) (fun cdv A outer s H vs Q E hr h => ?_)
  · obtain ⟨nm, gv, dv, det, gs, css, rfl, _⟩ := h
    rfl
  obtain ⟨nm, gv, dv, det, gs, css, rfl, hw, hgv, hg, har, hd, hok, q, qe⟩ := h
  have nd := sc_union.nd
  have hr1 : Room 1 _ := hr.mono (by decide)
  have hu64 : _ + 64 < cLine := hr.units
  refine ⟨_, pss_cons (ps_if (pt_cmpR (op_neD hu64) (pe_ix (show IxR _ (rIxL K) from ix_list) (pv 1) pe_int (fun _ _ => rfl)) (pe_ix (show IxR _ (rIxL K) from ix_list) (pv 1) pe_int (fun _ _ => rfl)) (nomark _)) (pss_one (ps_raiseBad2 rfl T hr1 (takes_of rfl rfl rfl rfl) (pa_cons (pv 0) (pa_cons pe_str pa_nil)))) (pss_nil))
      (pss_one (ps_ret (pe_ix (show IxR _ (rIxL K) from ix_list) (pv 1) pe_int (fun _ _ => rfl)))), ?_⟩
  have hw' := what_union hw
  subst hw'
  obtain ⟨a, b, c, e, rfl, rfl, hc, gc, he, ge⟩ := given2 hg har
  refine ⟨_, rfl, gv, _, 0, _, rfl, rfl, hgv, rfl, _, rfl, gv, _, 1, _, rfl, rfl, hgv, rfl, _, _, hc.dp, he.dp, colsT_sh gc.lay, colsT_sh ge.lay, _, rfl, ?_⟩
  rw [colsT_eqv]
  by_cases h : c = e
  · rw [decide_eq_true h]
    refine iteF ⟨_, rfl, gv, _, 0, _, rfl, rfl, hgv, rfl, q c ?_ a H (Same.refl _) hc⟩
    exact if_pos h
  · rw [decide_eq_false h]
    exact iteT ⟨_, rfl, _, _, rfl, fun d nd' => qe (if_neg h) _ _ d (Same.refl _) nd'⟩
theorem sc_filter : FnScope ["name", "given", "details"] ["name", "given", "details"] (defScope s_columns_of_filter) := ⟨rfl, rfl, rfl, by decide +kernel, rfl, by decide +kernel, by decide +kernel⟩
theorem ok_filter {f C fI : Addr} {fd : FuncData} (F : Fun K "columns_of_filter" "columns_of_filter" s_columns_of_filter f fd) (T : PySem.BadY.BadTxt K mg C fI) (m_dict : mg "dict" = none) (G_kind_of : Ready P w K mg base 13 "kind_of" ["told", "kinds"] (spKind 12)) : FnOk P w K mg base (L2.CX P w) 14 f fd ["name", "given", "details"] (spChk K C "filter") := by
  refine F.okX sc_filter (fun vs H Q E h => ?_) (fun cdv A outer s H vs Q E hr h => ?_)
  · obtain ⟨nm, gv, dv, det, gs, css, rfl, _⟩ := h
    rfl
  obtain ⟨nm, gv, dv, det, gs, css, rfl, hw, hgv, hg, har, hd, hok, q, qe⟩ := h
  have nd := sc_filter.nd
  have hr1 : Room 1 _ := hr.mono (by decide)
  have hrk : Room 13 _ := hr
  refine ⟨_, pss_cons (ps_if (pt_cmpR op_ne (pe_fn G_kind_of hrk (pa_cons (pv 2) (pa_cons (pe_callTy (cr_dictT rfl) (by rfl) m_dict PyProof.Rows.boot_dict (pa_cons (pe_ix (show IxR _ (rIxL K) from ix_list) (pv 1) pe_int (fun _ _ => rfl)) pa_nil)) pa_nil))) pe_str (nomark _)) (pss_one (ps_raiseBad2 rfl T hr1 (takes_of rfl rfl rfl rfl) (pa_cons (pv 0) (pa_cons pe_str pa_nil)))) (pss_nil))
      (pss_one (ps_ret (pe_ix (show IxR _ (rIxL K) from ix_list) (pv 1) pe_int (fun _ _ => rfl)))), ?_⟩
  obtain ⟨e, rfl⟩ := what_filter hw
  obtain ⟨a, c, rfl, rfl, hc, gc⟩ := given1 hg har
  obtain ⟨as, tf, hp, ec⟩ := id hc
  refine ⟨_, rfl, _, rfl, gv, _, 0, _, rfl, rfl, hgv, rfl, a, as.map (·.1), as.map fun c => (c.2.1, V.str (kW c.2.2)), rfl, by rw [List.map_map]; exact tf, paired_cols hp, fun kd hkd => ?_⟩
  have s1 := same_upd (o := .dK (mergeK [] ((as.map fun c => (c.2.1, V.str (kW c.2.2))).map fun kv => ((.inr kv.1 : L2.Key), kv.2)))) hkd
  refine ⟨dv, kd, kfN c, e, rfl, hd.keep (same_t s1) (same_f s1), hok.1, hok.2, kd_new ec gc.nod, ?_⟩
  have g1 : ∀ {H' : Hp}, Same H H' → kindE (kfN c) e = some true → Q (.ref a) H' := fun s h => q c (if_pos h) a _ s (hc.keep (same_t s) (same_f s))
  have g2 : kindE (kfN c) e ≠ some true → BadE C nm H E := fun h => qe (if_neg h)
  generalize kindE (kfN c) e = o at g1 g2 ⊢
  rcases o with _ | _ | _
  · exact ⟨rfl, _, rfl, iteT ⟨_, rfl, _, _, rfl, fun d nd' => g2 (by intro z; cases z) _ _ d s1 nd'⟩⟩
  · exact ⟨rfl, _, rfl, iteT ⟨_, rfl, _, _, rfl, fun d nd' => g2 (by intro z; cases z) _ _ d s1 nd'⟩⟩
  · exact ⟨rfl, _, rfl, iteF ⟨_, rfl, gv, _, 0, _, rfl, rfl, sqL_same s1 hgv, rfl, g1 s1 rfl⟩⟩
abbrev N_columns_of_sort : List Str := ["name", "given", "details", "order", "_", "column"]
theorem sc_sort : FnScope N_columns_of_sort ["name", "given", "details"] (defScope s_columns_of_sort) := ⟨rfl, rfl, rfl, by decide +kernel, rfl, by decide +kernel, by decide +kernel⟩
theorem ok_sort {f C : Addr} {fd : FuncData} (F : Fun K "columns_of_sort" "columns_of_sort" s_columns_of_sort f fd) (m_dict : mg "dict" = none) (G_check_there : ReadyX P w K mg base 2 "check_there" ["name", "words", "kinds"] (spThere K C)) : FnOk P w K mg base (L2.CX P w) 3 f fd ["name", "given", "details"] (spChk K C "sort") := by
  refine F.okX sc_sort (fun vs H Q E h => ?_) (fun cdv A outer s H vs Q E hr h => ?_)
  · obtain ⟨nm, gv, dv, det, gs, css, rfl, _⟩ := h
    rfl
  obtain ⟨nm, gv, dv, det, gs, css, rfl, hw, hgv, hg, har, hd, hok, q, qe⟩ := h
  have nd := sc_sort.nd
  have hr2 : Room 2 _ := hr
  refine ⟨_, pss_cons (ps_asg (pv 2) (pg_tup rfl (pgs_cons (pg_name (i := 3) nd rfl (.inl rfl)) (pgs_cons (pg_name (i := 4) nd rfl (.inl rfl)) pgs_nil))))
      (pss_cons (ps_expr (pe_fnX G_check_there hr2 (takes_of rfl rfl rfl rfl) (pa_cons (pv 0) (pa_cons (pe_lc (own := [("column", 5), ("_", 4)]) (g := (gTup K 2 (gCons (gName 5) (gCons (gName 4) gNil)))) (tt := tYes) rfl nd (pi_tup (pv 3)) (blkOk_by (N := N_columns_of_sort) (sc := defScope s_columns_of_sort) (by decide +kernel)) (fun _ _ _ _ _ => pg_tup rfl (pgs_cons (pg_name (i := 5) nd rfl (.inl rfl)) (pgs_cons (pg_name (i := 4) nd rfl (.inl rfl)) pgs_nil))) (fun _ _ _ _ _ => pts_nil) (fun _ _ _ _ _ => (pv 5))) (pa_cons (pe_callTy (cr_dictT rfl) (by rfl) m_dict PyProof.Rows.boot_dict (pa_cons (pe_ix (show IxR _ (rIxL K) from ix_list) (pv 1) pe_int (fun _ _ => rfl)) pa_nil)) pa_nil)))))
      (pss_one (ps_ret (pe_ix (show IxR _ (rIxL K) from ix_list) (pv 1) pe_int (fun _ _ => rfl))))), ?_⟩
  obtain ⟨ws, m, rfl⟩ := what_sort hw
  obtain ⟨a, c, rfl, rfl, hc, gc⟩ := given1 hg har
  obtain ⟨as, tf, hp, ec⟩ := id hc
  obtain ⟨t, wt, ps, rfl, h1, h2, h3, h4⟩ := hd
  refine ⟨_, rfl, t, _, rfl, SqT.of h1, rfl, _, _, rfl, _, _, rfl, rfl, ?_⟩
  have lp : ps.length ≤ 100 := by
    have : ws.length ≤ 100 := hok
    rw [← h4, List.length_map] at this
    exact this
  refine ⟨_, rfl, _, rfl, wt, rfl, ⟨_, SqT.of h2⟩, fun D1 hD1 => lc_tup (K := K) (a := wt) (xs := ps.map fun p => .ref p.1) (fun i H' => Same H H' ∧ H' D1 = some (.lst (((ps.map fun p => p.2.1).take i).map V.str))) ⟨same_upd hD1, upd_same⟩ (fun i H' _ h => SqT.of (h.1 _ _ h2)) ?_ ?_⟩
  · rintro i x H' hx ⟨sm, e⟩
    rw [List.getElem?_map] at hx
    obtain ⟨p, hp', rfl⟩ := Option.map_eq_some_iff.mp hx
    have eu := h3 p (List.mem_of_getElem? hp')
    refine ⟨p.1, _, rfl, SqT.of (sm _ _ eu), rfl, _, _, rfl, _, _, rfl, rfl, rfl, _, rfl, _, e, ?_, fun b o' e' => ?_, ?_⟩
    · rw [List.length_map, List.length_take, List.length_map]
      exact Nat.lt_of_le_of_lt (show _ ≤ 100 by omega) (by decide)
    · rw [upd_ne (ne_of_none e' hD1)]
      exact sm _ _ e'
    · have hh : (ps.map fun p => p.2.1).take (i + 1) = (ps.map fun p => p.2.1).take i ++ [p.2.1] := by
        rw [List.take_add_one, List.getElem?_map, hp']
        rfl
      rw [hh, List.map_append]
      exact upd_same
  rintro H1 ⟨s1, e1⟩
  rw [List.length_map, List.take_of_length_le (by rw [List.length_map]; exact Nat.le_refl _)] at e1
  refine ⟨_, rfl, gv, _, 0, _, rfl, rfl, sqL_same s1 hgv, rfl, a, as.map (·.1), as.map fun c => (c.2.1, V.str (kW c.2.2)), rfl, by rw [List.map_map]; exact same_f s1 _ _ tf, paired_cols (fun x hx => s1 _ _ (hp x hx)), fun kd hkd => ?_⟩
  have s2 := s1.trans (same_upd (o := .dK (mergeK [] ((as.map fun c => (c.2.1, V.str (kW c.2.2))).map fun kv => ((.inr kv.1 : L2.Key), kv.2)))) hkd)
  have hall : (∀ x ∈ ps.map (fun p => p.2.1), kfN c x ≠ none) ↔ ws.all (fun x => (kfN c x.1).isSome) = true := by
    rw [← h4, List.all_map, List.all_eq_true]
    constructor
    · intro h p hp'
      have := h p.2.1 (List.mem_map.mpr ⟨p, hp', rfl⟩)
      show (kfN c p.2.1).isSome = true
      cases hh : kfN c p.2.1 with
      | none => exact absurd hh this
      | some b => rfl
    · intro h x hx z
      obtain ⟨p, hp', rfl⟩ := List.mem_map.mp hx
      have := h p hp'
      have h' : (kfN c p.2.1).isSome = true := this
      rw [z] at h'
      cases h'
  refine ⟨nm, D1, kd, ps.map fun p => p.2.1, kfN c, rfl, .inr (SqL.of (same_upd hkd _ _ e1)), kd_new ec gc.nod, fun h => ?_, fun h => ?_⟩
  · exact ⟨_, rfl, gv, _, 0, _, rfl, rfl, sqL_same s2 hgv, rfl, q c (if_pos (hall.mp h)) a _ s2 (hc.keep (same_t s2) (same_f s2))⟩
  · obtain ⟨x, hx, hn⟩ := h
    have hb := qe (if_neg fun z => hall.mpr z x hx hn)
    exact fun H' u d sm nd' => hb H' u d (s2.trans sm) nd'
end
end Kx

set_option maxHeartbeats 8000000
namespace Kx
open PySem PySem.Spec PyProof.Rows L2
abbrev s_columns_of_map : Stmt := topS 65
abbrev s_kind_of_fold : Stmt := topS 66
abbrev s_columns_of_fold : Stmt := topS 67







theorem same_of_but {H0 H H' : Hp} {d : Addr} (s : Same H0 H) (b : But d H H') (n : H0 d = none) : Same H0 H' := fun a o e => b a o (ne_of_none e n) (s _ _ e)
section
variable {P : Program} {w : World} {K : PySem.W.Frag} {mg : Str → Option Value} {base : Heap}
/-! ### kind_of_fold -/
abbrev N_kind_of_fold : List Str := ["name", "fold", "told", "kinds", "kind"]
def spKF (C : Addr) : Sp := fun vs H Q E => ∃ (nm op : Str) (tv : V) (kd : Addr) (kf : Str → Option Bool) (oe : Option Ex) (kk : Bool) (nn : Str), vs = [.str nm, .str op, tv, .ref kd] ∧ FTo H tv oe ∧ (op ≠ "count" → ∃ e, oe = some e ∧ ExOk e) ∧ KdAt H kd kf ∧
  (∀ b, foldK kf (op, oe, kk, nn) = some b → ∀ H', Same H H' → Q (.str (kW b)) H') ∧ (foldK kf (op, oe, kk, nn) = none → BadE C nm H E)
theorem sc_kf : FnScope N_kind_of_fold ["name", "fold", "told", "kinds"] (defScope s_kind_of_fold) := ⟨rfl, rfl, rfl, by decide +kernel, rfl, by decide +kernel, by decide +kernel⟩
theorem ok_kf {f C fI : Addr} {fd : FuncData} (F : Fun K "kind_of_fold" "kind_of_fold" s_kind_of_fold f fd) (T : PySem.BadY.BadTxt K mg C fI) (G_kind_of : Ready P w K mg base 13 "kind_of" ["told", "kinds"] (spKind 12)) : FnOk P w K mg base (L2.CX P w) 14 f fd ["name", "fold", "told", "kinds"] (spKF C) := by
  refine F.okX sc_kf (fun vs H Q E h => ?_) (fun cdv A outer s H vs Q E hr h => ?_)
  · obtain ⟨nm, op, tv, kd, kf, oe, kk, nn, rfl, _⟩ := h
    rfl
  obtain ⟨nm, op, tv, kd, kf, oe, kk, nn, rfl, ht, ho, hk, q, qe⟩ := h
  have nd := sc_kf.nd
  have hr1 : Room 1 _ := hr.mono (by decide)
  have hrk : Room 13 _ := hr
  refine ⟨_, pss_cons (ps_if (pt_cmpR op_eq (pv 1) pe_str (nomark _)) (pss_one (ps_ret pe_str)) (pss_nil))
      (pss_cons (ps_set (i := 4) nd rfl (.inl rfl) (pe_fn G_kind_of hrk (pa_cons (pv 2) (pa_cons (pv 3) pa_nil))))
      (pss_cons (ps_if (PW.pt (pw_or (pt_cmpR op_isN (pv 4) pe_non (nomark _)) (pw_or1 (PW.pt (pw_and (pt_cmpR op_in_seq (pv 1) (pe_tup (pa_cons pe_str (pa_cons pe_str pa_nil))) (by with_unfolding_all rfl)) (pw_and1 (pt_cmpR op_ne (pv 4) pe_str (nomark _)))))))) (pss_one (ps_raiseBad2 rfl T hr1 (takes_of rfl rfl rfl rfl) (pa_cons (pv 0) (pa_cons pe_str pa_nil)))) (pss_nil))
      (pss_cons (ps_if (pt_cmpR op_in_seq (pv 1) (pe_tup (pa_cons pe_str (pa_cons pe_str pa_nil))) (by with_unfolding_all rfl)) (pss_one (ps_ret (pv 4))) (pss_nil))
      (pss_one (ps_ret pe_str))))), ?_⟩
  have z2 : 2 ≤ sizeLine := by decide
  refine ⟨_, rfl, rfl, _, rfl, ite2 (fun c => ?_) (fun c => ?_)⟩
  · have c' : op = "count" := by
      have := of_decide_eq_true c
      injection this
    exact q true (by unfold foldK; rw [if_pos c']) H (Same.refl _)
  have nc : op ≠ "count" := fun e => c (decide_eq_true (by rw [e]))
  obtain ⟨e, rfl, oe1, oe2⟩ := ho nc
  refine ⟨_, rfl, _, rfl, tv, kd, kf, e, rfl, ht, oe1, oe2, hk, ?_⟩
  have q' : ∀ b, (match kindE kf e with | none => none | some b => if (op ∈ (["sum", "mean"] : List Str)) ∧ b = false then none else some (lateK op b)) = some b → ∀ H', Same H H' → Q (.str (kW b)) H' := fun b h => q b (by unfold foldK; rw [if_neg nc]; exact h)
  have qe' : (match kindE kf e with | none => none | some b => if (op ∈ (["sum", "mean"] : List Str)) ∧ b = false then none else some (lateK op b)) = none → BadE C nm H E := fun h => qe (by unfold foldK; rw [if_neg nc]; exact h)
  clear q qe
  generalize kindE kf e = o at q' qe' ⊢
  cases o with
  | none => exact ⟨_, rfl, rfl, _, rfl, iteT (iteT ⟨_, rfl, _, _, rfl, fun d nd' => qe' rfl _ _ d (Same.refl _) nd'⟩)⟩
  | some b =>
    refine ⟨_, rfl, rfl, _, rfl, iteF ?_⟩
    refine ⟨_, rfl, z2, fun t ht' => ⟨t, (["sum", "mean"] : List Str).map V.str, rfl, .inr (SqT.of upd_same), rfl, flat_strs _, _, rfl, ?_⟩⟩
    have s1 := same_upd (o := .tup [.str "sum", .str "mean"]) ht'
    refine in_strs (fun hin => ?_) (fun hin => iteF ?_)
    · cases b with
      | true =>
        refine ⟨_, rfl, rfl, _, rfl, iteF ?_⟩
        have b1 : True := trivial
        refine ⟨_, rfl, z2, fun t2 ht2 => ⟨t2, (["least", "greatest"] : List Str).map V.str, rfl, .inr (SqT.of upd_same), rfl, flat_strs _, _, rfl, ?_⟩⟩
        have s2 := s1.trans (same_upd (o := .tup [.str "least", .str "greatest"]) ht2)
        have qq := q' (lateK op true) (if_neg (fun z => by cases z.2)) _ s2
        unfold lateK at qq
        refine in_strs (fun h2 => ⟨_, rfl, ?_⟩) (fun h2 => ?_)
        · rw [if_pos h2] at qq
          exact qq
        · rw [if_neg h2] at qq
          exact qq
      | false =>
        refine ⟨_, rfl, rfl, _, rfl, iteT ⟨_, rfl, _, _, rfl, fun d nd' => qe' (if_pos ⟨hin, rfl⟩) _ _ d s1 nd'⟩⟩
    · have b1 : True := trivial
      refine ⟨_, rfl, z2, fun t2 ht2 => ⟨t2, (["least", "greatest"] : List Str).map V.str, rfl, .inr (SqT.of upd_same), rfl, flat_strs _, _, rfl, ?_⟩⟩
      have s2 := s1.trans (same_upd (o := .tup [.str "least", .str "greatest"]) ht2)
      have qq := q' (lateK op b) (if_neg (fun z => hin z.1)) _ s2
      unfold lateK at qq
      refine in_strs (fun h2 => ⟨_, rfl, ?_⟩) (fun h2 => ?_)
      · rw [if_pos h2] at qq
        exact qq
      · rw [if_neg h2] at qq
        exact qq
end
end Kx

set_option maxHeartbeats 8000000
namespace Kx
open PySem PySem.Spec PyProof.Rows L2







section
variable {P : Program} {w : World} {K : PySem.W.Frag} {mg : Str → Option Value} {base : Heap}
theorem KdAt.but {H H' : Hp} {kd d : Addr} {kf : Str → Option Bool} {l : List V} (k : KdAt H kd kf) (b : But d H H') (hd : H d = some (.lst l)) : KdAt H' kd kf := by
  obtain ⟨kvs, e, g⟩ := k
  exact ⟨kvs, b _ _ (fun z => by rw [z, hd] at e; cases e) e, g⟩
theorem pairs_push {H H' : Hp} {cl q : Addr} {l l' : List V} {qs : List Col} {c : NC} (hc : H cl = some (.lst l)) (hp : PairsAt H qs) (hq : H q = none) : PairsAt (upd (upd H q (.tup [.str c.1, .str (kW c.2)])) cl (.lst l')) (qs ++ [(q, c)]) := fun x hx => by
  have n1 : q ≠ cl := (ne_of_none hc hq).symm
  rcases List.mem_append.mp hx with hx | hx
  · have e := hp x hx
    rw [upd_ne (fun z => by rw [z, hc] at e; cases e)]
    exact same_upd hq _ _ e
  · rw [List.mem_singleton.mp hx]
    rw [upd_ne n1]
    exact upd_same
/-! ### columns_of_map -/
abbrev N_columns_of_map : List Str := ["name", "given", "details", "kinds", "columns", "told", "column", "kind"]
theorem sc_cmap : FnScope N_columns_of_map ["name", "given", "details"] (defScope s_columns_of_map) := ⟨rfl, rfl, rfl, by decide +kernel, rfl, by decide +kernel, by decide +kernel⟩
theorem ok_cmap {f C fI : Addr} {fd : FuncData} (F : Fun K "columns_of_map" "columns_of_map" s_columns_of_map f fd) (T : PySem.BadY.BadTxt K mg C fI) (m_dict : mg "dict" = none) (G_kind_of : Ready P w K mg base 13 "kind_of" ["told", "kinds"] (spKind 12)) (G_unlike_columns : ReadyX P w K mg base 2 "unlike_columns" ["name", "columns"] (spUnl K C)) : FnOk P w K mg base (L2.CX P w) 14 f fd ["name", "given", "details"] (spChk K C "map") := by
  refine F.okX sc_cmap (fun vs H Q E h => ?_) (fun cdv A outer s H vs Q E hr h => ?_)
  · obtain ⟨nm, gv, dv, det, gs, css, rfl, _⟩ := h
    rfl
  obtain ⟨nm, gv, dv, det, gs, css, rfl, hw, hgv, hg, har, hd, hok, q, qe⟩ := h
  have nd := sc_cmap.nd
  have hr1 : Room 1 _ := hr.mono (by decide)
  have hr2 : Room 2 _ := hr.mono (by decide)
  have hrk : Room 13 _ := hr
  refine ⟨_, pss_cons (ps_set (i := 3) nd rfl (.inl rfl) (pe_callTy (cr_dictT rfl) (by rfl) m_dict PyProof.Rows.boot_dict (pa_cons (pe_ix (show IxR _ (rIxL K) from ix_list) (pv 1) pe_int (fun _ _ => rfl)) pa_nil)))
      (pss_cons (ps_set (i := 4) nd rfl (.inl rfl) (pe_lst pa_nil))
      (pss_cons (ps_for (passes_of rfl) rfl (pi_tup (pv 2)) (pg_tup rfl (pgs_cons (pg_name (i := 5) nd rfl (.inl rfl)) (pgs_cons (pg_name (i := 6) nd rfl (.inl rfl)) pgs_nil))) (pss_cons (ps_set (i := 7) nd rfl (.inl rfl) (pe_fn G_kind_of hrk (pa_cons (pv 5) (pa_cons (pv 3) pa_nil))))
      (pss_cons (ps_if (pt_cmpR op_isN (pv 7) pe_non (nomark _)) (pss_one (ps_raiseBad2 rfl T hr1 (takes_of rfl rfl rfl rfl) (pa_cons (pv 0) (pa_cons pe_str pa_nil)))) (pss_nil))
      (pss_one (ps_expr (pe_bm PySem.F.plainAttrs_list PySem.F.slot_list_append PySem.F.type_list_append mt_append (pv 4) (pa_cons (pe_tup (pa_cons (pv 6) (pa_cons (pv 7) pa_nil))) pa_nil)))))))
      (pss_one (ps_ret (pe_fnX G_unlike_columns hr2 (takes_of rfl rfl rfl rfl) (pa_cons (pv 0) (pa_cons (pv 4) pa_nil))))))), ?_⟩
  have z2 : 2 ≤ sizeLine := by decide
  obtain ⟨ms, rfl⟩ := what_map hw
  obtain ⟨a, c, rfl, rfl, hc, gc⟩ := given1 hg har
  obtain ⟨as, tf, hp, ec⟩ := id hc
  obtain ⟨t, ps, rfl, h1, h2, rfl⟩ := hd
  have lp : ps.length ≤ 100 := by
    have := hok.1
    rw [List.length_map] at this
    exact this
  refine ⟨_, rfl, gv, _, 0, _, rfl, rfl, hgv, rfl, a, as.map (·.1), as.map fun c => (c.2.1, V.str (kW c.2.2)), rfl, by rw [List.map_map]; exact tf, paired_cols hp, fun kd hkd => ?_⟩
  have s1 := same_upd (o := .dK (mergeK [] ((as.map fun c => (c.2.1, V.str (kW c.2.2))).map fun kv => ((.inr kv.1 : L2.Key), kv.2)))) hkd
  have hK := kd_new (H := H) (kd := kd) ec gc.nod
  generalize upd H kd (.dK (mergeK [] ((as.map fun c => (c.2.1, V.str (kW c.2.2))).map fun kv => ((.inr kv.1 : L2.Key), kv.2)))) = H1 at s1 hK ⊢
  refine ⟨Nat.zero_le _, fun cl hcl => ?_⟩
  have ncl : H cl = none := none_same s1 hcl
  have s2 := s1.trans (same_upd (o := .lst []) hcl)
  have hK2 := hK.keep (same_upd (o := .lst []) hcl)
  have ecl : upd H1 cl (.lst []) cl = some (.lst []) := upd_same
  generalize upd H1 cl (.lst []) = H2 at s2 hK2 ecl ⊢
  clear hK s1 hcl hkd
  let gN : MC → NC := fun m => (m.2.2, (kindE (kfN c) m.1).getD true)
  refine ⟨_, rfl, t, rfl, ⟨_, SqT.of (s2 _ _ h1)⟩, ?_⟩
  refine for_tup (K := K) (a := t) (xs := ps.map fun p => .ref p.1) (fun i σ H' => ∃ y5 y6 y7 qs, σ = [some (.str nm), some (.ref gv), some (.ref t), some (.ref kd), some (.ref cl), y5, y6, y7] ∧ But cl H2 H' ∧ H' cl = some (.lst (qs.map fun c => .ref c.1)) ∧ PairsAt H' qs ∧ qs.map (·.2) = ((ps.map (·.2)).take i).map gN ∧ ∀ m ∈ (ps.map (·.2)).take i, (kindE (kfN c) m.1).isSome = true)
    ⟨_, _, _, [], rfl, But.refl _ _, ecl, fun x hx => absurd hx List.not_mem_nil, by simp, fun m hm => absurd hm (by simp)⟩ (fun i σ H' _ h => by
      obtain ⟨_, _, _, _, _, b, _⟩ := h
      exact SqT.of (b.tup ecl _ _ (s2 _ _ h1))) ?_ ?_
  · rintro i x σ H' hx ⟨y5, y6, y7, qs, rfl, b, e, hpq, eq, hall⟩
    rw [List.getElem?_map] at hx
    obtain ⟨p, hp', rfl⟩ := Option.map_eq_some_iff.mp hx
    have hi : i < ps.length := (List.getElem?_eq_some_iff.mp hp').1
    have pm := List.mem_of_getElem? hp'
    obtain ⟨told, t1, t2⟩ := h2 p pm
    have t1' := b.tup ecl _ _ (s2 _ _ t1)
    have kt : KeepT H H' := fun a xs e => b.tup ecl _ _ (s2 _ _ e)
    have eo := hok.2 p.2 (List.mem_map.mpr ⟨p, pm, rfl⟩)
    have tk : (ps.map (·.2)).take (i + 1) = (ps.map (·.2)).take i ++ [p.2] := by
      rw [List.take_add_one, List.getElem?_map, hp']
      rfl
    refine ⟨p.1, _, rfl, SqT.of t1', rfl, _, _, rfl, _, _, rfl, rfl, ?_⟩
    refine ⟨_, rfl, _, rfl, told, kd, kfN c, p.2.1, rfl, t2.keep kt, eo.1, eo.2, hK2.but b ecl, ?_⟩
    have lq : qs.length ≤ 100 := by
      have h := congrArg List.length eq
      rw [List.length_map, List.length_map, List.length_take, List.length_map] at h
      omega
    cases ho : kindE (kfN c) p.2.1 with
    | none =>
      refine ⟨_, rfl, rfl, _, rfl, iteT ⟨_, rfl, _, _, rfl, fun d nd' => ?_⟩⟩
      have : colsD [c] (.map (ps.map (·.2))) = none := by
        refine if_neg fun z => ?_
        have h := List.all_eq_true.mp z p.2 (List.mem_map.mpr ⟨p, pm, rfl⟩)
        have h' : (kindE (kfN c) p.2.1).isSome = true := h
        rw [ho] at h'
        cases h'
      exact qe this _ _ d (same_of_but s2 b ncl) nd'
    | some k =>
      refine ⟨_, rfl, rfl, _, rfl, iteF ?_⟩
      refine ⟨_, rfl, .inl ⟨rfl, _, SqL.of e⟩, _, rfl, _, rfl, z2, fun r hr' => ?_⟩
      have e' := same_upd (o := .tup [.str p.2.2.2, .str (kW k)]) hr' _ _ e
      refine ⟨cl, _, _, rfl, rfl, e', Nat.lt_of_le_of_lt (show _ ≤ 100 by rw [List.length_map]; exact lq) (by decide), _, _, _, qs ++ [(r, p.2.2.2, k)], rfl, fun x o hx' ex => ?_, by rw [upd_same, List.map_append]; rfl, pairs_push (c := (p.2.2.2, k)) (H' := H') (l := qs.map fun c => .ref c.1) e hpq hr', ?_, fun m hm => ?_⟩
      · rw [upd_ne hx']
        exact same_upd hr' _ _ (b _ _ hx' ex)
      · rw [tk, List.map_append, List.map_append, eq]
        show _ ++ [(p.2.2.2, k)] = _ ++ [(p.2.2.2, (kindE (kfN c) p.2.1).getD true)]
        rw [ho]
        rfl
      · rw [tk] at hm
        rcases List.mem_append.mp hm with hm | hm
        · exact hall m hm
        · rw [List.mem_singleton.mp hm, ho]
          rfl
  · rintro σ H' ⟨y5, y6, y7, qs, rfl, b, e, hpq, eq, hall⟩
    rw [List.length_map, List.take_of_length_le (by rw [List.length_map]; exact Nat.le_refl _)] at eq hall
    have sf := same_of_but s2 b ncl
    have hcols : colsD [c] (.map (ps.map (·.2))) = ndC (qs.map (·.2)) := by
      rw [eq]
      exact if_pos (List.all_eq_true.mpr hall)
    have e1 : ((qs.map (·.2)).map (·.1)) = qs.map fun c => c.2.1 := by
      rw [List.map_map]
      rfl
    have lq : qs.length ≤ 100 := by
      have h := congrArg List.length eq
      rw [List.length_map, List.length_map, List.length_map] at h
      omega
    refine ⟨_, rfl, _, rfl, nm, cl, qs, rfl, .inr e, hpq, by omega, fun hn a' H'' sm ta => ?_, fun hn => ?_⟩
    · exact q _ (hcols.trans (if_pos (by rw [e1]; exact hn))) a' H'' (sf.trans sm) ⟨qs, ta, fun x hx => sm _ _ (hpq x hx), rfl⟩
    · have hb := qe (hcols.trans (if_neg (by rw [e1]; exact hn)))
      exact fun H'' u d sm nd' => hb H'' u d (sf.trans sm) nd'
end
end Kx

set_option maxHeartbeats 8000000
namespace Kx
open PySem PySem.Spec PyProof.Rows L2







section
variable {P : Program} {w : World} {K : PySem.W.Frag} {mg : Str → Option Value} {base : Heap}
/-! ### columns_of_fold -/
abbrev N_columns_of_fold : List Str := ["name", "given", "details", "kinds", "keys", "folds", "columns", "key", "fold", "told", "column"]
theorem sc_cfold : FnScope N_columns_of_fold ["name", "given", "details"] (defScope s_columns_of_fold) := ⟨rfl, rfl, rfl, by decide +kernel, rfl, by decide +kernel, by decide +kernel⟩
theorem all_some {kf : Str → Option Bool} {ks : List NC} : (∀ x ∈ ks.map (·.1), kf x ≠ none) ↔ ks.all (fun k => (kf k.1).isSome) = true := by
  rw [List.all_eq_true]
  constructor
  · intro h k hk
    have := h k.1 (List.mem_map.mpr ⟨k, hk, rfl⟩)
    cases hh : kf k.1 with
    | none => exact absurd hh this
    | some b => rfl
  · intro h x hx z
    obtain ⟨k, hk, rfl⟩ := List.mem_map.mp hx
    have h' := h k hk
    rw [z] at h'
    cases h'
theorem ok_cfold {f C fI : Addr} {fd : FuncData} (F : Fun K "columns_of_fold" "columns_of_fold" s_columns_of_fold f fd) (T : PySem.BadY.BadTxt K mg C fI) (m_dict : mg "dict" = none) (G_kind_of_fold : ReadyX P w K mg base 14 "kind_of_fold" ["name", "fold", "told", "kinds"] (spKF C)) (G_check_there : ReadyX P w K mg base 2 "check_there" ["name", "words", "kinds"] (spThere K C)) (G_unlike_columns : ReadyX P w K mg base 2 "unlike_columns" ["name", "columns"] (spUnl K C)) : FnOk P w K mg base (L2.CX P w) 15 f fd ["name", "given", "details"] (spChk K C "fold") := by
  refine F.okX sc_cfold (fun vs H Q E h => ?_) (fun cdv A outer s H vs Q E hr h => ?_)
  · obtain ⟨nm, gv, dv, det, gs, css, rfl, _⟩ := h
    rfl
  obtain ⟨nm, gv, dv, det, gs, css, rfl, hw, hgv, hg, har, hd, hok, q, qe⟩ := h
  have nd := sc_cfold.nd
  have hr1 : Room 1 _ := hr.mono (by decide)
  have hr2 : Room 2 _ := hr.mono (by decide)
  have hr14 : Room 14 _ := hr
  have hu64 : _ + 64 < cLine := hr.units
  have hu1 : _ + 1 < cLine := Nat.lt_of_le_of_lt (Nat.add_le_add_left (by decide : 1 ≤ 64) _) hu64
  refine ⟨_, pss_cons (ps_set (i := 3) nd rfl (.inr rfl) (pe_callTy (cr_dictT rfl) (by rfl) m_dict PyProof.Rows.boot_dict (pa_cons (pe_ix (show IxR _ (rIxL K) from ix_list) (pv 1) pe_int (fun _ _ => rfl)) pa_nil)))
      (pss_cons (ps_asg (pv 2) (pg_tup rfl (pgs_cons (pg_name (i := 4) nd rfl (.inl rfl)) (pgs_cons (pg_name (i := 5) nd rfl (.inl rfl)) pgs_nil))))
      (pss_cons (ps_expr (pe_fnX G_check_there hr2 (takes_of rfl rfl rfl rfl) (pa_cons (pv 0) (pa_cons (pv 4) (pa_cons (pv 3) pa_nil)))))
      (pss_cons (ps_setLc (i := 6) (own := [("key", 7)]) (g := gName 7) (tt := tYes) rfl nd rfl rfl (sw_true rfl rfl rfl (by decide +kernel)) (pi_tup (pv 4)) (blkOk_by (N := N_columns_of_fold) (sc := defScope s_columns_of_fold) (by decide +kernel)) (fun _ _ _ _ _ => pg_name (i := 7) nd rfl (Or.inl rfl)) (fun _ _ _ _ _ => pts_nil) (fun _ _ _ _ _ => (pe_tup (pa_cons (pv 7) (pa_cons (pe_dget hu1 (pv 3) (pv 7) (fun _ _ => rfl)) pa_nil)))))
      (pss_cons (ps_for (passes_of rfl) rfl (pi_tup (pv 5)) (pg_tup rfl (pgs_cons (pg_name (i := 8) nd rfl (.inl rfl)) (pgs_cons (pg_name (i := 9) nd rfl (.inl rfl)) (pgs_cons (pg_name (i := 10) nd rfl (.inl rfl)) pgs_nil)))) (pss_one (ps_expr (pe_bm PySem.F.plainAttrs_list PySem.F.slot_list_append PySem.F.type_list_append mt_append (pv 6) (pa_cons (pe_tup (pa_cons (pv 10) (pa_cons (pe_fnX G_kind_of_fold hr14 (takes_of rfl rfl rfl rfl) (pa_cons (pv 0) (pa_cons (pv 8) (pa_cons (pv 9) (pa_cons (pv 3) pa_nil))))) pa_nil))) pa_nil)))))
      (pss_one (ps_ret (pe_fnX G_unlike_columns hr2 (takes_of rfl rfl rfl rfl) (pa_cons (pv 0) (pa_cons (pv 6) pa_nil))))))))), ?_⟩
  have z2 : 2 ≤ sizeLine := by decide
  obtain ⟨ks, fs, rfl⟩ := what_fold hw
  obtain ⟨a, c, rfl, rfl, hc, gc⟩ := given1 hg har
  obtain ⟨as, tf, hp, ec⟩ := id hc
  obtain ⟨t, kt, ft, ps, rfl, h1, h2, h3, h4, rfl⟩ := hd
  obtain ⟨lk, lf, hfs⟩ := hok
  rw [List.length_map] at lf
  have h2' : H kt = some (.tup ((ks.map (·.1)).map V.str)) := by
    rw [List.map_map]
    exact h2
  refine ⟨_, rfl, gv, _, 0, _, rfl, rfl, hgv, rfl, a, as.map (·.1), as.map fun c => (c.2.1, V.str (kW c.2.2)), rfl, by rw [List.map_map]; exact tf, paired_cols hp, fun kd hkd => ?_⟩
  have s1 := same_upd (o := .dK (mergeK [] ((as.map fun c => (c.2.1, V.str (kW c.2.2))).map fun kv => ((.inr kv.1 : L2.Key), kv.2)))) hkd
  have hK := kd_new (H := H) (kd := kd) ec gc.nod
  generalize upd H kd (.dK (mergeK [] ((as.map fun c => (c.2.1, V.str (kW c.2.2))).map fun kv => ((.inr kv.1 : L2.Key), kv.2)))) = H1 at s1 hK ⊢
  refine ⟨_, rfl, t, _, rfl, SqT.of (s1 _ _ h1), rfl, _, _, rfl, _, _, rfl, rfl, ?_⟩
  refine ⟨_, rfl, _, rfl, _, rfl, nm, kt, kd, ks.map (·.1), kfN c, rfl, .inl (SqT.of (s1 _ _ h2')), hK, fun hall => ?_, fun hex => ?_⟩
  rotate_left
  · have : colsD [c] (.fold ks (ps.map (·.2))) = none := by
      refine if_neg fun z => ?_
      obtain ⟨x, hx, hn⟩ := hex
      exact all_some.mpr (Bool.and_eq_true_iff.mp z).1 x hx hn
    have hb := qe this
    exact fun H' u d sm nd' => hb H' u d (s1.trans sm) nd'
  -- columns of the keys
  obtain ⟨kvs, ek, gk⟩ := id hK
  let kN : NC → NC := fun k => (k.1, (kfN c k.1).getD true)
  refine ⟨_, rfl, kt, rfl, ⟨_, SqT.of (s1 _ _ h2')⟩, fun cl hcl => ?_⟩
  have ncl : H cl = none := none_same s1 hcl
  refine lc_tup (K := K) (a := kt) (xs := (ks.map (·.1)).map V.str) (fun i H' => Same H1 H' ∧ ∃ qs : List Col, H' cl = some (.lst (qs.map fun c => .ref c.1)) ∧ PairsAt H' qs ∧ qs.map (·.2) = (ks.take i).map kN) ⟨same_upd hcl, [], upd_same, fun x hx => absurd hx List.not_mem_nil, by simp⟩ (fun i H' _ h => SqT.of (h.1 _ _ (s1 _ _ h2'))) ?_ ?_
  · rintro i x H' hx ⟨sm, qs, e, hpq, eq⟩
    rw [List.getElem?_map, List.getElem?_map, Option.map_map] at hx
    obtain ⟨k, hk', rfl⟩ := Option.map_eq_some_iff.mp hx
    have hk0 := hall k.1 (List.mem_map.mpr ⟨k, List.mem_of_getElem? hk', rfl⟩)
    have tk : ks.take (i + 1) = ks.take i ++ [k] := by
      rw [List.take_add_one, hk']
      rfl
    have lq : qs.length ≤ 100 := by
      have h := congrArg List.length eq
      rw [List.length_map, List.length_map, List.length_take] at h
      omega
    cases hb : kfN c k.1 with
    | none => exact absurd hb hk0
    | some b =>
      have gt : DGet H' kd (.str k.1) (some (.str (kW b))) := by
        have h0 : valV kvs (.inr k.1) = some (.str (kW b)) := by rw [gk, hb]; rfl
        exact h0 ▸ DGet.k (k := .inr k.1) (sm _ _ ek)
      refine ⟨rfl, _, rfl, _, rfl, _, rfl, kd, _, rfl, gt, z2, fun r hr' => ?_⟩
      have e' := same_upd (o := .tup [.str k.1, .str (kW b)]) hr' _ _ e
      refine ⟨_, e', Nat.lt_of_le_of_lt (show _ ≤ 100 by rw [List.length_map]; exact lq) (by decide), fun b' o' ex => ?_, qs ++ [(r, k.1, b)], by rw [upd_same, List.map_append]; rfl, pairs_push (c := (k.1, b)) (H' := H') (l := qs.map fun c => .ref c.1) e hpq hr', ?_⟩
      · rw [upd_ne (ne_of_none ex hcl)]
        exact same_upd hr' _ _ (sm _ _ ex)
      · rw [tk, List.map_append, List.map_append, eq]
        show _ ++ [(k.1, b)] = _ ++ [(k.1, (kfN c k.1).getD true)]
        rw [hb]
        rfl
  rintro H2 ⟨sm2, qs0, ecl, hpq0, eq0⟩
  rw [List.length_map, List.length_map, List.take_length] at eq0
  have s2 := s1.trans sm2
  have hK2 := hK.keep sm2
  let fN : FC → NC := fun m => (m.2.2.2, (foldK (kfN c) m).getD true)
  refine ⟨_, rfl, ft, rfl, ⟨_, SqT.of (s2 _ _ h3)⟩, ?_⟩
  refine for_tup (K := K) (a := ft) (xs := ps.map fun p => .ref p.1) (fun i σ H' => ∃ y7 y8 y9 y10 qs, σ = [some (.str nm), some (.ref gv), some (.ref t), some (.ref kd), some (.ref kt), some (.ref ft), some (.ref cl), y7, y8, y9, y10] ∧ But cl H2 H' ∧ H' cl = some (.lst (qs.map fun c => .ref c.1)) ∧ PairsAt H' qs ∧ qs.map (·.2) = ks.map kN ++ ((ps.map (·.2)).take i).map fN ∧ ∀ m ∈ (ps.map (·.2)).take i, (foldK (kfN c) m).isSome = true)
    ⟨_, _, _, _, qs0, rfl, But.refl _ _, ecl, hpq0, by rw [eq0]; simp, fun m hm => absurd hm (by simp)⟩ (fun i σ H' _ h => by
      obtain ⟨_, _, _, _, _, _, b, _⟩ := h
      exact SqT.of (b.tup ecl _ _ (s2 _ _ h3))) ?_ ?_
  · rintro i x σ H' hx ⟨y7, y8, y9, y10, qs, rfl, b, e, hpq, eq, hal⟩
    rw [List.getElem?_map] at hx
    obtain ⟨p, hp', rfl⟩ := Option.map_eq_some_iff.mp hx
    have hi : i < ps.length := (List.getElem?_eq_some_iff.mp hp').1
    have pm := List.mem_of_getElem? hp'
    obtain ⟨told, t1, t2⟩ := h4 p pm
    have kt' : KeepT H H' := fun a xs e => b.tup ecl _ _ (s2 _ _ e)
    have tk : (ps.map (·.2)).take (i + 1) = (ps.map (·.2)).take i ++ [p.2] := by
      rw [List.take_add_one, List.getElem?_map, hp']
      rfl
    have lq : qs.length ≤ 200 := by
      have h := congrArg List.length eq
      rw [List.length_map, List.length_append, List.length_map, List.length_map, List.length_take, List.length_map] at h
      omega
    refine ⟨p.1, _, rfl, SqT.of (kt' _ _ t1), rfl, _, _, rfl, _, _, rfl, _, _, rfl, rfl, ?_⟩
    refine ⟨_, rfl, .inl ⟨rfl, _, SqL.of e⟩, _, rfl, _, rfl, _, rfl, _, rfl, _, rfl, nm, p.2.1, told, kd, kfN c, p.2.2.1, p.2.2.2.1, p.2.2.2.2, rfl, t2.keep kt', hfs p.2 (List.mem_map.mpr ⟨p, pm, rfl⟩), hK2.but b ecl, fun k hk H3 s3 => ⟨z2, fun r hr' => ?_⟩, fun hn => ?_⟩
    · have e3 := s3 _ _ e
      have e' := same_upd (o := .tup [.str p.2.2.2.2, .str (kW k)]) hr' _ _ e3
      refine ⟨cl, _, _, rfl, rfl, e', Nat.lt_of_le_of_lt (show _ ≤ 200 by rw [List.length_map]; exact lq) (by decide), _, _, _, _, qs ++ [(r, p.2.2.2.2, k)], rfl, fun x o hx' ex => ?_, by rw [upd_same, List.map_append]; rfl, pairs_push (c := (p.2.2.2.2, k)) (H' := H3) (l := qs.map fun c => .ref c.1) e3 (fun x hx' => s3 _ _ (hpq x hx')) hr', ?_, fun m hm => ?_⟩
      · rw [upd_ne hx']
        exact same_upd hr' _ _ (s3 _ _ (b _ _ hx' ex))
      · rw [tk, List.map_append, List.map_append, eq, List.append_assoc]
        show _ ++ (_ ++ [(p.2.2.2.2, k)]) = _ ++ (_ ++ [(p.2.2.2.2, (foldK (kfN c) p.2).getD true)])
        rw [show foldK (kfN c) p.2 = some k from hk]
        rfl
      · rw [tk] at hm
        rcases List.mem_append.mp hm with hm | hm
        · exact hal m hm
        · rw [List.mem_singleton.mp hm, show foldK (kfN c) p.2 = some k from hk]
          rfl
    · have : colsD [c] (.fold ks (ps.map (·.2))) = none := by
        refine if_neg fun z => ?_
        have h := List.all_eq_true.mp (Bool.and_eq_true_iff.mp z).2 p.2 (List.mem_map.mpr ⟨p, pm, rfl⟩)
        have h' : (foldK (kfN c) p.2).isSome = true := h
        rw [show foldK (kfN c) p.2 = none from hn] at h'
        cases h'
      have hb := qe this
      exact fun H'' u d sm nd' => hb H'' u d ((same_of_but s2 b ncl).trans sm) nd'
  · rintro σ H' ⟨y7, y8, y9, y10, qs, rfl, b, e, hpq, eq, hal⟩
    rw [List.length_map, List.take_of_length_le (by rw [List.length_map]; exact Nat.le_refl _)] at eq hal
    have sf := same_of_but s2 b ncl
    have hcols : colsD [c] (.fold ks (ps.map (·.2))) = ndC (qs.map (·.2)) := by
      rw [eq]
      exact if_pos (Bool.and_eq_true_iff.mpr ⟨all_some.mp hall, List.all_eq_true.mpr hal⟩)
    have e1 : ((qs.map (·.2)).map (·.1)) = qs.map fun c => c.2.1 := by
      rw [List.map_map]
      rfl
    have lq : qs.length ≤ 200 := by
      have h := congrArg List.length eq
      rw [List.length_map, List.length_append, List.length_map, List.length_map, List.length_map] at h
      omega
    refine ⟨_, rfl, _, rfl, nm, cl, qs, rfl, .inr e, hpq, by omega, fun hn a' H'' sm ta => ?_, fun hn => ?_⟩
    · exact q _ (hcols.trans (if_pos (by rw [e1]; exact hn))) a' H'' (sf.trans sm) ⟨qs, ta, fun x hx => sm _ _ (hpq x hx), rfl⟩
    · have hb := qe (hcols.trans (if_neg (by rw [e1]; exact hn)))
      exact fun H'' u d sm nd' => hb H'' u d (sf.trans sm) nd'
end
end Kx

set_option maxHeartbeats 8000000
namespace Kx
open PySem PySem.Spec PyProof.Rows L2
abbrev s_columns_of_join : Stmt := topS 68







section
variable {P : Program} {w : World} {K : PySem.W.Frag} {mg : Str → Option Value} {base : Heap}
/-! ### columns_of_join -/
abbrev N_columns_of_join : List Str := ["name", "given", "details", "ones", "others", "one_kinds", "other_kinds", "key", "columns", "pair"]
theorem sc_cjoin : FnScope N_columns_of_join ["name", "given", "details"] (defScope s_columns_of_join) := ⟨rfl, rfl, rfl, by decide +kernel, rfl, by decide +kernel, by decide +kernel⟩
theorem ok_cjoin {f C fI : Addr} {fd : FuncData} (F : Fun K "columns_of_join" "columns_of_join" s_columns_of_join f fd) (T : PySem.BadY.BadTxt K mg C fI) (m_dict : mg "dict" = none) (G_check_there : ReadyX P w K mg base 2 "check_there" ["name", "words", "kinds"] (spThere K C)) (G_unlike_columns : ReadyX P w K mg base 2 "unlike_columns" ["name", "columns"] (spUnl K C)) : FnOk P w K mg base (L2.CX P w) 3 f fd ["name", "given", "details"] (spChk K C "join") := by
  refine F.okX sc_cjoin (fun vs H Q E h => ?_) (fun cdv A outer s H vs Q E hr h => ?_)
  · obtain ⟨nm, gv, dv, det, gs, css, rfl, _⟩ := h
    rfl
  obtain ⟨nm, gv, dv, det, gs, css, rfl, hw, hgv, hg, har, hd, hok, q, qe⟩ := h
  have nd := sc_cjoin.nd
  have hr1 : Room 1 _ := hr.mono (by decide)
  have hr2 : Room 2 _ := hr.mono (by decide)
  have hu64 : _ + 64 < cLine := hr.units
  have hu1 : _ + 1 < cLine := Nat.lt_of_le_of_lt (Nat.add_le_add_left (by decide : 1 ≤ 64) _) hu64
  refine ⟨_, pss_cons (ps_asg (pv 1) (pg_unl rfl (pgs_cons (pg_name (i := 3) nd rfl (.inl rfl)) (pgs_cons (pg_name (i := 4) nd rfl (.inl rfl)) pgs_nil))))
      (pss_cons (ps_set (i := 5) nd rfl (.inr rfl) (pe_callTy (cr_dictT rfl) (by rfl) m_dict PyProof.Rows.boot_dict (pa_cons (pv 3) pa_nil)))
      (pss_cons (ps_set (i := 6) nd rfl (.inl rfl) (pe_callTy (cr_dictT rfl) (by rfl) m_dict PyProof.Rows.boot_dict (pa_cons (pv 4) pa_nil)))
      (pss_cons (ps_expr (pe_fnX G_check_there hr2 (takes_of rfl rfl rfl rfl) (pa_cons (pv 0) (pa_cons (pv 2) (pa_cons (pv 5) pa_nil)))))
      (pss_cons (ps_expr (pe_fnX G_check_there hr2 (takes_of rfl rfl rfl rfl) (pa_cons (pv 0) (pa_cons (pv 2) (pa_cons (pv 6) pa_nil)))))
      (pss_cons (ps_for (passes_of rfl) rfl (pi_tup (pv 2)) (pg_name (i := 7) nd rfl (.inl rfl)) (pss_one (ps_if (pt_cmpR op_ne (pe_dget hu1 (pv 5) (pv 7) (fun _ _ => rfl)) (pe_dget hu1 (pv 6) (pv 7) (fun _ _ => rfl)) (nomark _)) (pss_one (ps_raiseBad2 rfl T hr1 (takes_of rfl rfl rfl rfl) (pa_cons (pv 0) (pa_cons pe_str pa_nil)))) (pss_nil))))
      (pss_cons (ps_setLc (i := 8) (own := [("key", 7)]) (g := gName 7) (tt := tYes) rfl nd rfl rfl (sw_true rfl rfl rfl (by decide +kernel)) (pi_tup (pv 2)) (blkOk_by (N := N_columns_of_join) (sc := defScope s_columns_of_join) (by decide +kernel)) (fun _ _ _ _ _ => pg_name (i := 7) nd rfl (Or.inl rfl)) (fun _ _ _ _ _ => pts_nil) (fun _ _ _ _ _ => (pe_tup (pa_cons (pv 7) (pa_cons (pe_dget hu1 (pv 5) (pv 7) (fun _ _ => rfl)) pa_nil)))))
      (pss_cons (ps_expr (pe_bm PySem.F.plainAttrs_list PySem.F.slot_list_extend PySem.F.type_list_extend mt_extend (pv 8) (pa_cons (pe_lc (own := [("pair", 9)]) (g := gName 9) (tt := tTest (tOp (rIn K true) (tOp (rIxT K) (tVar 9) (tC (V.int 0))) (tVar 2))) rfl nd (pi_tup (pv 3)) (blkOk_by (N := N_columns_of_join) (sc := defScope s_columns_of_join) (by decide +kernel)) (fun _ _ _ _ _ => pg_name (i := 9) nd rfl (Or.inl rfl)) (fun _ _ _ _ _ => pts_one (pt_cmpR op_notIn_seq (pe_ix ix_tup (pv 9) pe_int (fun _ _ => rfl)) (pv 2) rfl)) (fun _ _ _ _ _ => (pv 9))) pa_nil)))
      (pss_cons (ps_expr (pe_bm PySem.F.plainAttrs_list PySem.F.slot_list_extend PySem.F.type_list_extend mt_extend (pv 8) (pa_cons (pe_lc (own := [("pair", 9)]) (g := gName 9) (tt := tTest (tOp (rIn K true) (tOp (rIxT K) (tVar 9) (tC (V.int 0))) (tVar 2))) rfl nd (pi_tup (pv 4)) (blkOk_by (N := N_columns_of_join) (sc := defScope s_columns_of_join) (by decide +kernel)) (fun _ _ _ _ _ => pg_name (i := 9) nd rfl (Or.inl rfl)) (fun _ _ _ _ _ => pts_one (pt_cmpR op_notIn_seq (pe_ix ix_tup (pv 9) pe_int (fun _ _ => rfl)) (pv 2) rfl)) (fun _ _ _ _ _ => (pv 9))) pa_nil)))
      (pss_one (ps_ret (pe_fnX G_unlike_columns hr2 (takes_of rfl rfl rfl rfl) (pa_cons (pv 0) (pa_cons (pv 8) pa_nil))))))))))))), ?_⟩
  have z2 : 2 ≤ sizeLine := by decide
  obtain ⟨ks, rfl⟩ := what_join hw
  obtain ⟨a, b, c, e, rfl, rfl, hc, gc, he, ge⟩ := given2 hg har
  obtain ⟨as, tf, hp, ec⟩ := id hc
  obtain ⟨bs, tf2, hp2, ee⟩ := id he
  obtain ⟨kt, rfl, h2⟩ := hd
  have lk : ks.length ≤ 100 := hok
  have h2' : H kt = some (.tup ((ks.map (·.1)).map V.str)) := by
    rw [List.map_map]
    exact h2
  refine ⟨_, rfl, gv, _, rfl, hgv, rfl, _, _, rfl, _, _, rfl, rfl, ?_⟩
  refine ⟨_, rfl, a, as.map (·.1), as.map fun c => (c.2.1, V.str (kW c.2.2)), rfl, by rw [List.map_map]; exact tf, paired_cols hp, fun k1 hk1 => ?_⟩
  have s1 := same_upd (o := .dK (mergeK [] ((as.map fun c => (c.2.1, V.str (kW c.2.2))).map fun kv => ((.inr kv.1 : L2.Key), kv.2)))) hk1
  have hK := kd_new (H := H) (kd := k1) ec gc.nod
  generalize upd H k1 (.dK (mergeK [] ((as.map fun c => (c.2.1, V.str (kW c.2.2))).map fun kv => ((.inr kv.1 : L2.Key), kv.2)))) = H1 at s1 hK ⊢
  refine ⟨_, rfl, b, bs.map (·.1), bs.map fun c => (c.2.1, V.str (kW c.2.2)), rfl, by rw [List.map_map]; exact same_f s1 _ _ tf2, paired_cols (fun x hx => s1 _ _ (hp2 x hx)), fun k2 hk2 => ?_⟩
  have s2 := same_upd (o := .dK (mergeK [] ((bs.map fun c => (c.2.1, V.str (kW c.2.2))).map fun kv => ((.inr kv.1 : L2.Key), kv.2)))) hk2
  have hL := kd_new (H := H1) (kd := k2) ee ge.nod
  replace hK := hK.keep s2
  replace s1 := s1.trans s2
  generalize upd H1 k2 (.dK (mergeK [] ((bs.map fun c => (c.2.1, V.str (kW c.2.2))).map fun kv => ((.inr kv.1 : L2.Key), kv.2)))) = H2 at s1 hK hL ⊢
  clear s2 hk1 hk2
  have none_of : ∀ {k : NC}, k ∈ ks → (kfN c k.1 = none ∨ kfN e k.1 ≠ kfN c k.1) → colsD [c, e] (.join ks) = none := fun {k} hk h => if_neg fun z => by
    have h' := List.all_eq_true.mp z k hk
    have h1 := Bool.and_eq_true_iff.mp h'
    rcases h with h | h
    · have h2 : (kfN c k.1).isSome = true := h1.1
      rw [h] at h2
      cases h2
    · exact h (of_decide_eq_true h1.2)
  refine ⟨_, rfl, _, rfl, _, rfl, nm, kt, k1, ks.map (·.1), kfN c, rfl, .inl (SqT.of (s1 _ _ h2')), hK, fun hall => ?_, fun hex => ?_⟩
  rotate_left
  · obtain ⟨x, hx, hn⟩ := hex
    obtain ⟨k, hk, rfl⟩ := List.mem_map.mp hx
    have hb := qe (none_of hk (.inl hn))
    exact fun H' u d sm nd' => hb H' u d (s1.trans sm) nd'
  refine ⟨_, rfl, _, rfl, _, rfl, nm, kt, k2, ks.map (·.1), kfN e, rfl, .inl (SqT.of (s1 _ _ h2')), hL, fun hall2 => ?_, fun hex => ?_⟩
  rotate_left
  · obtain ⟨x, hx, hn⟩ := hex
    obtain ⟨k, hk, rfl⟩ := List.mem_map.mp hx
    have hb := qe (none_of hk (.inr fun z => hall k.1 hx (by rw [← z]; exact hn)))
    exact fun H' u d sm nd' => hb H' u d (s1.trans sm) nd'
  obtain ⟨kv1, ek1, gk1⟩ := id hK
  obtain ⟨kv2, ek2, gk2⟩ := id hL
  have ekt := s1 _ _ h2'
  -- the kinds are alike
  refine ⟨_, rfl, kt, rfl, ⟨_, SqT.of ekt⟩, ?_⟩
  refine for_tup (K := K) (a := kt) (xs := (ks.map (·.1)).map V.str) (fun i σ H' => ∃ y7 y8 y9, σ = [some (.str nm), some (.ref gv), some (.ref kt), some (.ref a), some (.ref b), some (.ref k1), some (.ref k2), y7, y8, y9] ∧ H' = H2 ∧ ∀ k ∈ ks.take i, kfN e k.1 = kfN c k.1) ⟨_, _, _, rfl, rfl, fun k hk => absurd hk (by simp)⟩ (fun i σ H' _ h => by
    obtain ⟨_, _, _, _, rfl, _⟩ := h
    exact SqT.of ekt) ?_ ?_
  · rintro i x σ H' hx ⟨y7, y8, y9, rfl, rfl, al⟩
    rw [List.getElem?_map, List.getElem?_map, Option.map_map] at hx
    obtain ⟨k, hk', rfl⟩ := Option.map_eq_some_iff.mp hx
    have km := List.mem_of_getElem? hk'
    have hx1 := hall k.1 (List.mem_map.mpr ⟨k, km, rfl⟩)
    have hx2 := hall2 k.1 (List.mem_map.mpr ⟨k, km, rfl⟩)
    have tk : ks.take (i + 1) = ks.take i ++ [k] := by
      rw [List.take_add_one, hk']
      rfl
    cases hb1 : kfN c k.1 with
    | none => exact absurd hb1 hx1
    | some b1 =>
      cases hb2 : kfN e k.1 with
      | none => exact absurd hb2 hx2
      | some b2 =>
        have g1 : DGet H' k1 (.str k.1) (some (.str (kW b1))) := by
          have h0 : valV kv1 (.inr k.1) = some (.str (kW b1)) := by rw [gk1, hb1]; rfl
          exact h0 ▸ DGet.k (k := .inr k.1) ek1
        have g2 : DGet H' k2 (.str k.1) (some (.str (kW b2))) := by
          have h0 : valV kv2 (.inr k.1) = some (.str (kW b2)) := by rw [gk2, hb2]; rfl
          exact h0 ▸ DGet.k (k := .inr k.1) ek2
        refine ⟨_, rfl, _, rfl, k1, _, rfl, g1, _, rfl, _, rfl, k2, _, rfl, g2, rfl, _, rfl, ite2 (fun cc => ?_) (fun cc => ?_)⟩
        · have hb := qe (none_of km (.inr (by
            rw [hb1, hb2]
            intro z
            have : b2 = b1 := Option.some.inj z
            rw [this] at cc
            simp at cc)))
          exact ⟨_, rfl, _, _, rfl, fun d nd' => hb _ _ d s1 nd'⟩
        · refine ⟨_, _, _, rfl, rfl, fun k' hk2 => ?_⟩
          rw [tk] at hk2
          rcases List.mem_append.mp hk2 with hk2 | hk2
          · exact al k' hk2
          · rw [List.mem_singleton.mp hk2, hb1, hb2]
            cases b1 <;> cases b2 <;> first | rfl | (exfalso; apply cc; decide +kernel)
  rintro σ HH ⟨y7, y8, y9, rfl, rfl, al⟩
  rw [List.length_map, List.length_map, List.take_length] at al
  -- columns of the keys
  let kN : NC → NC := fun k => (k.1, (kfN c k.1).getD true)
  refine ⟨_, rfl, kt, rfl, ⟨_, SqT.of ekt⟩, fun cl hcl => ?_⟩
  have ncl : H cl = none := none_same s1 hcl
  refine lc_tup (K := K) (a := kt) (xs := (ks.map (·.1)).map V.str) (fun i H' => Same HH H' ∧ ∃ qs : List Col, H' cl = some (.lst (qs.map fun c => .ref c.1)) ∧ PairsAt H' qs ∧ qs.map (·.2) = (ks.take i).map kN) ⟨same_upd hcl, [], upd_same, fun x hx => absurd hx List.not_mem_nil, by simp⟩ (fun i H' _ h => SqT.of (h.1 _ _ ekt)) ?_ ?_
  · rintro i x H' hx ⟨sm, qs, e', hpq, eq⟩
    rw [List.getElem?_map, List.getElem?_map, Option.map_map] at hx
    obtain ⟨k, hk', rfl⟩ := Option.map_eq_some_iff.mp hx
    have hk0 := hall k.1 (List.mem_map.mpr ⟨k, List.mem_of_getElem? hk', rfl⟩)
    have tk : ks.take (i + 1) = ks.take i ++ [k] := by
      rw [List.take_add_one, hk']
      rfl
    have lq : qs.length ≤ 100 := by
      have h := congrArg List.length eq
      rw [List.length_map, List.length_map, List.length_take] at h
      omega
    cases hb : kfN c k.1 with
    | none => exact absurd hb hk0
    | some b' =>
      have gt : DGet H' k1 (.str k.1) (some (.str (kW b'))) := by
        have h0 : valV kv1 (.inr k.1) = some (.str (kW b')) := by rw [gk1, hb]; rfl
        exact h0 ▸ DGet.k (k := .inr k.1) (sm _ _ ek1)
      refine ⟨rfl, _, rfl, _, rfl, _, rfl, k1, _, rfl, gt, z2, fun r hr' => ?_⟩
      have e'' := same_upd (o := .tup [.str k.1, .str (kW b')]) hr' _ _ e'
      refine ⟨_, e'', Nat.lt_of_le_of_lt (show _ ≤ 100 by rw [List.length_map]; exact lq) (by decide), fun x o' ex => ?_, qs ++ [(r, k.1, b')], by rw [upd_same, List.map_append]; rfl, pairs_push (c := (k.1, b')) (H' := H') (l := qs.map fun c => .ref c.1) e' hpq hr', ?_⟩
      · rw [upd_ne (ne_of_none ex hcl)]
        exact same_upd hr' _ _ (sm _ _ ex)
      · rw [tk, List.map_append, List.map_append, eq]
        show _ ++ [(k.1, b')] = _ ++ [(k.1, (kfN c k.1).getD true)]
        rw [hb]
        rfl
  rintro H3 ⟨sm3, qs0, ecl, hpq0, eq0⟩
  rw [List.length_map, List.length_map, List.take_length] at eq0
  have s3 := s1.trans sm3
  replace ekt := sm3 _ _ ekt
  clear ek1 ek2 gk1 gk2 hK hL sm3
  let PP : Col → Bool := fun c => decide (c.2.1 ∉ ks.map (·.1))
  have la : as.length ≤ 100 := by
    have := gc.few
    rw [← ec, List.length_map] at this
    exact this
  have lb : bs.length ≤ 100 := by
    have := ge.few
    rw [← ee, List.length_map] at this
    exact this
  have lq0 : qs0.length ≤ 100 := by
    have h := congrArg List.length eq0
    rw [List.length_map, List.length_map] at h
    omega
  have tfA := same_f s3 _ _ tf
  have hpA : PairsAt H3 as := fun x hx => s3 _ _ (hp x hx)
  refine ⟨_, rfl, .inl ⟨rfl, _, SqL.of ecl⟩, _, rfl, a, rfl, ⟨_, tfA.sq⟩, fun DA hDA => ?_⟩
  have nDA : DA ≠ cl := (ne_of_none ecl hDA).symm
  refine lc_tup (K := K) (a := a) (xs := as.map fun c => .ref c.1) (fun i H' => Same H3 H' ∧ H' DA = some (.lst (((as.take i).filter PP).map fun c => .ref c.1))) ⟨same_upd hDA, upd_same⟩ (fun i H' _ h => (same_f h.1 _ _ tfA).sq) ?_ ?_
  · rintro i x H' hx ⟨sm, e'⟩
    rw [List.getElem?_map] at hx
    obtain ⟨x', hx', rfl⟩ := Option.map_eq_some_iff.mp hx
    have cm := List.mem_of_getElem? hx'
    refine ⟨rfl, _, rfl, x'.1, _, 0, _, rfl, rfl, SqT.of (sm _ _ (hpA x' cm)), rfl, _, rfl, kt, (ks.map (·.1)).map V.str, rfl, .inr (SqT.of (sm _ _ ekt)), rfl, flat_strs _, _, rfl, notin_strs (fun hn => ?_) (fun hn => ?_)⟩
    · refine ⟨_, rfl, _, e', ?_, fun b' o' ex => ?_, ?_⟩
      · rw [List.length_map]
        have h1 := filt_len (P := PP) (as.take i)
        have h2 : (as.take i).length ≤ as.length := by rw [List.length_take]; omega
        exact Nat.lt_of_le_of_lt (show _ ≤ 100 by omega) (by decide)
      · rw [upd_ne (ne_of_none ex hDA)]
        exact sm _ _ ex
      · rw [filt_yes hx' (decide_eq_true hn), List.map_append]
        exact upd_same
    · refine ⟨sm, ?_⟩
      rw [filt_no hx' (decide_eq_false fun z => z hn)]
      exact e'
  rintro HX ⟨sX, eDA⟩
  rw [List.length_map, List.take_length] at eDA
  have lA := filt_len (P := PP) as
  refine ⟨cl, DA, _, _, rfl, rfl, sX _ _ ecl, eDA, Nat.le_trans (show _ ≤ 200 by rw [List.length_map, List.length_map]; omega) (by decide), ?_⟩
  rw [← List.map_append]
  have bA : But cl H3 (upd HX cl (.lst ((qs0 ++ as.filter PP).map fun c => .ref c.1))) := fun x o hx ex => by
    rw [upd_ne hx]
    exact sX _ _ ex
  have ecl1 : upd HX cl (.lst ((qs0 ++ as.filter PP).map fun c => .ref c.1)) cl = some (.lst ((qs0 ++ as.filter PP).map fun c => .ref c.1)) := upd_same
  generalize upd HX cl (.lst ((qs0 ++ as.filter PP).map fun c => .ref c.1)) = H4 at bA ecl1 ⊢
  have tfB : TupF H4 b (bs.map fun c => .ref c.1) := bA.tupF ecl _ _ (same_f s3 _ _ tf2)
  have hpB : PairsAt H4 bs := fun x hx => bA.tup ecl _ _ (s3 _ _ (hp2 x hx))
  have hpq1 : PairsAt H4 (qs0 ++ as.filter PP) := fun x hx => by
    rcases List.mem_append.mp hx with hx | hx
    · exact bA.tup ecl _ _ (hpq0 x hx)
    · exact bA.tup ecl _ _ (hpA x (List.mem_filter.mp hx).1)
  have s4 := same_of_but s3 bA ncl
  replace ekt := bA.tup ecl _ _ ekt
  replace ecl := ecl1
  clear ecl1 sX eDA bA tfA
  refine ⟨_, rfl, .inl ⟨rfl, _, SqL.of ecl⟩, _, rfl, b, rfl, ⟨_, tfB.sq⟩, fun DB hDB => ?_⟩
  have nDB : DB ≠ cl := (ne_of_none ecl hDB).symm
  refine lc_tup (K := K) (a := b) (xs := bs.map fun c => .ref c.1) (fun i H' => Same H4 H' ∧ H' DB = some (.lst (((bs.take i).filter PP).map fun c => .ref c.1))) ⟨same_upd hDB, upd_same⟩ (fun i H' _ h => (same_f h.1 _ _ tfB).sq) ?_ ?_
  · rintro i x H' hx ⟨sm, e'⟩
    rw [List.getElem?_map] at hx
    obtain ⟨x', hx', rfl⟩ := Option.map_eq_some_iff.mp hx
    have cm := List.mem_of_getElem? hx'
    refine ⟨rfl, _, rfl, x'.1, _, 0, _, rfl, rfl, SqT.of (sm _ _ (hpB x' cm)), rfl, _, rfl, kt, (ks.map (·.1)).map V.str, rfl, .inr (SqT.of (sm _ _ ekt)), rfl, flat_strs _, _, rfl, notin_strs (fun hn => ?_) (fun hn => ?_)⟩
    · refine ⟨_, rfl, _, e', ?_, fun b' o' ex => ?_, ?_⟩
      · rw [List.length_map]
        have h1 := filt_len (P := PP) (bs.take i)
        have h2 : (bs.take i).length ≤ bs.length := by rw [List.length_take]; omega
        exact Nat.lt_of_le_of_lt (show _ ≤ 100 by omega) (by decide)
      · rw [upd_ne (ne_of_none ex hDB)]
        exact sm _ _ ex
      · rw [filt_yes hx' (decide_eq_true hn), List.map_append]
        exact upd_same
    · refine ⟨sm, ?_⟩
      rw [filt_no hx' (decide_eq_false fun z => z hn)]
      exact e'
  rintro HX ⟨sX, eDB⟩
  rw [List.length_map, List.take_length] at eDB
  have lB := filt_len (P := PP) bs
  refine ⟨cl, DB, _, _, rfl, rfl, sX _ _ ecl, eDB, Nat.le_trans (show _ ≤ 300 by rw [List.length_map, List.length_map, List.length_append]; omega) (by decide), ?_⟩
  rw [← List.map_append]
  have bB : But cl H4 (upd HX cl (.lst (((qs0 ++ as.filter PP) ++ bs.filter PP).map fun c => .ref c.1))) := fun x o hx ex => by
    rw [upd_ne hx]
    exact sX _ _ ex
  have ecl2 : upd HX cl (.lst (((qs0 ++ as.filter PP) ++ bs.filter PP).map fun c => .ref c.1)) cl = some (.lst (((qs0 ++ as.filter PP) ++ bs.filter PP).map fun c => .ref c.1)) := upd_same
  generalize upd HX cl (.lst (((qs0 ++ as.filter PP) ++ bs.filter PP).map fun c => .ref c.1)) = H5 at bB ecl2 ⊢
  have hpq2 : PairsAt H5 ((qs0 ++ as.filter PP) ++ bs.filter PP) := fun x hx => by
    rcases List.mem_append.mp hx with hx | hx
    · exact bB.tup ecl _ _ (hpq1 x hx)
    · exact bB.tup ecl _ _ (hpB x (List.mem_filter.mp hx).1)
  have sf := same_of_but s4 bB ncl
  obtain ⟨qs, eqs⟩ : ∃ qs, qs = (qs0 ++ as.filter PP) ++ bs.filter PP := ⟨_, rfl⟩
  rw [← eqs] at ecl2 hpq2
  have hcols : colsD [c, e] (.join ks) = ndC (qs.map (·.2)) := by
    rw [eqs, List.map_append, List.map_append, eq0]
    have h1 : (as.filter PP).map (·.2) = c.filter (fun x => decide (x.1 ∉ ks.map (·.1))) := by
      rw [← ec, List.filter_map]
      rfl
    have h3 : (bs.filter PP).map (·.2) = e.filter (fun x => decide (x.1 ∉ ks.map (·.1))) := by
      rw [← ee, List.filter_map]
      rfl
    rw [h1, h3, List.append_assoc]
    refine if_pos (List.all_eq_true.mpr fun k hk => Bool.and_eq_true_iff.mpr ⟨?_, decide_eq_true (al k hk)⟩)
    have := hall k.1 (List.mem_map.mpr ⟨k, hk, rfl⟩)
    show (kfN c k.1).isSome = true
    cases hh : kfN c k.1 with
    | none => exact absurd hh this
    | some _ => rfl
  have e1 : ((qs.map (·.2)).map (·.1)) = qs.map fun c => c.2.1 := by
    rw [List.map_map]
    rfl
  have lq : qs.length ≤ 300 := by
    rw [eqs, List.length_append, List.length_append]
    omega
  refine ⟨_, rfl, _, rfl, nm, cl, qs, rfl, .inr ecl2, hpq2, by omega, fun hn a' H'' sm ta => ?_, fun hn => ?_⟩
  · exact q _ (hcols.trans (if_pos (by rw [e1]; exact hn))) a' H'' (sf.trans sm) ⟨qs, ta, fun x hx => sm _ _ (hpq2 x hx), rfl⟩
  · have hb := qe (hcols.trans (if_neg (by rw [e1]; exact hn)))
    exact fun H'' u d sm nd' => hb H'' u d (sf.trans sm) nd'
end
end Kx

set_option maxHeartbeats 8000000
namespace Kx
open PySem PySem.Spec PyProof.Rows L2
/-! ### a local name that holds one of some defs that may raise, called -/
structure CalX (P : Program) (w : World) (K : PySem.W.Frag) (mg : Str → Option Value) (base : Heap) (k : Nat) (f : Addr) (sp : Sp) : Prop where
  ex : ∃ (fd : FuncData) (ps : List Str), FnOk P w K mg base (L2.CX P w) k f fd ps sp ∧ PySem.W.keepIn K (.ref f) = true ∧ Binds K fd ps []
section
variable {X : Cx}
def tCallW (i : Nat) (fam : List (Addr × Sp)) (W : WX) (t : TA) : TE := fun σ H Q => ∃ p ∈ fam, σ[i]? = some (some (.ref p.1)) ∧ t σ H fun vs H1 => p.2 vs H1 Q (WE W σ)
theorem pe_cvX {i j : Nat} {fam : List (Addr × Sp)} {W : WX} {x : Str} {p pos : Pos} {e : Expr} {es : List Expr} {t : TA} (c : ∀ p ∈ fam, ∃ k, k ≤ j ∧ CalX X.prog X.w X.K X.mg X.base k p.1 p.2) (hr : Room j X.A) (tk : Takes X W) (hN : X.N[i]? = some x) (hv : Vis X.env.scope x) (ha : PA X (e :: es) t)
    (hd : (x == ("__debug__" : Str)) = false := by decide) (hcd : (x == ("__classdict__" : Str)) = false := by decide)
    (he : starEach (e :: es) X.env = (false, eval e X.env) :: starEach es X.env := by rfl) (hpl : (backTo pos (starEach es X.env)).any (·.1) = false := by rfl) :
    PE X (.Call (.Name x p) (e :: es) [] pos) (tCallW i fam W t) := by
  constructor
  intro pins s σ H Q I h
  obtain ⟨⟨f, sp⟩, hm, hs, ht⟩ := h
  obtain ⟨k, hk, ⟨fd, ps, F, kp, b⟩⟩ := c _ hm
  refine wpAny_Call_Name_kw (thn ((pe_var (pos := p) hN hv hd hcd).run pins s σ H (fun v H1 => v = .ref f ∧ H1 = H) I ⟨.ref f, hs, rfl, rfl⟩) ?_)
  rintro u s1 ⟨v, H1, I1, r1, rfl, rfl⟩
  cases r1
  refine PySem.W.callWith_K (h₀ := X.base) I.ok.mod.kin kp (thn (ha.run pos pins s1 σ _ _ I1 ht) ?_) he hpl
  rintro us s2 ⟨vs, H2, I2, r, q⟩
  exact ⟨I2.kIn, run_fnS F (hr.mono hk) b (passAt tk σ) I2 r q⟩
end
end Kx

set_option maxHeartbeats 8000000
namespace Kx
open PySem PySem.Spec PyProof.Rows L2
/-! ### columns whose names are of a list: they stay so -/
def bigN : List Str := allNames ++ (["z", "a", "b", "d", "s0", "s1", "s2", "s3", "s4", "s5", "s6", "s7", "s9"] : List Str)
theorem big_ok : ∀ x ∈ bigN, PyData.canLay0 (.str x) = true := by decide +kernel
structure NamedC (cs : List NC) : Prop where
  nod : (cs.map (·.1)).Nodup
  inn : ∀ c ∈ cs, c.1 ∈ bigN
theorem NamedC.good {cs : List NC} (n : NamedC cs) : GoodC cs := by
  refine ⟨n.nod, ?_, fun c hc => big_ok _ (n.inn c hc)⟩
  have h1 := nodup_len (M := (cs.map (·.1)).map fun x => (Sum.inr x : L2.Key)) (ks := bigN.map fun x => (Sum.inr x : L2.Key)) (List.pairwise_map.mpr (n.nod.imp fun ne e => ne (Sum.inr.inj e))) fun z hz => by
    obtain ⟨x, hx, rfl⟩ := List.mem_map.mp hz
    obtain ⟨c, hc, rfl⟩ := List.mem_map.mp hx
    exact List.mem_map.mpr ⟨_, n.inn c hc, rfl⟩
  rw [List.length_map, List.length_map, List.length_map] at h1
  have : bigN.length ≤ 100 := by decide
  omega
def DetN : Det → Prop
  | .read cs => ∀ c ∈ cs, c.1 ∈ bigN
  | .map ms => ∀ m ∈ ms, m.2.2 ∈ bigN
  | .fold _ fs => ∀ m ∈ fs, m.2.2.2 ∈ bigN
  | _ => True
theorem ndC_some {cs cs' : List NC} (h : ndC cs = some cs') : cs' = cs ∧ (cs.map (·.1)).Nodup := by
  unfold ndC at h
  split at h
  · rename_i hn
    exact ⟨(Option.some.inj h).symm, hn⟩
  · cases h
theorem kf_mem {cs : List NC} {x : Str} (h : (kfN cs x).isSome = true) : x ∈ cs.map (·.1) := by
  by_cases z : x ∈ cs.map (·.1)
  · exact z
  · rw [kfN_none z] at h
    cases h
theorem getD_in {css : List (List NC)} {i : Nat} (h : i < css.length) (hN : ∀ cs ∈ css, NamedC cs) : NamedC (css.getD i []) := by
  have : css.getD i [] = css[i] := by simp [List.getD, h]
  rw [this]
  exact hN _ (List.getElem_mem h)
theorem cols_named {css : List (List NC)} {det : Det} {cs : List NC} (hN : ∀ c ∈ css, NamedC c) (hd : DetN det) (ha : css.length = det.arity) (h : colsD css det = some cs) : NamedC cs := by
  have in_of : ∀ {c : List NC} {x : Str}, NamedC c → x ∈ c.map (·.1) → x ∈ bigN := fun n hx => by
    obtain ⟨c, hc, rfl⟩ := List.mem_map.mp hx
    exact n.inn c hc
  cases det with
  | read cs0 =>
    obtain ⟨rfl, hn⟩ := ndC_some h
    exact ⟨hn, hd⟩
  | filter e =>
    have g := getD_in (i := 0) (by rw [ha]; show 0 < _; first | exact Nat.zero_lt_one | exact Nat.zero_lt_two) hN
    change (if _ then _ else _) = _ at h
    split at h
    · cases h
      exact g
    · cases h
  | map ms =>
    change (if _ then _ else _) = _ at h
    split at h
    · obtain ⟨rfl, hn⟩ := ndC_some h
      refine ⟨hn, fun c hc => ?_⟩
      obtain ⟨m, hm, rfl⟩ := List.mem_map.mp hc
      exact hd m hm
    · cases h
  | fold ks fs =>
    have g := getD_in (i := 0) (by rw [ha]; show 0 < _; first | exact Nat.zero_lt_one | exact Nat.zero_lt_two) hN
    change (if _ then _ else _) = _ at h
    split at h
    · rename_i hall
      obtain ⟨rfl, hn⟩ := ndC_some h
      refine ⟨hn, fun c hc => ?_⟩
      rcases List.mem_append.mp hc with hc | hc
      · obtain ⟨k, hk, rfl⟩ := List.mem_map.mp hc
        exact in_of g (kf_mem (List.all_eq_true.mp (Bool.and_eq_true_iff.mp hall).1 k hk))
      · obtain ⟨m, hm, rfl⟩ := List.mem_map.mp hc
        exact hd m hm
    · cases h
  | join ks =>
    have g := getD_in (i := 0) (by rw [ha]; show 0 < _; first | exact Nat.zero_lt_one | exact Nat.zero_lt_two) hN
    have g2 := getD_in (i := 1) (by rw [ha]; exact Nat.one_lt_two) hN
    change (if _ then _ else _) = _ at h
    split at h
    · rename_i hall
      obtain ⟨rfl, hn⟩ := ndC_some h
      refine ⟨hn, fun c hc => ?_⟩
      rcases List.mem_append.mp hc with hc | hc
      · obtain ⟨k, hk, rfl⟩ := List.mem_map.mp hc
        exact in_of g (kf_mem (Bool.and_eq_true_iff.mp (List.all_eq_true.mp hall k hk)).1)
      rcases List.mem_append.mp hc with hc | hc
      · exact g.inn c (List.mem_filter.mp hc).1
      · exact g2.inn c (List.mem_filter.mp hc).1
    · cases h
  | union =>
    have g := getD_in (i := 0) (by rw [ha]; show 0 < _; first | exact Nat.zero_lt_one | exact Nat.zero_lt_two) hN
    change (if _ then _ else _) = _ at h
    split at h
    · cases h
      exact g
    · cases h
  | unlike =>
    have g := getD_in (i := 0) (by rw [ha]; show 0 < _; first | exact Nat.zero_lt_one | exact Nat.zero_lt_two) hN
    change some _ = _ at h
    cases h
    exact g
  | sort ws m =>
    have g := getD_in (i := 0) (by rw [ha]; show 0 < _; first | exact Nat.zero_lt_one | exact Nat.zero_lt_two) hN
    change (if _ then _ else _) = _ at h
    split at h
    · cases h
      exact g
    · cases h
/-! ### the columns of a job's steps, or the first wrong step -/
def known (kn : List (Str × List NC)) (x : Str) : List NC := ((kn.find? fun e => decide (e.1 = x)).map (·.2)).getD []
def stepC (kn : List (Str × List NC)) (s : Stp) : Option (List NC) :=
  if s.name ∈ kn.map (·.1) then none else if (∃ x ∈ s.ins, x ∉ kn.map (·.1)) then none else colsD (s.ins.map (known kn)) s.det
def runC : List (Str × List NC) → List Stp → Except Str (List (Str × List NC))
  | kn, [] => .ok kn
  | kn, s :: ss => match stepC kn s with
    | none => .error s.name
    | some cs => runC (kn ++ [(s.name, cs)]) ss
def StpOk (s : Stp) : Prop := DetOk s.det ∧ DetN s.det ∧ s.ins.length = s.det.arity
end Kx

set_option maxHeartbeats 8000000
namespace Kx
open PySem PySem.Spec PyProof.Rows L2
abbrev s_columns_of : Stmt := topS 73
theorem runC_append : ∀ (kn : List (Str × List NC)) (a b : List Stp), runC kn (a ++ b) = match runC kn a with
  | .ok k => runC k b
  | .error e => .error e := by
  intro kn a
  induction a generalizing kn with
  | nil => intro b; rfl
  | cons s ss ih =>
    intro b
    show (match stepC kn s with | none => Except.error s.name | some cs => runC (kn ++ [(s.name, cs)]) (ss ++ b)) = _
    show _ = match (match stepC kn s with | none => Except.error s.name | some cs => runC (kn ++ [(s.name, cs)]) ss) with | .ok k => runC k b | .error e => .error e
    cases stepC kn s with
    | none => rfl
    | some cs => exact ih _ b
abbrev Tg : Type := List (Str × Addr × List NC)
def absT (tg : Tg) : List (Str × List NC) := tg.map fun e => (e.1, e.2.2)
theorem val_in {tg : Tg} (hn : (tg.map (·.1)).Nodup) {e : Str × Addr × List NC} (h : e ∈ tg) : valV (tg.map fun e => ((.inr e.1 : L2.Key), V.ref e.2.1)) (.inr e.1) = some (.ref e.2.1) :=
  val_key (f := fun e : Str × Addr × List NC => V.ref e.2.1) (nm := fun e => e.1) hn h
theorem val_out {tg : Tg} {x : Str} (h : x ∉ tg.map (·.1)) : valV (tg.map fun e => ((.inr e.1 : L2.Key), V.ref e.2.1)) (.inr x) = none := by
  unfold valV
  rw [List.find?_eq_none.mpr]
  · rfl
  · intro p hp
    obtain ⟨e, he, rfl⟩ := List.mem_map.mp hp
    intro z
    exact h (List.mem_map.mpr ⟨e, he, Sum.inr.inj (of_decide_eq_true z)⟩)
theorem known_in : ∀ {tg : Tg}, (tg.map (·.1)).Nodup → ∀ {e : Str × Addr × List NC}, e ∈ tg → known (absT tg) e.1 = e.2.2
  | [], _, e, h => absurd h List.not_mem_nil
  | x :: tg, hn, e, h => by
    unfold known absT
    rw [List.map_cons, List.find?_cons]
    by_cases hx : x.1 = e.1
    · have hxe : x = e := by
        rcases List.mem_cons.mp h with rfl | h
        · rfl
        · exact absurd (by show x.1 ∈ _; rw [hx]; exact List.mem_map.mpr ⟨e, h, rfl⟩) (List.nodup_cons.mp hn).1
      rw [decide_eq_true (show ((x.1, x.2.2) : Str × List NC).1 = e.1 from hx), hxe]
      rfl
    · rw [decide_eq_false (show ¬ ((x.1, x.2.2) : Str × List NC).1 = e.1 from hx)]
      have hl : e ∈ tg := by
        rcases List.mem_cons.mp h with rfl | h
        · exact absurd rfl hx
        · exact h
      exact known_in (List.nodup_cons.mp hn).2 hl
theorem err_at {xs : List Stp} {i : Nat} {s : Stp} {kn k : List (Str × List NC)} (h : xs[i]? = some s) (hr : runC kn (xs.take i) = .ok k) (hs : stepC k s = none) : runC kn xs = .error s.name := by
  obtain ⟨hi, he⟩ := List.getElem?_eq_some_iff.mp h
  have e : xs = xs.take i ++ s :: xs.drop (i + 1) := by
    rw [← he, ← List.drop_eq_getElem_cons hi, List.take_append_drop]
  rw [e, runC_append, hr]
  show (match stepC k s with | none => Except.error s.name | some cs => runC (k ++ [(s.name, cs)]) (xs.drop (i + 1))) = _
  rw [hs]
theorem ok_at {xs : List Stp} {i : Nat} {s : Stp} {kn k : List (Str × List NC)} {cs : List NC} (h : xs[i]? = some s) (hr : runC kn (xs.take i) = .ok k) (hs : stepC k s = some cs) : runC kn (xs.take (i + 1)) = .ok (k ++ [(s.name, cs)]) := by
  have e : xs.take (i + 1) = xs.take i ++ [s] := by
    rw [List.take_add_one, h]
    rfl
  rw [e, runC_append, hr]
  show (match stepC k s with | none => Except.error s.name | some cs => Except.ok (k ++ [(s.name, cs)])) = _
  rw [hs]
theorem choose_es {tg : Tg} : ∀ {ins : List Str}, (∀ x ∈ ins, x ∈ tg.map (·.1)) → ∃ es : Tg, es.map (·.1) = ins ∧ ∀ e ∈ es, e ∈ tg
  | [], _ => ⟨[], rfl, fun e h => absurd h List.not_mem_nil⟩
  | x :: ins, h => by
    obtain ⟨e, he, ex⟩ := List.mem_map.mp (h x List.mem_cons_self)
    obtain ⟨es, h1, h2⟩ := choose_es fun y hy => h y (List.mem_cons_of_mem _ hy)
    refine ⟨e :: es, by rw [List.map_cons, h1, ex], fun y hy => ?_⟩
    rcases List.mem_cons.mp hy with rfl | hy
    · exact he
    · exact h2 y hy
def whats : List Str := ["read", "filter", "map", "fold", "join", "union", "unlike", "sort"]
theorem what_in (d : Det) : d.what ∈ whats := by
  cases d <;> (dsimp only [Det.what]; decide +kernel)
section
variable {P : Program} {w : World} {K : PySem.W.Frag} {mg : Str → Option Value} {base : Heap}
/-- the table of the checkers -/
def CkAt (P : Program) (w : World) (K : PySem.W.Frag) (mg : Str → Option Value) (base : Heap) (C : Addr) : Prop := ∃ (dl : Addr) (ff : Str → Addr), mg "CHECKERS" = some (.ref dl) ∧ ∀ wh ∈ whats, KDct K w dl wh (.ref (ff wh)) ∧ ∃ k, k ≤ 15 ∧ CalX P w K mg base k (ff wh) (spChk K C wh)
abbrev N_columns_of : List Str := ["job", "steps", "answer", "told", "name", "what", "inputs", "details", "source", "columns_of_what"]
def spColsJ (K : PySem.W.Frag) (C : Addr) : Sp := fun vs H Q E => ∃ (job st : Addr) (answer : Str) (as : List (Addr × Stp)), vs = [.ref job] ∧ H job = some (.tup [.ref st, .str answer]) ∧ H st = some (.tup (as.map fun p => .ref p.1)) ∧ (∀ p ∈ as, StpAt H p.1 p.2 ∧ StpOk p.2) ∧ as.length ≤ 100 ∧
  (∀ kn, runC [] (as.map (·.2)) = .ok kn → answer ∈ kn.map (·.1) → ∀ (T : Addr) (tg : Tg) (H' : Hp), Same H H' → H' T = some (.dK (tg.map fun e => (.inr e.1, .ref e.2.1))) → absT tg = kn → (∀ e ∈ tg, CF H' e.2.1 e.2.2) → Q (.ref T) H') ∧
  (∀ kn, runC [] (as.map (·.2)) = .ok kn → answer ∉ kn.map (·.1) → BadE C answer H E) ∧ ∀ nm, runC [] (as.map (·.2)) = .error nm → BadE C nm H E
theorem sc_cols : FnScope N_columns_of ["job"] (defScope s_columns_of) := ⟨rfl, rfl, rfl, by decide +kernel, rfl, by decide +kernel, by decide +kernel⟩
theorem ok_cols {f C fI : Addr} {fd : FuncData} (F : Fun K "columns_of" "columns_of" s_columns_of f fd) (T : PySem.BadY.BadTxt K mg C fI) (CK : CkAt P w K mg base C) : FnOk P w K mg base (L2.CX P w) 16 f fd ["job"] (spColsJ K C) := by
  refine F.okX sc_cols (fun vs H Q E h => ?_) (fun cdv A outer s H vs Q E hr h => ?_)
  · obtain ⟨job, st, answer, as, rfl, _⟩ := h
    rfl
  obtain ⟨job, st, answer, as, rfl, hj, hst, hs, la, q, q2, qe⟩ := h
  obtain ⟨dl, ff, m_ck, hck⟩ := CK
  have cal : ∀ p ∈ (whats.map fun wh => (ff wh, spChk K C wh)), ∃ k, k ≤ 15 ∧ CalX P w K mg base k p.1 p.2 := fun p hp => by
    obtain ⟨wh, hw, rfl⟩ := List.mem_map.mp hp
    exact (hck wh hw).2
  have nd := sc_cols.nd
  have hr1 : Room 1 _ := hr.mono (by decide)
  have hr15 : Room 15 _ := hr
  have hu64 : _ + 64 < cLine := hr.units
  have hu1 : _ + 1 < cLine := Nat.lt_of_le_of_lt (Nat.add_le_add_left (by decide : 1 ≤ 64) _) hu64
  refine ⟨_, pss_cons (ps_asg (pv 0) (pg_tup rfl (pgs_cons (pg_name (i := 1) nd rfl (.inl rfl)) (pgs_cons (pg_name (i := 2) nd rfl (.inl rfl)) pgs_nil))))
      (pss_cons (ps_set (i := 3) nd rfl (.inr rfl) pe_dnewK)
      (pss_cons (ps_for (passes_of rfl) rfl (pi_tup (pv 1)) (pg_tup rfl (pgs_cons (pg_name (i := 4) nd rfl (.inl rfl)) (pgs_cons (pg_name (i := 5) nd rfl (.inl rfl)) (pgs_cons (pg_name (i := 6) nd rfl (.inl rfl)) (pgs_cons (pg_name (i := 7) nd rfl (.inl rfl)) pgs_nil))))) (pss_cons (ps_if (pt_cmp (pc_din hu1 (pv 4) (pv 3)) rfl) (pss_one (ps_raiseBad2 rfl T hr1 (takes_of rfl rfl rfl rfl) (pa_cons (pv 4) (pa_cons pe_str pa_nil)))) (pss_nil))
      (pss_cons (ps_for (passes_of rfl) rfl (pi_tup (pv 6)) (pg_name (i := 8) nd rfl (.inl rfl)) (pss_one (ps_if (pt_cmp (pc_dnotin hu1 (pv 8) (pv 3)) rfl) (pss_one (ps_raiseBad2 rfl T hr1 (takes_of rfl rfl rfl rfl) (pa_cons (pv 4) (pa_cons pe_str pa_nil)))) (pss_nil))))
      (pss_cons (ps_set (i := 9) nd rfl (.inl rfl) (pe_ix ix_kdict (pe_glob (v := .ref dl) rfl m_ck rfl) (pv 5) (fun _ _ => rfl)))
      (pss_one (ps_dput hu1 (pv 3) (pv 4) (pe_cvX (i := 9) cal hr15 (takes_of rfl rfl rfl rfl) rfl (.inl rfl) (pa_cons (pv 4) (pa_cons (pe_lc (own := [("source", 8)]) (g := gName 8) (tt := tYes) rfl nd (pi_tup (pv 6)) (blkOk_by (N := N_columns_of) (sc := defScope s_columns_of) (by decide +kernel)) (fun _ _ _ _ _ => pg_name (i := 8) nd rfl (Or.inl rfl)) (fun _ _ _ _ _ => pts_nil) (fun _ _ _ _ _ => (pe_dget hu1 (pv 3) (pv 8) (fun _ _ => rfl)))) (pa_cons (pv 7) pa_nil)))) rfl))))))
      (pss_cons (ps_if (pt_cmp (pc_dnotin hu1 (pv 2) (pv 3)) rfl) (pss_one (ps_raiseBad2 rfl T hr1 (takes_of rfl rfl rfl rfl) (pa_cons (pv 2) (pa_cons pe_str pa_nil)))) (pss_nil))
      (pss_one (ps_ret (pv 3)))))), ?_⟩
  refine ⟨_, rfl, job, _, rfl, SqT.of hj, rfl, _, _, rfl, _, _, rfl, rfl, fun TT hTT => ?_⟩
  have s1 := same_upd (o := .dK []) hTT
  have eT : upd H TT (.dK []) TT = some (.dK []) := upd_same
  generalize upd H TT (.dK []) = H1 at s1 eT ⊢
  have kT : ∀ {H' : Hp}, But TT H1 H' → KeepT H1 H' := fun b a xs e => b a _ (fun z => by rw [z, eT] at e; cases e) e
  have kF : ∀ {H' : Hp}, But TT H1 H' → KeepF H1 H' := fun b a xs ⟨o, dn, e⟩ => ⟨o, dn, b a _ (fun z => by rw [z, eT] at e; cases e) e⟩
  refine ⟨_, rfl, st, rfl, ⟨_, SqT.of (s1 _ _ hst)⟩, ?_⟩
  refine for_tup (K := K) (a := st) (xs := as.map fun p => .ref p.1) (fun i σ H' => ∃ y4 y5 y6 y7 y8 y9 tg, σ = [some (.ref job), some (.ref st), some (.str answer), some (.ref TT), y4, y5, y6, y7, y8, y9] ∧ But TT H1 H' ∧ H' TT = some (.dK (tg.map fun e => (.inr e.1, .ref e.2.1))) ∧ runC [] ((as.map (·.2)).take i) = .ok (absT tg) ∧ (∀ e ∈ tg, CF H' e.2.1 e.2.2 ∧ NamedC e.2.2) ∧ (tg.map (·.1)).Nodup ∧ tg.length ≤ i)
    ⟨_, _, _, _, _, _, [], rfl, But.refl _ _, eT, rfl, fun e he => absurd he List.not_mem_nil, List.nodup_nil, Nat.le_refl _⟩ (fun i σ H' _ h => by
      obtain ⟨_, _, _, _, _, _, _, _, b, _⟩ := h
      exact SqT.of (kT b _ _ (s1 _ _ hst))) ?_ ?_
  · rintro i x σ H' hx ⟨y4, y5, y6, y7, y8, y9, tg, rfl, b, eT', hrun, hcf, hnd, hlen⟩
    rw [List.getElem?_map] at hx
    obtain ⟨⟨pa, s'⟩, hp', rfl⟩ := Option.map_eq_some_iff.mp hx
    have pm := List.mem_of_getElem? hp'
    have hi : i < as.length := (List.getElem?_eq_some_iff.mp hp').1
    have hsi : (as.map (·.2))[i]? = some s' := by rw [List.getElem?_map, hp']; rfl
    obtain ⟨xat, sok1, sok2, sok3⟩ := hs _ pm
    obtain ⟨inp, dv, x1, x2, x3⟩ := (xat.keep (same_t s1) (same_f s1)).keep (kT b) (kF b)
    dsimp only at x1 x2 x3 sok1 sok2 sok3
    have sm : Same H H' := fun a o e => b a o (ne_of_none e hTT) (s1 _ _ e)
    have names : (absT tg).map (·.1) = tg.map (·.1) := by
      unfold absT
      rw [List.map_map]
      rfl
    refine ⟨pa, _, rfl, SqT.of x1, rfl, _, _, rfl, _, _, rfl, _, _, rfl, _, _, rfl, rfl, ?_⟩
    refine ⟨_, rfl, _, rfl, TT, _, rfl, DGet.k (k := .inr s'.name) eT', _, rfl, ?_⟩
    by_cases hin : s'.name ∈ tg.map (·.1)
    · obtain ⟨e, he, ee⟩ := List.mem_map.mp hin
      have hv : valV (tg.map fun e => ((.inr e.1 : L2.Key), V.ref e.2.1)) (.inr s'.name) = some (.ref e.2.1) := by
        rw [← ee]
        exact val_in hnd he
      rw [hv]
      have hz : stepC (absT tg) s' = none := if_pos (by rw [names]; exact hin)
      exact iteT ⟨_, rfl, _, _, rfl, fun d nd' => qe _ (err_at hsi hrun hz) _ _ d sm nd'⟩
    have hv : valV (tg.map fun e => ((.inr e.1 : L2.Key), V.ref e.2.1)) (.inr s'.name) = none := val_out hin
    rw [hv]
    refine iteF ?_
    refine ⟨_, rfl, inp, rfl, ⟨_, SqT.of x2⟩, ?_⟩
    refine for_tup (K := K) (a := inp) (xs := s'.ins.map V.str) (fun j σ H'' => ∃ y8, σ = [some (.ref job), some (.ref st), some (.str answer), some (.ref TT), some (.str s'.name), some (.str s'.det.what), some (.ref inp), some dv, y8, y9] ∧ H'' = H' ∧ ∀ x ∈ s'.ins.take j, x ∈ tg.map (·.1)) ⟨_, rfl, rfl, fun x hx => absurd hx (by simp)⟩ (fun j σ H'' _ h => by
      obtain ⟨_, _, rfl, _⟩ := h
      exact SqT.of x2) ?_ ?_
    · rintro j x σ H'' hx ⟨y8, rfl, rfl, al⟩
      rw [List.getElem?_map] at hx
      obtain ⟨z, hz, rfl⟩ := Option.map_eq_some_iff.mp hx
      refine ⟨_, rfl, _, rfl, TT, _, rfl, DGet.k (k := .inr z) eT', _, rfl, ?_⟩
      by_cases hzi : z ∈ tg.map (·.1)
      · obtain ⟨e, he, ee⟩ := List.mem_map.mp hzi
        have hv : valV (tg.map fun e => ((.inr e.1 : L2.Key), V.ref e.2.1)) (.inr z) = some (.ref e.2.1) := by
          rw [← ee]
          exact val_in hnd he
        rw [hv]
        refine iteF ⟨_, rfl, rfl, fun u hu => ?_⟩
        rw [List.take_add_one, hz] at hu
        rcases List.mem_append.mp hu with hu | hu
        · exact al u hu
        · rw [List.mem_singleton.mp hu]
          exact hzi
      · rw [val_out hzi]
        have hn : stepC (absT tg) s' = none := by
          unfold stepC
          rw [if_neg (by rw [names]; exact hin)]
          exact if_pos ⟨z, List.mem_of_getElem? hz, by rw [names]; exact hzi⟩
        exact iteT ⟨_, rfl, _, _, rfl, fun d nd' => qe _ (err_at hsi hrun hn) _ _ d sm nd'⟩
    rintro σ H'' ⟨y8, rfl, rfl, al⟩
    rw [List.length_map, List.take_length] at al
    obtain ⟨es, ees, hes⟩ := choose_es al
    refine ⟨_, rfl, dl, s'.det.what, _, rfl, rfl, (hck _ (what_in _)).1, ?_⟩
    have les : es.length ≤ 2 := by
      have h := congrArg List.length ees
      rw [List.length_map, sok3] at h
      have : s'.det.arity ≤ 2 := by cases s'.det <;> first | exact Nat.le_refl 2 | exact Nat.le_succ 1 | exact Nat.zero_le 2
      omega
    refine ⟨(ff s'.det.what, spChk K C s'.det.what), List.mem_map.mpr ⟨_, what_in _, rfl⟩, rfl, _, rfl, _, rfl, inp, rfl, ⟨_, SqT.of x2⟩, fun D hD => ?_⟩
    refine lc_tup (K := K) (a := inp) (xs := s'.ins.map V.str) (fun j G => Same H'' G ∧ G D = some (.lst (((es.take j).map (·.2.1)).map V.ref))) ⟨same_upd hD, upd_same⟩ (fun j G _ h => SqT.of (h.1 _ _ x2)) ?_ ?_
    · rintro j x G hx ⟨smG, eD⟩
      rw [← ees, List.getElem?_map, List.getElem?_map, Option.map_map] at hx
      obtain ⟨e, he, rfl⟩ := Option.map_eq_some_iff.mp hx
      have gt : DGet G TT (.str e.1) (some (.ref e.2.1)) := (val_in hnd (hes e (List.mem_of_getElem? he))) ▸ DGet.k (k := .inr e.1) (smG _ _ eT')
      have tk : es.take (j + 1) = es.take j ++ [e] := by
        rw [List.take_add_one, he]
        rfl
      refine ⟨rfl, _, rfl, _, rfl, TT, _, rfl, gt, _, eD, Nat.lt_of_le_of_lt (show _ ≤ 2 by rw [List.length_map, List.length_map, List.length_take]; omega) (by decide), fun c o ex => ?_, ?_⟩
      · rw [upd_ne (ne_of_none ex hD)]
        exact smG _ _ ex
      · rw [tk, List.map_append, List.map_append]
        exact upd_same
    rintro G ⟨smG, eD⟩
    rw [← ees, List.length_map, List.length_map, List.take_length] at eD
    have hstep : stepC (absT tg) s' = colsD (es.map (·.2.2)) s'.det := by
      unfold stepC
      rw [if_neg (by rw [names]; exact hin), if_neg (fun z => by
        obtain ⟨x, hx, hn⟩ := z
        rw [names] at hn
        exact hn (al x hx)), ← ees, List.map_map]
      congr 1
      refine List.map_congr_left fun e he => ?_
      exact known_in hnd (hes e he)
    have hNam : ∀ cs ∈ es.map (·.2.2), NamedC cs := fun cs hc => by
      obtain ⟨e, he, rfl⟩ := List.mem_map.mp hc
      exact (hcf e (hes e he)).2
    have har : (es.map (·.2.2)).length = s'.det.arity := by
      have h := congrArg List.length ees
      rw [List.length_map] at h
      rw [List.length_map, h, sok3]
    refine ⟨_, rfl, s'.name, D, dv, s'.det, es.map (·.2.1), es.map (·.2.2), rfl, rfl, SqL.of eD, ⟨by rw [List.length_map, List.length_map], fun k g cs hg hc => ?_⟩, har, x3.keep (same_t smG) (same_f smG), sok1, fun cs hcs a H3 sm3 hCF => ?_, fun hn => ?_⟩
    · rw [List.getElem?_map] at hg hc
      obtain ⟨e, he, rfl⟩ := Option.map_eq_some_iff.mp hg
      rw [he] at hc
      cases hc
      have h := hcf e (hes e (List.mem_of_getElem? he))
      exact ⟨h.1.keep (same_t smG) (same_f smG), h.2.good⟩
    · have s5 := smG.trans sm3
      have eT3 := s5 _ _ eT'
      refine ⟨_, rfl, _, rfl, TT, _, rfl, DPut.k (k := .inr s'.name) eT3 (Nat.lt_of_le_of_lt (show _ ≤ 100 by rw [List.length_map]; omega) (by decide)), ?_⟩
      have nT : ∀ {a : Addr} {xs : List V}, H3 a = some (.tup xs) → a ≠ TT := fun e z => by
        rw [z, eT3] at e
        cases e
      have kt3 : KeepT H3 (upd H3 TT (.dK (putK (tg.map fun e => ((.inr e.1 : L2.Key), V.ref e.2.1)) (.inr s'.name) (.ref a)))) := fun a' xs e => by
        rw [upd_ne (nT e)]
        exact e
      have kf3 : KeepF H3 (upd H3 TT (.dK (putK (tg.map fun e => ((.inr e.1 : L2.Key), V.ref e.2.1)) (.inr s'.name) (.ref a)))) := fun a' xs ⟨o, dn, e⟩ => ⟨o, dn, by
        rw [upd_ne (fun z => by rw [z, eT3] at e; cases e)]
        exact e⟩
      refine ⟨_, _, _, _, _, _, tg ++ [(s'.name, a, cs)], rfl, fun c o hc e => ?_, ?_, ?_, fun e he => ?_, ?_, ?_⟩
      · rw [upd_ne hc]
        exact s5 _ _ (b c o hc e)
      · rw [upd_same, putK_new _ hv, List.map_append]
        rfl
      · rw [ok_at hsi hrun (hstep.trans hcs)]
        unfold absT
        rw [List.map_append]
        rfl
      · rcases List.mem_append.mp he with he | he
        · exact ⟨((hcf e he).1.keep (same_t s5) (same_f s5)).keep kt3 kf3, (hcf e he).2⟩
        · rw [List.mem_singleton.mp he]
          exact ⟨hCF.keep kt3 kf3, cols_named hNam sok2 har hcs⟩
      · rw [List.map_append]
        exact List.nodup_append.mpr ⟨hnd, by simp, fun u hu v hv' e => hin (by
          have : v = s'.name := List.mem_singleton.mp hv'
          rw [← this, ← e]
          exact hu)⟩
      · rw [List.length_append]
        exact Nat.succ_le_succ hlen
    · have hb := qe _ (err_at hsi hrun (hstep.trans hn))
      exact fun H5 u d s5 nd' => hb H5 u d ((sm.trans smG).trans s5) nd'
  · rintro σ H' ⟨y4, y5, y6, y7, y8, y9, tg, rfl, b, eT', hrun, hcf, hnd, hlen⟩
    rw [List.length_map, List.take_of_length_le (by rw [List.length_map]; exact Nat.le_refl _)] at hrun
    have sm : Same H H' := fun a o e => b a o (ne_of_none e hTT) (s1 _ _ e)
    have names : (absT tg).map (·.1) = tg.map (·.1) := by
      unfold absT
      rw [List.map_map]
      rfl
    refine ⟨_, rfl, _, rfl, TT, _, rfl, DGet.k (k := .inr answer) eT', _, rfl, ?_⟩
    by_cases hin : answer ∈ tg.map (·.1)
    · obtain ⟨e, he, ee⟩ := List.mem_map.mp hin
      have hv : valV (tg.map fun e => ((.inr e.1 : L2.Key), V.ref e.2.1)) (.inr answer) = some (.ref e.2.1) := by
        rw [← ee]
        exact val_in hnd he
      rw [hv]
      exact iteF ⟨_, rfl, q _ hrun (by rw [names]; exact hin) TT tg H' sm eT' rfl fun e he => (hcf e he).1⟩
    · rw [val_out hin]
      exact iteT ⟨_, rfl, _, _, rfl, fun d nd' => q2 _ hrun (by rw [names]; exact hin) _ _ d sm nd'⟩
end
end Kx

namespace Kx
open PySem PySem.Spec PyProof.Rows L2
/-! ### rows: their values by their columns' names -/
abbrev Row : Type := List L2.Key
def rowEnv : List Str → Row → Str → V
  | n :: ns, k :: r, x => if n = x then kV k else rowEnv ns r x
  | _, _, _ => .int 0
theorem rowEnv_at : ∀ {ns : List Str} {r : Row}, ns.Nodup → ∀ {i : Nat} {x : Str} {k : L2.Key}, ns[i]? = some x → r[i]? = some k → rowEnv ns r x = kV k
  | [], _, _, i, x, k, h, _ => by cases h
  | _ :: _, [], _, i, x, k, _, h => by cases h
  | n :: ns, y :: r, nd, 0, x, k, h1, h2 => by
    cases h1
    cases h2
    exact if_pos rfl
  | n :: ns, y :: r, nd, i + 1, x, k, h1, h2 => by
    obtain ⟨a, b⟩ := List.nodup_cons.mp nd
    have h1' : ns[i]? = some x := h1
    have ne : n ≠ x := fun e => a (e ▸ List.mem_of_getElem? h1')
    show (if n = x then _ else rowEnv ns r x) = _
    rw [if_neg ne]
    exact rowEnv_at b h1' h2
/-- the places of columns, as a dict -/
def PlcAt (H : Hp) (pl : Addr) (ns : List Str) : Prop := ∃ kvs : List (L2.Key × V), H pl = some (.dK kvs) ∧ ∀ (i : Nat) (x : Str), ns[i]? = some x → valV kvs (.inr x) = some (.int (i : Nat))
/-- a row of these columns -/
def RowT (cs : List NC) (r : Row) : Prop := r.length = cs.length ∧ ∀ (i : Nat) (c : NC) (k : L2.Key), cs[i]? = some c → r[i]? = some k → Fits c.2 (kV k)
theorem kfN_at : ∀ {cs : List NC} {x : Str} {b : Bool}, kfN cs x = some b → ∃ i : Nat, cs[i]? = some (x, b)
  | [], x, b, h => by cases h
  | c :: cs, x, b, h => by
    unfold kfN at h
    rw [List.find?_cons] at h
    by_cases e : c.1 = x
    · rw [decide_eq_true e] at h
      have : c.2 = b := Option.some.inj h
      exact ⟨0, by rw [← e, ← this]; rfl⟩
    · rw [decide_eq_false e] at h
      obtain ⟨i, hi⟩ := kfN_at (cs := cs) (x := x) (b := b) h
      exact ⟨i + 1, hi⟩
theorem rowT_env {cs : List NC} {r : Row} (h : RowT cs r) (nd : (cs.map (·.1)).Nodup) {x : Str} {b : Bool} (hx : kfN cs x = some b) : ∃ (i : Nat) (k : L2.Key), (cs.map (·.1))[i]? = some x ∧ r[i]? = some k ∧ Fits b (kV k) ∧ rowEnv (cs.map (·.1)) r x = kV k := by
  obtain ⟨i, hi⟩ := kfN_at hx
  have hl : i < r.length := by
    rw [h.1]
    exact (List.getElem?_eq_some_iff.mp hi).1
  have hr := List.getElem?_eq_getElem hl
  have hn : (cs.map (·.1))[i]? = some x := by rw [List.getElem?_map, hi]; rfl
  exact ⟨i, _, hn, hr, h.2 i (x, b) _ hi hr, rowEnv_at nd hn hr⟩
theorem rowT_fits {cs : List NC} {r : Row} (h : RowT cs r) (nd : (cs.map (·.1)).Nodup) : ∀ x b, kfN cs x = some b → Fits b (rowEnv (cs.map (·.1)) r x) := fun x b hx => by
  obtain ⟨_, _, _, _, f, e⟩ := rowT_env h nd hx
  rw [e]
  exact f
section
variable {P : Program} {w : World} {K : PySem.W.Frag} {mg : Str → Option Value} {base : Heap}
abbrev sWorth : Stmt := topS 16
def spWorth (m : Nat) : Sp := fun vs H Q _ => ∃ (v : V) (pl rw_ : Addr) (cs : List NC) (r : Row) (e : Ex) (b : Bool), vs = [v, .ref pl, .ref rw_] ∧ PlcAt H pl (cs.map (·.1)) ∧ H rw_ = some (.tup (r.map kV)) ∧ RowT cs r ∧ (cs.map (·.1)).Nodup ∧ ExAt H v e ∧ Kind (kfN cs) e b ∧ e.dep ≤ m ∧ Q (e.val (rowEnv (cs.map (·.1)) r)) H
theorem sc_worth : FnScope ["told", "places", "row", "what"] ["told", "places", "row"] (defScope sWorth) := ⟨rfl, rfl, rfl, by decide +kernel, rfl, by decide +kernel, by decide +kernel⟩
theorem at0w {x : V} {r : List V} : atI (x :: r) 0 = some x := by
  have h : atI (x :: r) ((0 : Nat) : Int) = some x := atI_nat rfl
  exact h
theorem ok_worth {f : Addr} {fd : FuncData} {m : Nat} (F : Fun K "worth" "worth" sWorth f fd) (m_int : mg "int" = none) (m_len : mg "len" = none) (G_worth_of_two : Ready P w K mg base 2 "worth_of_two" ["op", "one", "other"] spTwo) (G_wrapped : Ready P w K mg base 1 "wrapped" ["number"] spWrap)
    (G_worth : Ready P w K mg base (m + 2) "worth" ["told", "places", "row"] (spWorth m)) : FnOk P w K mg base CX0 (m + 3) f fd ["told", "places", "row"] (spWorth (m + 1)) := by
  refine F.ok sc_worth (fun vs H Q E h => ?_) (fun cdv A outer s H vs Q E hr h => ?_)
  · obtain ⟨v, pl, rw_, cs, r, e, b, rfl, _⟩ := h
    rfl
  obtain ⟨v, pl, rw_, cs, r, e, b, rfl, hp, hr0, hT, hnd, hv, hK, hd, q⟩ := h
  have nd := sc_worth.nd
  have hu := hu_of hr
  have hr1 : Room 1 _ := hr.mono (by omega)
  have hr2 : Room 2 _ := hr.mono (by omega)
  refine ⟨_, pss_cons (ps_set (i := 3) nd rfl (.inl rfl) (pe_ix ix_tup (pv 0) pe_int (fun _ _ => rfl)))
      (pss_cons (ps_if (pt_cmpR op_eq (pv 3) pe_str (nomark _)) (pss_one (ps_ret (pe_ix ix_tup (pv 2) (pe_dget hu (pv 1) (pe_ix ix_tup (pv 0) pe_int (fun _ _ => rfl)) (fun _ _ => rfl)) (fun _ _ => rfl)))) (pss_nil))
      (pss_cons (ps_if (pt_cmpR op_eq (pv 3) pe_str (nomark _)) (pss_one (ps_ret (pe_fn (G_worth_of_two) hr2 (pa_cons (pe_ix ix_tup (pv 0) pe_int (fun _ _ => rfl)) (pa_cons (pe_fn (G_worth) hr (pa_cons (pe_ix ix_tup (pv 0) pe_int (fun _ _ => rfl)) (pa_cons (pv 1) (pa_cons (pv 2) pa_nil)))) (pa_cons (pe_fn (G_worth) hr (pa_cons (pe_ix ix_tup (pv 0) pe_int (fun _ _ => rfl)) (pa_cons (pv 1) (pa_cons (pv 2) pa_nil)))) pa_nil)))))) (pss_nil))
      (pss_cons (ps_if (pt_cmpR op_eq (pv 3) pe_str (nomark _)) (pss_one (ps_ret (pe_callTy call_int1 (by rfl) m_int boot_int (pa_cons (pe_cmpR op_eq (pe_fn (G_worth) hr (pa_cons (pe_ix ix_tup (pv 0) pe_int (fun _ _ => rfl)) (pa_cons (pv 1) (pa_cons (pv 2) pa_nil)))) pe_int (nomark _)) pa_nil)))) (pss_nil))
      (pss_cons (ps_if (pt_cmpR op_eq (pv 3) pe_str (nomark _)) (pss_one (ps_ret (pe_fn (G_wrapped) hr1 (pa_cons (pe_un un_neg (pe_fn (G_worth) hr (pa_cons (pe_ix ix_tup (pv 0) pe_int (fun _ _ => rfl)) (pa_cons (pv 1) (pa_cons (pv 2) pa_nil))))) pa_nil)))) (pss_nil))
      (pss_cons (ps_if (pt_cmpR op_eq (pv 3) pe_str (nomark _)) (pss_one (ps_ret (pe_callB call_len_str (by rfl) m_len PySem.boot_len (pa_cons (pe_fn (G_worth) hr (pa_cons (pe_ix ix_tup (pv 0) pe_int (fun _ _ => rfl)) (pa_cons (pv 1) (pa_cons (pv 2) pa_nil)))) pa_nil)))) (pss_nil))
      (pss_one (ps_ret (pe_ix ix_tup (pv 0) pe_int (fun _ _ => rfl))))))))), ?_⟩
  have vf : ∀ {e b}, Kind (kfN cs) e b → Fits b (e.val (rowEnv (cs.map (·.1)) r)) := fun h => val_fits (rowT_fits hT hnd) h
  cases e with
  | num i =>
    obtain ⟨a, rfl, ha⟩ := hv
    refine ⟨_, rfl, a, _, 0, _, rfl, rfl, SqT.of ha, at0w, ?_⟩
    refine ⟨_, rfl, rfl, _, rfl, iteF ⟨_, rfl, rfl, _, rfl, iteF ⟨_, rfl, rfl, _, rfl, iteF ⟨_, rfl, rfl, _, rfl, iteF ⟨_, rfl, rfl, _, rfl, iteF ?_⟩⟩⟩⟩⟩
    exact ⟨_, rfl, a, _, 1, _, rfl, rfl, SqT.of ha, rfl, q⟩
  | quo z =>
    obtain ⟨a, rfl, ha⟩ := hv
    refine ⟨_, rfl, a, _, 0, _, rfl, rfl, SqT.of ha, at0w, ?_⟩
    refine ⟨_, rfl, rfl, _, rfl, iteF ⟨_, rfl, rfl, _, rfl, iteF ⟨_, rfl, rfl, _, rfl, iteF ⟨_, rfl, rfl, _, rfl, iteF ⟨_, rfl, rfl, _, rfl, iteF ?_⟩⟩⟩⟩⟩
    exact ⟨_, rfl, a, _, 1, _, rfl, rfl, SqT.of ha, rfl, q⟩
  | col x =>
    obtain ⟨a, rfl, ha⟩ := hv
    refine ⟨_, rfl, a, _, 0, _, rfl, rfl, SqT.of ha, at0w, ?_⟩
    refine ⟨_, rfl, rfl, _, rfl, iteT ?_⟩
    have hx : kfN cs x = some b := by cases hK; assumption
    obtain ⟨i, k, h1, h2, _, h4⟩ := rowT_env hT hnd hx
    obtain ⟨kvs, p1, p2⟩ := hp
    have q' : Q (rowEnv (cs.map (·.1)) r x) H := q
    rw [h4] at q'
    have h3 : (r.map kV)[i]? = some (kV k) := by rw [List.getElem?_map, h2]; rfl
    exact ⟨_, rfl, _, rfl, _, rfl, a, _, 1, _, rfl, rfl, SqT.of ha, rfl, pl, _, rfl, by rw [← p2 i x h1]; exact DGet.k (k := Sum.inr x) p1, rw_, _, (i : Nat), _, rfl, rfl, SqT.of hr0, atI_nat h3, q'⟩
  | two op x y =>
    obtain ⟨a, vx, vy, rfl, ha, hx, hy⟩ := hv
    have hd2 : max x.dep y.dep + 1 ≤ m + 1 := hd
    refine ⟨_, rfl, a, _, 0, _, rfl, rfl, SqT.of ha, at0w, ?_⟩
    refine ⟨_, rfl, rfl, _, rfl, iteF ⟨_, rfl, rfl, _, rfl, iteT ?_⟩⟩
    have hk2 : ∃ b1, Kind (kfN cs) x b1 ∧ Kind (kfN cs) y b1 ∧ (((op ∈ sums ∨ op ∈ cmps ∨ op = "and" ∨ op = "or") ∧ b1 = true) ∨ (op ∈ cmps ∧ b1 = false)) := by
      cases hK with
      | arith h h1 h2 => exact ⟨true, h1, h2, .inl ⟨h, rfl⟩⟩
      | text h h1 h2 => exact ⟨false, h1, h2, .inr ⟨cmpsT_sub _ h, rfl⟩⟩
    obtain ⟨b1, k1, k2, hop⟩ := hk2
    refine ⟨_, rfl, a, _, 1, _, rfl, rfl, SqT.of ha, rfl, _, rfl, a, _, 2, _, rfl, rfl, SqT.of ha, rfl, _, rfl, _, rfl, _, pl, rw_, cs, r, x, b1, rfl, hp, hr0, hT, hnd, hx, k1, by omega, ?_⟩
    refine ⟨_, rfl, a, _, 3, _, rfl, rfl, SqT.of ha, rfl, _, rfl, _, rfl, _, pl, rw_, cs, r, y, b1, rfl, hp, hr0, hT, hnd, hy, k2, by omega, op, _, _, rfl, ?_, q⟩
    rcases hop with ⟨h, rfl⟩ | ⟨h, rfl⟩
    · exact .inl ⟨h, vf k1, vf k2⟩
    · exact .inr ⟨h, vf k1, vf k2⟩
  | nt x =>
    obtain ⟨a, vx, rfl, ha, hx⟩ := hv
    have hd2 : x.dep + 1 ≤ m + 1 := hd
    refine ⟨_, rfl, a, _, 0, _, rfl, rfl, SqT.of ha, at0w, ?_⟩
    refine ⟨_, rfl, rfl, _, rfl, iteF ⟨_, rfl, rfl, _, rfl, iteF ⟨_, rfl, rfl, _, rfl, iteT ?_⟩⟩⟩
    have k1 : Kind (kfN cs) x true := by cases hK; assumption
    obtain ⟨i, ei, _⟩ := vf k1
    refine ⟨_, rfl, a, _, 1, _, rfl, rfl, SqT.of ha, rfl, _, rfl, _, rfl, _, pl, rw_, cs, r, x, true, rfl, hp, hr0, hT, hnd, hx, k1, by omega, ?_, .inr ⟨_, rfl, q⟩⟩
    rw [ei]
    rfl
  | mn x =>
    obtain ⟨a, vx, rfl, ha, hx⟩ := hv
    have hd2 : x.dep + 1 ≤ m + 1 := hd
    refine ⟨_, rfl, a, _, 0, _, rfl, rfl, SqT.of ha, at0w, ?_⟩
    refine ⟨_, rfl, rfl, _, rfl, iteF ⟨_, rfl, rfl, _, rfl, iteF ⟨_, rfl, rfl, _, rfl, iteF ⟨_, rfl, rfl, _, rfl, iteT ?_⟩⟩⟩⟩
    have k1 : Kind (kfN cs) x true := by cases hK; assumption
    obtain ⟨i, ei, _⟩ := vf k1
    have q' : Q (.int (wrap (-(toI (x.val (rowEnv (cs.map (·.1)) r)))))) H := q
    rw [ei] at q'
    refine ⟨_, rfl, a, _, 1, _, rfl, rfl, SqT.of ha, rfl, _, rfl, _, rfl, _, pl, rw_, cs, r, x, true, rfl, hp, hr0, hT, hnd, hx, k1, by omega, i, ei, _, rfl, q'⟩
  | ln x =>
    obtain ⟨a, vx, rfl, ha, hx⟩ := hv
    have hd2 : x.dep + 1 ≤ m + 1 := hd
    refine ⟨_, rfl, a, _, 0, _, rfl, rfl, SqT.of ha, at0w, ?_⟩
    refine ⟨_, rfl, rfl, _, rfl, iteF ⟨_, rfl, rfl, _, rfl, iteF ⟨_, rfl, rfl, _, rfl, iteF ⟨_, rfl, rfl, _, rfl, iteF ⟨_, rfl, rfl, _, rfl, iteT ?_⟩⟩⟩⟩⟩
    have k1 : Kind (kfN cs) x false := by cases hK; assumption
    obtain ⟨z, ez, hz⟩ := vf k1
    have q' : Q (.int (lenV (x.val (rowEnv (cs.map (·.1)) r)))) H := q
    rw [ez] at q'
    refine ⟨_, rfl, a, _, 1, _, rfl, rfl, SqT.of ha, rfl, _, rfl, _, rfl, _, pl, rw_, cs, r, x, false, rfl, hp, hr0, hT, hnd, hx, k1, by omega, z, by rw [ez], Nat.le_trans hz (by decide), q'⟩
end
end Kx

namespace Dk
open PySem PySem.Spec PyProof.Rows L2 PySem.W
/-! ### enumerate(tuple) -/
theorem enum_new {v : Value} {o : Obj} {H : Heap → Prop} (B : Begins v o H) :
    Meets (Builtin.«enumerate.__new__» ⟨[.type "enumerate", v], []⟩) (fun _ R s => H s.heap ∧ R (.ok (.ret (.ref (s.heap.push o).objs.size))) { s with heap := (s.heap.push o).push { cls := .type "enumerate", data := .fields #[.none, .bool false, .ref s.heap.objs.size, rawInt 0, .none, .none] } }) :=
  .of_wp fun prog w A R s h => by
    obtain ⟨hp, g, d, tk, os⟩ := s
    obtain ⟨hH, h⟩ := h
    have sub := sub_enumerate
    have begun : ∀ {A' : Around} {E Q : Value → Shared → Prop}, Q (.ref hp.objs.size) ⟨hp.push o, g, d, tk, os⟩ → wpAny (model prog w) A' (pyIter v) Q E ⟨hp, g, d, tk, os⟩ := fun q => B.iter prog w _ _ ⟨hp, g, d, tk, os⟩ _ hH q
    wp_walk using begun
    refine wpAny_stack_any fun st => wpAny_pure ?_
    split
    · rename_i c _ _ _ _ _
      cases (c == Value.type "enumerate") <;> (wp_walk using begun; exact ⟨_, rfl, h⟩)
    · wp_walk using begun
      exact ⟨_, rfl, h⟩
section
variable {prog : Program} {w : World} {A : Around} {E : Value → Shared → Prop} {s : Shared}
theorem call_enumT {t : Addr} {items : Array Value} {Q : Value → Shared → Prop} (hT : s.heap.IsTuple t items)
    (q : ∀ h', IsEnum h' (s.heap.objs.size + 1) s.heap.objs.size 0 .none → h'.IsTupleIter s.heap.objs.size t 0 → (∀ b o, s.heap.get? b = some o → h'.get? b = some o) → Q (.ref (s.heap.objs.size + 1)) { s with heap := h' }) :
    wpAny (model prog w) A (call (.type "enumerate") [.ref t]) Q E s := by
  refine callType_new F.called_enumerate (by decide) (F.typeCall_enumerate_1 _) (F.newCall_enumerate_1 _) (fun obj => F.args_object_init_2 obj _) F.entry_enumerate_new (enum_new (begins_tuple t items)) ⟨hT, ?_⟩
  have one : (s.heap.push { cls := .type "tuple_iterator", data := .fields #[.ref t, .int 0 0] }).objs.size = s.heap.objs.size + 1 := Heap.size_push ..
  show _ ∧ _
  have en := Heap.get?_push_size (s.heap.push { cls := .type "tuple_iterator", data := .fields #[.ref t, .int 0 0] }) (o := { cls := .type "enumerate", data := .fields #[.none, .bool false, .ref s.heap.objs.size, rawInt 0, .none, .none] }) rfl
  rw [one] at en ⊢
  exact ⟨⟨_, en, rfl⟩, q _ en ⟨_, Heap.get?_push_of_some _ (Heap.get?_push_size _ rfl), rfl, rfl⟩ fun b o e => Heap.get?_push_of_some _ (Heap.get?_push_of_some _ e)⟩
end
/-- the tuple at a, each item in a new pair with its place -/
def IteT (K : PySem.W.Frag) (a : Addr) : It :=
  ⟨fun i H => ∃ (xs : List V) (x : V), SqT K H a xs ∧ xs[i]? = some x, fun i H v H' => ∃ T x, v = .ref T ∧ H T = none ∧ H' = upd H T (.tup [.int (i : Nat), x]) ∧ ∀ xs, SqT K H a xs → xs[i]? = some x, fun i H => ∃ xs : List V, SqT K H a xs ∧ xs.length = i⟩
theorem two_of {b e it : Addr} (h : b ∈ [e, it]) : b = e ∨ b = it := by simpa using h
theorem turn_enumT {P : Program} {w : World} {K : PySem.W.Frag} {elts : List Expr} {kk : Nat} {tpos : Pos} (a e it : Addr) :
    Turn P w K (.Tuple elts kk tpos) (IteT K a) [e, it] e (fun i h => (∃ old, IsEnum h e it ((i : Nat) : Int) old) ∧ h.IsTupleIter it a i ∧ e ≠ it ∧ a ≠ it ∧ e ≠ a) where
  mem := List.mem_cons_self
  obj := by
    rintro i h ⟨⟨old, he⟩, ⟨o, ho, hc, hd⟩, _⟩ b hb
    rcases two_of hb with rfl | rfl
    · exact ⟨_, he, fun v q => nomatch q⟩
    · exact ⟨o, ho, fun v q => by rw [hd] at q; cases q⟩
  keep := by
    rintro i h h' ⟨⟨old, he⟩, hi, r⟩ k
    exact ⟨⟨old, k e List.mem_cons_self _ he⟩, hi.at fun o q => k it (List.mem_cons_of_mem _ List.mem_cons_self) o q, r⟩
  item := by
    intro X hP hw hK hc i pins s σ H E I hf st hg
    subst hP hw hK
    obtain ⟨⟨old, he⟩, hit, hne, hai, hea⟩ := st
    obtain ⟨xs, x, hq, hx⟩ := hg
    obtain ⟨its, rv, p, hz⟩ := I.tuple hq
    obtain ⟨u, hu, ru⟩ := rv.get hx
    have under : ∀ b ∈ [e, it], b < s.heap.objs.size := fun b hb => by
      rcases two_of hb with rfl | rfl
      · exact Heap.lt_size he
      · obtain ⟨_, q, _⟩ := hit
        exact Heap.lt_size q
    have hlt : i < its.toArray.size := by
      have := (List.getElem?_eq_some_iff.mp hu).1
      simpa using this
    have hef : e ∉ [it, a] := fun z => (two_of z).elim hne hea
    have D := Draws.tuple (prog := X.prog) (w := X.w) (A := X.A.in1) (I.ok.hd hc) it a hai its.toArray
    refine wpAny_pyNext_enum_itemD D he ⟨hit, p⟩ hlt hne hef fun y h' tk hy out st' hT hsz hk => ?_
    have hyu : y = u := by
      have e1 : its.toArray[i]? = some u := by simpa using hu
      exact Option.some.inj (hy.symm.trans e1)
    subst hyu
    refine ⟨_, rfl, wpAny_letOwnedTupleGo_enum (s := { s with heap := h', toks := tk + 1 }) out fun h2 he2 sb => ?_⟩
    have hT2 : h2.get? s.heap.objs.size = some { cls := .type "tuple", data := .seq #[.int i tk, y] } := (sb.2 _ (Nat.ne_of_gt (under e List.mem_cons_self))).trans hT
    have I1 : Inv X pins σ (upd H s.heap.objs.size (.tup [.int (i : Nat), x])) { s with heap := h2, toks := tk + 1 } :=
      I.turnedNew (ch := [e, it]) (fun b ob hb q => (sb.2 b (fun z => hb (by simp [z]))).trans (hk b ob (fun z => hb (by simp [z])) (fun z => hb (by simp [z])) q)) hf (Nat.le_refl _)
        ⟨by show 2 ≤ sizeLine; decide, [.int i tk, y], .cons ⟨_, rfl⟩ (.cons ru .nil), ⟨_, hT2, rfl, _, rfl⟩⟩
    refine ⟨.ref s.heap.objs.size, _, I1, rfl, ⟨_, x, rfl, I.hok.fresh (Nat.le_refl _), rfl, fun ys hy => by rw [I.tuple_inj hy hq]; exact hx⟩, ⟨⟨y, ?_⟩, st'.1.at fun o q => (sb.2 it (Ne.symm hne)).trans q, hne, hai, hea⟩, fun b hb => ?_⟩
    · rw [show ((i + 1 : Nat) : Int) = (i : Int) + 1 by omega]
      exact he2
    · rw [upd_ne (Nat.ne_of_lt (under b hb))]
      exact (hf b hb).1
  done := by
    intro X hP hw hK hc i pins s σ H E I hf st hg
    subst hP hw hK
    obtain ⟨⟨old, he⟩, hit, hne, hai, hea⟩ := st
    obtain ⟨xs, hq, hx⟩ := hg
    obtain ⟨its, rv, p, hz⟩ := I.tuple hq
    obtain ⟨f0, f1, f2, f3, f4, f5⟩ := hf it (List.mem_cons_of_mem _ List.mem_cons_self)
    have len : i = its.toArray.size := by
      rw [← hx, rv.length]
      simp
    have D := Draws.tuple (prog := X.prog) (w := X.w) (A := X.A.in1) (I.ok.hd hc) it a hai its.toArray
    have st2 : s.heap.IsTupleIter it a its.toArray.size ∧ s.heap.IsTuple a its.toArray := ⟨len ▸ hit, p⟩
    exact wpAny_pyNext_enum_endD D he st2 fun h' eb => ⟨rfl, I.turned (t' := s.toks) (fun b o hb q => eb b o hb q) f0 f1 f3 f4 f5⟩
  self := fun A i s Q E st h => let ⟨⟨_, he⟩, _⟩ := st; wpAny_pyIter_enum he h
/-- enumerate(e), e a tuple -/
def iEnumT (K : PySem.W.Frag) (ta : TA) : TI := fun σ H R => ta σ H fun vs H1 => ∃ a xs, vs = [.ref a] ∧ SqT K H1 a xs ∧ R (IteT K a) H1
theorem pi_enumT {X : Cx} {e : Expr} {ta : TA} {p pos tpos : Pos} {elts : List Expr} {kk : Nat} (hg : Gl X "enumerate") (hm : X.mg "enumerate" = none) (ha : PA X [e] ta) (hs : starEach [e] X.env = [(false, eval e X.env)] := by rfl) :
    PI X (.Tuple elts kk tpos) (.Call (.Name "enumerate" p) [e] [] pos) (iEnumT X.K ta) := by
  constructor
  intro pins s σ H R I h
  refine Call_ (ld_blt I hg hm boot_enumerate (PyProof.Rows.callWith_type1 (thn (ha.run pos pins s σ H _ I h) fun us s1 hh => ?_) hs rfl))
  obtain ⟨vs, H1, I1, r1, a, xs, rfl, hq, q⟩ := hh
  rw [Vals.ref1 r1]
  obtain ⟨its, rv, p', hz⟩ := I1.tuple hq
  have old : a < s1.heap.objs.size := by
    obtain ⟨o, ho, _⟩ := id p'
    exact Heap.lt_size ho
  refine call_enumT (show s1.heap.IsTuple a its.toArray from p') fun h' he hit hk => wpAny_pyIter_enum he ?_
  refine ⟨_, [s1.heap.objs.size + 1, s1.heap.objs.size], _, _, H1, rfl, I1.kept (t' := s1.toks) hk, turn_enumT a _ s1.heap.objs.size, ⟨⟨.none, he⟩, hit, Nat.succ_ne_self _, Nat.ne_of_lt old, Nat.ne_of_gt (Nat.lt_succ_of_lt old)⟩, fun b hb => ?_, q⟩
  have hle : s1.heap.objs.size ≤ b := by
    rcases two_of hb with rfl | rfl
    · exact Nat.le_succ _
    · exact Nat.le_refl _
  exact I1.fpOk hle (I1.hok.fresh hle)
theorem walk_enumT {K : PySem.W.Frag} {a : Addr} {xs : List V} : Walk (IteT K a) xs.length (fun H => SqT K H a xs) (YPair (fun i => some (.int (i : Nat))) (fun i => xs[i]?)) := by
  refine ⟨fun i _ hi q => ⟨xs, xs[i], q, by simp [hi]⟩, fun _ q => ⟨xs, q, rfl⟩, fun i H v H' _ q y => ?_⟩
  obtain ⟨T, x, h1, h2, h3, h4⟩ := y
  exact ⟨T, .int (i : Nat), x, h1, h2, h3, rfl, h4 xs q⟩
end Dk

/-! LV: comprehensions whose items are known ahead -/
namespace Kx
open PySem PySem.Spec PyProof.Rows L2
theorem seqT_same {K : PySem.W.Frag} {H H' : Hp} (h : Same H H') {a : Addr} {xs : List V} (q : SqT K H a xs) : SqT K H' a xs := by
  rcases q with (q | ⟨o, q⟩) | q
  · exact .inl (.inl (h _ _ q))
  · exact .inl (.inr ⟨o, h _ _ q⟩)
  · exact .inr q
theorem seqL_same {K : PySem.W.Frag} {H H' : Hp} (h : Same H H') {a : Addr} {xs : List V} (q : SqL K H a xs) : SqL K H' a xs := by
  rcases q with (q | ⟨o, q⟩) | q
  · exact .inl (.inl (h _ _ q))
  · exact .inl (.inr ⟨o, h _ _ q⟩)
  · exact .inr q
theorem ifT' {b : Bool} {A B : Prop} (h : b = true) (a : A) : if b = true then A else B := by rw [if_pos h]; exact a
theorem ifF' {b : Bool} {A B : Prop} (h : b = false) (a : B) : if b = true then A else B := by rw [h, if_neg (by decide)]; exact a
theorem acc_step {H G : Hp} {D : Addr} {L L' : List V} {y : V} (nD : H D = none) (sm : Same H G) (eD : G D = some (.lst L)) (hl : L.length < sizeLine) (e : L ++ [y] = L') :
    ∃ acc, G D = some (.lst acc) ∧ acc.length < sizeLine ∧ Same H (upd G D (.lst (acc ++ [y]))) ∧ upd G D (.lst (acc ++ [y])) D = some (.lst L') :=
  ⟨L, eD, hl, fun b o h => by rw [upd_ne (ne_of_none h nD)]; exact sm _ _ h, by rw [upd_same, e]⟩
section
variable {K : PySem.W.Frag} {a : Addr} {xs ys : List V} {g : TG} {te : TE} {vs : List Nat} {σ : L2.St} {H1 : Hp} {D : Addr} {Qd : Hp → Prop}
/-- [e for x in xs], xs a tuple -/
theorem lc_valsT (hk : SqT K H1 a xs) (nD : H1 D = none) (hlen : ys.length = xs.length) (few : xs.length < sizeLine)
    (step : ∀ (i : Nat) x y G (Qi : V → Hp → Prop), xs[i]? = some x → ys[i]? = some y → Same H1 G → (∀ H4, Same G H4 → Qi y H4) → g x (wipe σ vs) G fun σ2 H2 => wipe σ2 vs = wipe σ vs ∧ te σ2 H2 Qi)
    (hd : ∀ H, Same H1 H → H D = some (.lst ys) → Qd H) :
    ∃ W : Nat → Nat → Hp → Prop, (∃ m, W 0 m (upd H1 D (.lst []))) ∧ ∀ i m H, W i m H →
      ((Itt K a).stop i H ∧ Qd H) ∨ ((Itt K a).go i H ∧ ∃ Nx : Hp → Prop, (∀ H', Nx H' → ∃ m', m' < m ∧ W (i + 1) m' H') ∧ ∀ x H', (Itt K a).yld i H x H' → g x (wipe σ vs) H' fun σ2 H2 => wipe σ2 vs = wipe σ vs ∧ tYes σ2 H2 fun b H3 =>
        if b = true then te σ2 H3 fun y H4 => ∃ acc, H4 D = some (.lst acc) ∧ acc.length < sizeLine ∧ Nx (upd H4 D (.lst (acc ++ [y]))) else Nx H3) := by
  refine lc_tup (K := K) (a := a) (xs := xs) (fun i G => Same H1 G ∧ G D = some (.lst (ys.take i))) ⟨same_upd nD, by rw [List.take_zero]; exact upd_same⟩ (fun i G _ h => seqT_same h.1 hk) ?_ ?_
  · rintro i x G hx ⟨sm, eD⟩
    have hi : i < ys.length := by rw [hlen]; exact (List.getElem?_eq_some_iff.mp hx).1
    have hy := List.getElem?_eq_getElem hi
    have tk : ys.take i ++ [ys[i]] = ys.take (i + 1) := (List.take_succ_eq_append_getElem hi).symm
    exact step i x _ G _ hx hy sm fun H4 s4 => acc_step nD (sm.trans s4) (s4 _ _ eD) (by rw [List.length_take]; omega) tk
  · rintro G ⟨sm, eD⟩
    rw [← hlen, List.take_length] at eD
    exact hd G sm eD
/-- [e for x in xs], xs a list -/
theorem lc_valsL (hk : SqL K H1 a xs) (nD : H1 D = none) (hlen : ys.length = xs.length) (few : xs.length < sizeLine)
    (step : ∀ (i : Nat) x y G (Qi : V → Hp → Prop), xs[i]? = some x → ys[i]? = some y → Same H1 G → (∀ H4, Same G H4 → Qi y H4) → g x (wipe σ vs) G fun σ2 H2 => wipe σ2 vs = wipe σ vs ∧ te σ2 H2 Qi)
    (hd : ∀ H, Same H1 H → H D = some (.lst ys) → Qd H) :
    ∃ W : Nat → Nat → Hp → Prop, (∃ m, W 0 m (upd H1 D (.lst []))) ∧ ∀ i m H, W i m H →
      ((Itl K a).stop i H ∧ Qd H) ∨ ((Itl K a).go i H ∧ ∃ Nx : Hp → Prop, (∀ H', Nx H' → ∃ m', m' < m ∧ W (i + 1) m' H') ∧ ∀ x H', (Itl K a).yld i H x H' → g x (wipe σ vs) H' fun σ2 H2 => wipe σ2 vs = wipe σ vs ∧ tYes σ2 H2 fun b H3 =>
        if b = true then te σ2 H3 fun y H4 => ∃ acc, H4 D = some (.lst acc) ∧ acc.length < sizeLine ∧ Nx (upd H4 D (.lst (acc ++ [y]))) else Nx H3) := by
  refine lc_list (K := K) (a := a) (xs := xs) (fun i G => Same H1 G ∧ G D = some (.lst (ys.take i))) ⟨same_upd nD, by rw [List.take_zero]; exact upd_same⟩ (fun i G _ h => seqL_same h.1 hk) ?_ ?_
  · rintro i x G hx ⟨sm, eD⟩
    have hi : i < ys.length := by rw [hlen]; exact (List.getElem?_eq_some_iff.mp hx).1
    have hy := List.getElem?_eq_getElem hi
    have tk : ys.take i ++ [ys[i]] = ys.take (i + 1) := (List.take_succ_eq_append_getElem hi).symm
    exact step i x _ G _ hx hy sm fun H4 s4 => acc_step nD (sm.trans s4) (s4 _ _ eD) (by rw [List.length_take]; omega) tk
  · rintro G ⟨sm, eD⟩
    rw [← hlen, List.take_length] at eD
    exact hd G sm eD
/-- [e for x in xs], xs a list, the items new things of which something stays true -/
theorem lc_newL {Rl : Nat → V → Hp → Prop} (keep : ∀ i v G G', Rl i v G → Same G G' → Rl i v G') (hk : SqL K H1 a xs) (nD : H1 D = none) (few : xs.length < sizeLine)
    (nope : ∀ i v G l, Rl i v G → G D = some (.lst l) → ∀ l', Rl i v (upd G D (.lst l')))
    (step : ∀ (i : Nat) x G (Qi : V → Hp → Prop), xs[i]? = some x → Same H1 G → (∀ v H4, Same G H4 → Rl i v H4 → Qi v H4) → g x (wipe σ vs) G fun σ2 H2 => wipe σ2 vs = wipe σ vs ∧ te σ2 H2 Qi)
    (hd : ∀ H (ws : List V), Same H1 H → H D = some (.lst ws) → ws.length = xs.length → (∀ (i : Nat) v, ws[i]? = some v → Rl i v H) → Qd H) :
    ∃ W : Nat → Nat → Hp → Prop, (∃ m, W 0 m (upd H1 D (.lst []))) ∧ ∀ i m H, W i m H →
      ((Itl K a).stop i H ∧ Qd H) ∨ ((Itl K a).go i H ∧ ∃ Nx : Hp → Prop, (∀ H', Nx H' → ∃ m', m' < m ∧ W (i + 1) m' H') ∧ ∀ x H', (Itl K a).yld i H x H' → g x (wipe σ vs) H' fun σ2 H2 => wipe σ2 vs = wipe σ vs ∧ tYes σ2 H2 fun b H3 =>
        if b = true then te σ2 H3 fun y H4 => ∃ acc, H4 D = some (.lst acc) ∧ acc.length < sizeLine ∧ Nx (upd H4 D (.lst (acc ++ [y]))) else Nx H3) := by
  refine lc_list (K := K) (a := a) (xs := xs) (fun i G => Same H1 G ∧ ∃ ws : List V, G D = some (.lst ws) ∧ ws.length = i ∧ ∀ (j : Nat) v, ws[j]? = some v → Rl j v G) ⟨same_upd nD, [], upd_same, rfl, fun j v e => by cases e⟩ (fun i G _ h => seqL_same h.1 hk) ?_ ?_
  · rintro i x G hx ⟨sm, ws, eD, lw, hr⟩
    have hi := (List.getElem?_eq_some_iff.mp hx).1
    refine step i x G _ hx sm fun v H4 s4 hv => ⟨ws, s4 _ _ eD, by omega, fun b o h => by rw [upd_ne (ne_of_none h nD)]; exact s4 _ _ (sm _ _ h), ws ++ [v], upd_same, by rw [List.length_append, lw]; rfl, fun j u hj => ?_⟩
    refine nope j u H4 ws ?_ (s4 _ _ eD) _
    by_cases c : j < ws.length
    · rw [List.getElem?_append_left c] at hj
      exact keep _ _ _ _ (hr j u hj) s4
    · have := (List.getElem?_eq_some_iff.mp hj).1
      rw [List.length_append, List.length_singleton] at this
      have ej : j = ws.length := by omega
      rw [ej, List.getElem?_concat_length] at hj
      cases hj
      rw [ej, lw]
      exact hv
  · rintro G ⟨sm, ws, eD, lw, hr⟩
    exact hd G ws sm eD lw hr
/-- [e for x in xs], xs a tuple, the items new things of which something stays true -/
theorem lc_newT {Rl : Nat → V → Hp → Prop} (keep : ∀ i v G G', Rl i v G → Same G G' → Rl i v G') (hk : SqT K H1 a xs) (nD : H1 D = none) (few : xs.length < sizeLine)
    (nope : ∀ i v G l, Rl i v G → G D = some (.lst l) → ∀ l', Rl i v (upd G D (.lst l')))
    (step : ∀ (i : Nat) x G (Qi : V → Hp → Prop), xs[i]? = some x → Same H1 G → (∀ v H4, Same G H4 → Rl i v H4 → Qi v H4) → g x (wipe σ vs) G fun σ2 H2 => wipe σ2 vs = wipe σ vs ∧ te σ2 H2 Qi)
    (hd : ∀ H (ws : List V), Same H1 H → H D = some (.lst ws) → ws.length = xs.length → (∀ (i : Nat) v, ws[i]? = some v → Rl i v H) → Qd H) :
    ∃ W : Nat → Nat → Hp → Prop, (∃ m, W 0 m (upd H1 D (.lst []))) ∧ ∀ i m H, W i m H →
      ((Itt K a).stop i H ∧ Qd H) ∨ ((Itt K a).go i H ∧ ∃ Nx : Hp → Prop, (∀ H', Nx H' → ∃ m', m' < m ∧ W (i + 1) m' H') ∧ ∀ x H', (Itt K a).yld i H x H' → g x (wipe σ vs) H' fun σ2 H2 => wipe σ2 vs = wipe σ vs ∧ tYes σ2 H2 fun b H3 =>
        if b = true then te σ2 H3 fun y H4 => ∃ acc, H4 D = some (.lst acc) ∧ acc.length < sizeLine ∧ Nx (upd H4 D (.lst (acc ++ [y]))) else Nx H3) := by
  refine lc_tup (K := K) (a := a) (xs := xs) (fun i G => Same H1 G ∧ ∃ ws : List V, G D = some (.lst ws) ∧ ws.length = i ∧ ∀ (j : Nat) v, ws[j]? = some v → Rl j v G) ⟨same_upd nD, [], upd_same, rfl, fun j v e => by cases e⟩ (fun i G _ h => seqT_same h.1 hk) ?_ ?_
  · rintro i x G hx ⟨sm, ws, eD, lw, hr⟩
    have hi := (List.getElem?_eq_some_iff.mp hx).1
    refine step i x G _ hx sm fun v H4 s4 hv => ⟨ws, s4 _ _ eD, by omega, fun b o h => by rw [upd_ne (ne_of_none h nD)]; exact s4 _ _ (sm _ _ h), ws ++ [v], upd_same, by rw [List.length_append, lw]; rfl, fun j u hj => ?_⟩
    refine nope j u H4 ws ?_ (s4 _ _ eD) _
    by_cases c : j < ws.length
    · rw [List.getElem?_append_left c] at hj
      exact keep _ _ _ _ (hr j u hj) s4
    · have := (List.getElem?_eq_some_iff.mp hj).1
      rw [List.length_append, List.length_singleton] at this
      have ej : j = ws.length := by omega
      rw [ej, List.getElem?_concat_length] at hj
      cases hj
      rw [ej, lw]
      exact hv
  · rintro G ⟨sm, ws, eD, lw, hr⟩
    exact hd G ws sm eD lw hr
/-- [e for x in it], whatever it walks -/
theorem lc_vals_it {J : It} {n : Nat} {GG : Hp → Prop} {Y : Nat → Hp → V → Hp → Prop} (w : Walk J n GG Y) (hG : ∀ H, Same H1 H → GG H) (nD : H1 D = none) (hlen : ys.length = n) (few : n < sizeLine)
    (step : ∀ (i : Nat) x y G H' (Qi : V → Hp → Prop), i < n → ys[i]? = some y → Same H1 G → Y i G x H' → (∀ H4, Same G H4 → Qi y H4) → g x (wipe σ vs) H' fun σ2 H2 => wipe σ2 vs = wipe σ vs ∧ te σ2 H2 Qi)
    (hd : ∀ H, Same H1 H → H D = some (.lst ys) → Qd H) :
    ∃ W : Nat → Nat → Hp → Prop, (∃ m, W 0 m (upd H1 D (.lst []))) ∧ ∀ i m H, W i m H →
      (J.stop i H ∧ Qd H) ∨ (J.go i H ∧ ∃ Nx : Hp → Prop, (∀ H', Nx H' → ∃ m', m' < m ∧ W (i + 1) m' H') ∧ ∀ x H', J.yld i H x H' → g x (wipe σ vs) H' fun σ2 H2 => wipe σ2 vs = wipe σ vs ∧ tYes σ2 H2 fun b H3 =>
        if b = true then te σ2 H3 fun y H4 => ∃ acc, H4 D = some (.lst acc) ∧ acc.length < sizeLine ∧ Nx (upd H4 D (.lst (acc ++ [y]))) else Nx H3) := by
  refine lc_it w (fun i G => Same H1 G ∧ G D = some (.lst (ys.take i))) ⟨same_upd nD, by rw [List.take_zero]; exact upd_same⟩ (fun i G _ h => hG G h.1) ?_ ?_
  · rintro i x G H' hi ⟨sm, eD⟩ hy
    have hi2 : i < ys.length := by rw [hlen]; exact hi
    have hyi := List.getElem?_eq_getElem hi2
    have tk : ys.take i ++ [ys[i]] = ys.take (i + 1) := (List.take_succ_eq_append_getElem hi2).symm
    exact step i x _ G H' _ hi hyi sm hy fun H4 s4 => acc_step nD (sm.trans s4) (s4 _ _ eD) (by rw [List.length_take]; omega) tk
  · rintro G ⟨sm, eD⟩
    rw [← hlen, List.take_length] at eD
    exact hd G sm eD
end
/-- what stays where one list changes -/
theorem sqT_but {K : PySem.W.Frag} {H H' : Hp} {d : Addr} (b : But d H H') (hd : ∃ l, H d = some (.lst l)) {a : Addr} {xs : List V} (q : SqT K H a xs) : SqT K H' a xs := by
  obtain ⟨l, hd⟩ := hd
  rcases q with (q | ⟨o, q⟩) | q
  · exact .inl (.inl (b a _ (fun e => by rw [e, hd] at q; cases q) q))
  · exact .inl (.inr ⟨o, b a _ (fun e => by rw [e, hd] at q; cases q) q⟩)
  · exact .inr q
theorem butL_trans {H H' H'' : Hp} {d : Addr} (b : But d H H') (c : But d H' H'') : But d H H'' := fun a o h e => c a o h (b a o h e)
theorem butL_of {H H' : Hp} {d : Addr} (s : Same H H') : But d H H' := fun a o _ e => s a o e
theorem butL_put {H : Hp} {d : Addr} {o : HO} : But d H (upd H d o) := fun a x h e => by rw [upd_ne h]; exact e
theorem butL_same {H0 H H' : Hp} {d : Addr} (s : Same H0 H) (b : But d H H') (n : H0 d = none) : Same H0 H' := fun a o e => b a o (ne_of_none e n) (s a o e)
theorem nodup_len_rows {α : Type} : ∀ {M ks : List α}, M.Nodup → (∀ z ∈ M, z ∈ ks) → M.length ≤ ks.length
  | [], _, _, _ => Nat.zero_le _
  | x :: M, ks, hn, hs => by
    obtain ⟨n1, n2⟩ := List.nodup_cons.mp hn
    obtain ⟨u, t, rfl⟩ := List.append_of_mem (hs x List.mem_cons_self)
    have h1 : M.length ≤ (u ++ t).length := nodup_len_rows n2 fun z hz => by
      rcases List.mem_append.mp (hs z (List.mem_cons_of_mem _ hz)) with h2 | h2
      · exact List.mem_append_left _ h2
      rcases List.mem_cons.mp h2 with e | h2
      · exact absurd (e ▸ hz) n1
      · exact List.mem_append_right _ h2
    rw [List.length_append] at h1
    rw [List.length_append, List.length_cons, List.length_cons]
    omega
end Kx

namespace Kx
open PySem PySem.Spec PyProof.Rows L2
abbrev s_places_of : Stmt := topS 18
abbrev s_values_at : Stmt := topS 19
abbrev s_ats_of : Stmt := topS 20
abbrev s_fold_value : Stmt := topS 23
/-! ### the places of columns -/
def plcK (ns : List Str) : List (L2.Key × V) := ns.zipIdx.map fun p => (.inr p.1, .int (p.2 : Nat))
theorem plc_snoc (ns : List Str) (x : Str) : plcK (ns ++ [x]) = plcK ns ++ [(.inr x, .int (ns.length : Nat))] := by
  unfold plcK
  rw [List.zipIdx_append, List.map_append, Nat.zero_add]
  rfl
theorem plc_len (ns : List Str) : (plcK ns).length = ns.length := by
  unfold plcK
  rw [List.length_map, List.length_zipIdx]
theorem plc_keys (ns : List Str) : (plcK ns).map (·.1) = ns.map Sum.inr := by
  unfold plcK
  rw [List.map_map]
  have : (fun p : Str × Nat => (Sum.inr p.1 : L2.Key)) = (Sum.inr : Str → L2.Key) ∘ Prod.fst := rfl
  show ns.zipIdx.map (fun p : Str × Nat => (Sum.inr p.1 : L2.Key)) = _
  rw [this, ← List.map_map, List.zipIdx_map_fst]
theorem valV_no {kvs : List (L2.Key × V)} {k : L2.Key} (h : k ∉ kvs.map (·.1)) : valV kvs k = none := by
  cases e : valV kvs k with
  | none => rfl
  | some v =>
    have hs : (valV kvs k).isSome = true := by rw [e]; rfl
    rw [← valV_any] at hs
    obtain ⟨p, hp, ep⟩ := List.any_eq_true.mp hs
    exact absurd (List.mem_map.mpr ⟨p, hp, of_decide_eq_true ep⟩) h
theorem plc_at {H : Hp} {pl : Addr} {ns : List Str} (h : H pl = some (.dK (plcK ns))) (nd : ns.Nodup) : PlcAt H pl ns := by
  refine ⟨_, h, fun i x hx => ?_⟩
  have hm : ((Sum.inr x : L2.Key), V.int (i : Nat)) ∈ plcK ns := by
    unfold plcK
    refine List.mem_map.mpr ⟨(x, i), ?_, rfl⟩
    rw [List.mem_zipIdx_iff_getElem?]
    exact hx
  have nk : ((plcK ns).map (·.1)).Nodup := by
    rw [plc_keys]
    exact List.pairwise_map.mpr (List.Pairwise.imp (fun h e => h (Sum.inr.inj e)) nd)
  exact val_nodup nk _ hm
theorem PlcAt.same {H H' : Hp} {pl : Addr} {ns : List Str} (h : PlcAt H pl ns) (s : Same H H') : PlcAt H' pl ns := let ⟨kvs, a, b⟩ := h; ⟨kvs, s _ _ a, b⟩
section
variable {P : Program} {w : World} {K : PySem.W.Frag} {mg : Str → Option Value} {base : Heap}
/-- one more name in the dict of places -/
theorem plc_put {H H2 H3 : Hp} {D T : Addr} {ns : List Str} {i : Nat} {x : Str} (nd : ns.Nodup) (hx : ns[i]? = some x) : putK (plcK (ns.take i)) (.inr x) (.int (i : Nat)) = plcK (ns.take (i + 1)) := by
  obtain ⟨hi, e⟩ := List.getElem?_eq_some_iff.mp hx
  have tk : ns.take (i + 1) = ns.take i ++ [x] := by
    rw [← e]
    exact List.take_succ_eq_append_getElem hi
  have hn : x ∉ ns.take i := fun hm => by
    have : (ns.take (i + 1)).Nodup := List.Nodup.sublist (List.take_sublist _ _) nd
    rw [tk] at this
    exact (List.nodup_append.mp this).2.2 x hm x (List.mem_singleton.mpr rfl) rfl
  have hk : (Sum.inr x : L2.Key) ∉ (plcK (ns.take i)).map (·.1) := by
    rw [plc_keys]
    intro hm
    obtain ⟨y, hy, ey⟩ := List.mem_map.mp hm
    exact hn (Sum.inr.inj ey ▸ hy)
  rw [putK_new _ (valV_no hk), tk, plc_snoc, List.length_take, Nat.min_eq_left (Nat.le_of_lt hi)]
def spPlaces (K : PySem.W.Frag) : Sp := fun vs H Q _ => ∃ (cols : Addr) (as : List Col), vs = [.ref cols] ∧ SqT K H cols (as.map fun c => .ref c.1) ∧ PairsAt H as ∧ (as.map fun c => c.2.1).Nodup ∧ as.length < 1000 ∧ ∀ D H', Same H H' → H' D = some (.dK (plcK (as.map fun c => c.2.1))) → Q (.ref D) H'
abbrev N_places_of : List Str := ["columns", "at", "column"]
theorem sc_places_of : FnScope N_places_of ["columns"] (defScope s_places_of) := ⟨rfl, rfl, rfl, by decide +kernel, rfl, by decide +kernel, by decide +kernel⟩
theorem ok_places {f : Addr} {fd : FuncData} (F : Fun K "places_of" "places_of" s_places_of f fd) (m_enumerate : mg "enumerate" = none) : FnOk P w K mg base CX0 1 f fd ["columns"] (spPlaces K) := by
  refine F.ok sc_places_of (fun vs H Q E h => ?_) (fun cdv A outer s H vs Q E hr h => ?_)
  · obtain ⟨cols, as, rfl, _⟩ := h
    rfl
  obtain ⟨cols, as, rfl, c1, c2, hnd, few, q⟩ := h
  have nd := sc_places_of.nd
  refine ⟨_, pss_one (ps_ret (pe_dc (own := [("at", 1), ("column", 2)]) (g := (gTup K 2 (gCons (gName 1) (gCons (gName 2) gNil)))) (tt := tYes) (tk := tOp (rIxT K) (tVar 2) (tC (.int 0))) (tv := tVar 1) rfl nd (Dk.pi_enumT rfl m_enumerate (pa_cons (pv 0) pa_nil)) (blkOk_by (N := N_places_of) (sc := defScope s_places_of) (by decide +kernel)) (fun _ _ _ _ _ => pg_tup rfl (pgs_cons (pg_name (i := 1) nd rfl (.inl rfl)) (pgs_cons (pg_name (i := 2) nd rfl (.inl rfl)) pgs_nil))) (fun _ _ _ _ _ => pts_nil) (fun _ _ _ _ _ => (pe_ix ix_tup (pv 2) pe_int (fun _ _ => rfl))) (fun _ _ _ _ _ => (pv 1)))), ?_⟩
  obtain ⟨n, hn⟩ : ∃ n, n = as.length := ⟨_, rfl⟩
  refine ⟨_, rfl, cols, _, rfl, c1, fun D nD => ?_⟩
  have W := Dk.walk_enumT (K := K) (a := cols) (xs := as.map fun c => .ref c.1)
  rw [List.length_map, ← hn] at W
  refine ⟨fun i m H' => m = n - i ∧ i ≤ n ∧ Same H H' ∧ H' D = some (.dK (plcK ((as.map fun c => c.2.1).take i))), ⟨_, rfl, Nat.zero_le _, same_upd nD, upd_same⟩, ?_⟩
  rintro i m H' ⟨rfl, hi, sm, eD⟩
  have cq : SqT K H' cols (as.map fun c => .ref c.1) := seqT_same sm c1
  by_cases hlt : i < n
  · refine .inr ⟨W.goes i H' hlt cq, fun H2 => Same H H2 ∧ H2 D = some (.dK (plcK ((as.map fun c => c.2.1).take (i + 1)))), fun H2 z => ⟨n - (i + 1), by omega, rfl, hlt, z⟩, fun x H2 y => ?_⟩
    obtain ⟨T, x1, x2, rfl, nT, rfl, e1, e2⟩ := W.yields i H' x H2 hlt cq y
    replace e1 : some (V.int (i : Nat)) = some x1 := e1
    replace e2 : (as.map fun c => V.ref c.1)[i]? = some x2 := e2
    cases e1
    rw [List.getElem?_map] at e2
    obtain ⟨c, ec, rfl⟩ := Option.map_eq_some_iff.mp e2
    have hc := c2 c (List.mem_of_getElem? ec)
    have ex : (as.map fun c => c.2.1)[i]? = some c.2.1 := by rw [List.getElem?_map, ec]; rfl
    have s3 := same_upd (o := .tup [.int (i : Nat), .ref c.1]) nT
    refine ⟨T, _, rfl, SqT.of upd_same, rfl, _, _, rfl, _, _, rfl, rfl, rfl, _, rfl, c.1, _, 0, _, rfl, rfl, SqT.of (s3 _ _ (sm _ _ hc)), rfl, _, rfl, _, .inr c.2.1, rfl, s3 _ _ eD, ?_, fun b o e => ?_, ?_⟩
    · rw [plc_len, List.length_take, List.length_map]
      exact Nat.lt_of_le_of_lt (Nat.min_le_right _ _) (Nat.lt_trans few (by decide))
    · rw [upd_ne (ne_of_none e nD)]
      exact s3 _ _ (sm _ _ e)
    · rw [upd_same, plc_put (H := H) (H2 := H) (H3 := H) (D := D) (T := T) hnd ex]
  · have e : i = n := by omega
    subst e
    rw [hn, ← List.length_map (f := fun c : Col => c.2.1) (as := as), List.take_length] at eD
    exact .inl ⟨W.stops H' cq, q D H' sm eD⟩
/-! ### ats_of, values_at -/
def spAts (K : PySem.W.Frag) : Sp := fun vs H Q _ => ∃ (na pl : Addr) (ks ns : List Str) (js : List Nat), vs = [.ref na, .ref pl] ∧ SqT K H na (ks.map V.str) ∧ PlcAt H pl ns ∧ ks.length = js.length ∧ (∀ (i : Nat) (x : Str), ks[i]? = some x → ∃ j : Nat, js[i]? = some j ∧ ns[j]? = some x) ∧ ks.length < 1000 ∧ ∀ D H', Same H H' → H' D = some (.lst (js.map fun j => V.int (j : Nat))) → Q (.ref D) H'
abbrev N_ats_of : List Str := ["names", "places", "name"]
theorem sc_ats_of : FnScope N_ats_of ["names", "places"] (defScope s_ats_of) := ⟨rfl, rfl, rfl, by decide +kernel, rfl, by decide +kernel, by decide +kernel⟩
theorem ok_ats {f : Addr} {fd : FuncData} (F : Fun K "ats_of" "ats_of" s_ats_of f fd) : FnOk P w K mg base CX0 1 f fd ["names", "places"] (spAts K) := by
  refine F.ok sc_ats_of (fun vs H Q E h => ?_) (fun cdv A outer s H vs Q E hr h => ?_)
  · obtain ⟨na, pl, ks, ns, js, rfl, _⟩ := h
    rfl
  obtain ⟨na, pl, ks, ns, js, rfl, hk, hp, hlen, hj, few, q⟩ := h
  have nd := sc_ats_of.nd
  have hu := hu_of hr
  obtain ⟨kvs, p1, p2⟩ := id hp
  refine ⟨_, pss_one (ps_ret (pe_lc (own := [("name", 2)]) (g := gName 2) (tt := tYes) rfl nd (pi_tup (pv 0)) (blkOk_by (N := N_ats_of) (sc := defScope s_ats_of) (by decide +kernel)) (fun _ _ _ _ _ => pg_name (i := 2) nd rfl (Or.inl rfl)) (fun _ _ _ _ _ => pts_nil) (fun _ _ _ _ _ => (pe_dget hu (pv 1) (pv 2) (fun _ _ => rfl))))), ?_⟩
  refine ⟨_, rfl, na, rfl, ⟨_, hk⟩, fun D hD => ?_⟩
  refine lc_valsT hk hD (ys := js.map fun j => V.int (j : Nat)) (by rw [List.length_map, List.length_map, hlen]) (by rw [List.length_map]; exact Nat.lt_trans few (by decide)) (fun i x y G Qi hx hy sm q2 => ?_) fun G sm eD => q D G sm eD
  rw [List.getElem?_map] at hx hy
  obtain ⟨z, hz, rfl⟩ := Option.map_eq_some_iff.mp hx
  obtain ⟨j, hj1, rfl⟩ := Option.map_eq_some_iff.mp hy
  obtain ⟨j', h1, h2⟩ := hj i z hz
  rw [hj1] at h1
  cases h1
  exact ⟨rfl, _, rfl, _, rfl, pl, _, rfl, by rw [← p2 j z h2]; exact DGet.k (k := Sum.inr z) (sm _ _ p1), q2 _ (Same.refl _)⟩
/-- what stands at some places of a row -/
def pickR (r : Row) (js : List Nat) : Row := js.map fun j => r.getD j (.inl 0)
def spVals (K : PySem.W.Frag) : Sp := fun vs H Q _ => ∃ (ra ja : Addr) (r : Row) (js : List Nat), vs = [.ref ra, .ref ja] ∧ SqT K H ra (r.map kV) ∧ SqL K H ja (js.map fun j => V.int (j : Nat)) ∧ (∀ j ∈ js, j < r.length) ∧ js.length < 1000 ∧ ∀ t H', Same H H' → H t = none → H' t = some (.tup ((pickR r js).map kV)) → Q (.ref t) H'
abbrev N_values_at : List Str := ["row", "ats", "at"]
theorem sc_values_at : FnScope N_values_at ["row", "ats"] (defScope s_values_at) := ⟨rfl, rfl, rfl, by decide +kernel, rfl, by decide +kernel, by decide +kernel⟩
theorem ok_vals {f : Addr} {fd : FuncData} (F : Fun K "values_at" "values_at" s_values_at f fd) (m_tuple : mg "tuple" = none) : FnOk P w K mg base CX0 1 f fd ["row", "ats"] (spVals K) := by
  refine F.ok sc_values_at (fun vs H Q E h => ?_) (fun cdv A outer s H vs Q E hr h => ?_)
  · obtain ⟨ra, ja, r, js, rfl, _⟩ := h
    rfl
  obtain ⟨ra, ja, r, js, rfl, h1, h2, hj, few, q⟩ := h
  have nd := sc_values_at.nd
  refine ⟨_, pss_one (ps_ret (pe_callTy call_tuple_of (by rfl) m_tuple PyProof.Rows.boot_tuple (pa_cons (pe_lc (own := [("at", 2)]) (g := gName 2) (tt := tYes) (te := tOp (rIxT K) (tVar 0) (tVar 2)) rfl nd (pi_list (pv 1)) (blkOk_by (N := N_values_at) (sc := defScope s_values_at) (by decide +kernel)) (fun _ _ _ _ _ => pg_name (i := 2) nd rfl (Or.inl rfl)) (fun _ _ _ _ _ => pts_nil) (fun _ _ _ _ _ => (pe_ix ix_tup (pv 0) (pv 2) (fun _ _ => rfl)))) pa_nil))), ?_⟩
  refine ⟨_, rfl, ja, rfl, ⟨_, h2⟩, fun D hD => ?_⟩
  refine lc_valsL h2 hD (ys := (pickR r js).map kV) (by unfold pickR; rw [List.length_map, List.length_map, List.length_map]) (by rw [List.length_map]; exact Nat.lt_trans few (by decide)) (fun i x y G Qi hx hy sm q2 => ?_) fun G sm eD => ?_
  · rw [List.getElem?_map] at hx
    obtain ⟨j, hj1, rfl⟩ := Option.map_eq_some_iff.mp hx
    have hl := hj j (List.mem_of_getElem? hj1)
    have ey : y = kV (r.getD j (.inl 0)) := by
      unfold pickR at hy
      rw [List.getElem?_map, List.getElem?_map, hj1] at hy
      exact (Option.some.inj hy).symm
    have h3 : (r.map kV)[j]? = some y := by
      rw [ey, List.getElem?_map, List.getElem?_eq_getElem hl, List.getD_eq_getElem?_getD, List.getElem?_eq_getElem hl]
      rfl
    exact ⟨rfl, _, rfl, _, rfl, ra, _, (j : Nat), _, rfl, rfl, seqT_same sm h1, atI_nat h3, q2 _ (Same.refl _)⟩
  · refine ⟨D, _, rfl, .inl ⟨SqL.of eD, fun t ht => q t _ (sm.trans (same_upd ht)) ?_ upd_same⟩⟩
    cases e : H t with
    | none => rfl
    | some o =>
      rw [sm _ _ e] at ht
      cases ht
/-- the key of a value -/
def toK : V → L2.Key
  | .int i => .inl i
  | .str z => .inr z
  | _ => .inl 0
theorem toK_fits {b : Bool} {v : V} (h : Fits b v) : kV (toK v) = v := by
  cases b with
  | true => obtain ⟨i, rfl, _⟩ := h; rfl
  | false => obtain ⟨z, rfl, _⟩ := h; rfl
/-- what an expression is worth in a row, as a key -/
def worthK (cs : List NC) (r : Row) (e : Ex) : L2.Key := toK (e.val (rowEnv (cs.map (·.1)) r))
theorem worthK_fits {cs : List NC} {r : Row} {e : Ex} {b : Bool} (h : RowT cs r) (nd : (cs.map (·.1)).Nodup) (k : Kind (kfN cs) e b) : Fits b (kV (worthK cs r e)) ∧ kV (worthK cs r e) = e.val (rowEnv (cs.map (·.1)) r) := by
  have f := val_fits (rowT_fits h nd) k
  have e2 := toK_fits f
  unfold worthK
  rw [e2]
  exact ⟨f, rfl⟩
def spFval (m : Nat) : Sp := fun vs H Q _ => ∃ (v : V) (pl rw_ : Addr) (cs : List NC) (r : Row) (o : Option Ex) (b : Bool), vs = [v, .ref pl, .ref rw_] ∧ PlcAt H pl (cs.map (·.1)) ∧ H rw_ = some (.tup (r.map kV)) ∧ RowT cs r ∧ (cs.map (·.1)).Nodup ∧ FTo H v o ∧ (∀ e, o = some e → Kind (kfN cs) e b ∧ e.dep ≤ m) ∧ Q (match o with
  | none => .non
  | some e => kV (worthK cs r e)) H
theorem sc_fold_value : FnScope ["told", "places", "row"] ["told", "places", "row"] (defScope s_fold_value) := ⟨rfl, rfl, rfl, by decide +kernel, rfl, by decide +kernel, by decide +kernel⟩
theorem ok_fval {f : Addr} {fd : FuncData} {k m : Nat} (F : Fun K "fold_value" "fold_value" s_fold_value f fd) (G_worth : Ready P w K mg base k "worth" ["told", "places", "row"] (spWorth m)) : FnOk P w K mg base CX0 (k + 1) f fd ["told", "places", "row"] (spFval m) := by
  refine F.ok sc_fold_value (fun vs H Q E h => ?_) (fun cdv A outer s H vs Q E hr h => ?_)
  · obtain ⟨v, pl, rw_, cs, r, o, b, rfl, _⟩ := h
    rfl
  obtain ⟨v, pl, rw_, cs, r, o, b, rfl, hp, hr0, hT, hnd, ho, hk, q⟩ := h
  have nd := sc_fold_value.nd
  have hrk : Room k _ := hr
  refine ⟨_, pss_cons (ps_if (pt_cmpR op_isN (pv 0) pe_non (nomark _)) (pss_one (ps_ret pe_non)) (pss_nil))
      (pss_one (ps_ret (pe_fn (G_worth) hrk (pa_cons (pv 0) (pa_cons (pv 1) (pa_cons (pv 2) pa_nil)))))), ?_⟩
  cases o with
  | none =>
    have e : v = .non := ho
    subst e
    exact ⟨_, rfl, rfl, _, rfl, ifT' (decide_eq_true rfl) q⟩
  | some e =>
    obtain ⟨k1, k2⟩ := hk e rfl
    have nn : v ≠ .non := fun z => by
      have h2 : ExAt H v e := ho
      rw [z] at h2
      cases e <;> obtain ⟨a, h3⟩ := h2 <;> first | (cases h3.1; done) | (obtain ⟨_, h4, _⟩ := h3; cases h4; done) | (obtain ⟨_, _, h4, _⟩ := h3; cases h4)
    refine ⟨_, rfl, rfl, _, rfl, ifF' (decide_eq_false nn) ?_⟩
    refine ⟨_, rfl, _, rfl, _, rfl, v, pl, rw_, cs, r, e, b, rfl, hp, hr0, hT, hnd, ho, k1, k2, ?_⟩
    rw [← (worthK_fits hT hnd k1).2]
    exact q
end
end Kx

namespace Dk
open PySem PySem.Spec PyProof.Rows L2
/-! ### sorted(rows): a list of tuples of ints and texts, alike in their kinds -/
def cv : L2.Key → Int ⊕ List Nat
  | .inl i => .inl i
  | .inr x => .inr x.cps.toList
/-- shape tells which places hold texts -/
def Shp (shape : Nat → Bool) : Nat → List L2.Key → Prop
  | _, [] => True
  | i, k :: r => (shape i = k.isRight) ∧ Shp shape (i + 1) r
theorem items_of {shape : Nat → Bool} : ∀ {i : Nat} {ks : List L2.Key} {us : List Value}, Shp shape i ks → Vals (ks.map kV) us → PyProof.Rows.tupItems shape i us = some (ks.map cv)
  | i, [], us, _, r => by
    cases r
    rfl
  | i, .inl n :: ks, us, h, r => by
    cases r with
    | cons r1 r2 =>
      obtain ⟨t, rfl⟩ := r1
      have h1 : shape i = false := h.1
      have ih := items_of h.2 r2
      show (if shape i = true then none else (PyProof.Rows.tupItems shape (i + 1) _).map (Sum.inl n :: ·)) = _
      rw [h1, if_neg Bool.false_ne_true, ih]
      rfl
  | i, .inr x :: ks, us, h, r => by
    cases r with
    | cons r1 r2 =>
      obtain ⟨t, rfl⟩ := r1
      have h1 : shape i = true := h.1
      have ih := items_of h.2 r2
      show (if shape i = true then (PyProof.Rows.tupItems shape (i + 1) _).map (Sum.inr x.cps.toList :: ·) else none) = _
      rw [h1, if_pos rfl, ih]
      rfl
def RowOf (K : PySem.W.Frag) (H : Hp) (shape : Nat → Bool) (key : V → List L2.Key) (x : V) : Prop := ∃ t, x = .ref t ∧ SqT K H t ((key x).map kV) ∧ key x ≠ [] ∧ Shp shape 0 (key x)
def rSortR (K : PySem.W.Frag) : List V → Hp → VK → Prop := fun vs H Q => ∃ (a : Addr) (xs : List V) (shape : Nat → Bool) (key : V → List L2.Key), vs = [V.ref a] ∧ SqL K H a xs ∧ (∀ x ∈ xs, RowOf K H shape key x) ∧
  ∀ ys p, ys.Perm xs → ys.Pairwise (fun x y => PyProof.Rows.lexLt PyProof.Rows.itemOrd ((key y).map cv) ((key x).map cv) = false) → H p = none → Q (.ref p) (upd H p (.lst ys))
theorem zip_same : ∀ l : List Value, l.zip l = l.map fun v => (v, v)
  | [] => rfl
  | v :: l => congrArg ((v, v) :: ·) (zip_same l)
theorem tups_all {h : Heap} {shape : Nat → Bool} : ∀ {vs : List Value}, (∀ v ∈ vs, ∃ f, PyProof.Rows.TupOf h shape v f) → ∃ fs, PyProof.Rows.TupsOf h shape vs fs
  | [], _ => ⟨[], .nil⟩
  | v :: vs, k => by
    obtain ⟨f, hf⟩ := k v List.mem_cons_self
    obtain ⟨fs, hfs⟩ := tups_all fun u hu => k u (List.mem_cons_of_mem _ hu)
    exact ⟨f :: fs, .cons hf hfs⟩
section
variable {X : Cx}
theorem cr_sortR : CallR X (.builtin "sorted") (rSortR X.K) := by
  intro pins s σ H vs us Q I r h
  obtain ⟨a, xs, shape, key, rfl, hs, hx, q⟩ := h
  obtain ⟨its, rv, hl, hz⟩ := I.list hs
  rw [Vals.ref1 r]
  obtain ⟨e1, e2⟩ := refs_back rv fun x m => by
    obtain ⟨t, e, _⟩ := hx x m
    exact ⟨t, e⟩
  have row : ∀ v ∈ its, ∃ t, v = Value.ref t ∧ PyProof.Rows.G.tupKeyC s.heap shape v = some ((key (.ref t)).map cv) ∧ ∃ f, PyProof.Rows.TupOf s.heap shape v f := fun v hv => by
    obtain ⟨t, rfl⟩ := e2 v hv
    have hm : V.ref t ∈ xs := by
      rw [e1]
      exact List.mem_map.mpr ⟨_, hv, rfl⟩
    obtain ⟨t', e, ht, hne, hsh⟩ := hx _ hm
    cases e
    obtain ⟨us, ru, ⟨o, ho, hc, n, hd⟩, _⟩ := I.tuple ht
    refine ⟨t, rfl, PyProof.Rows.G.tupKeyC_of ho hc hd (items_of hsh ru), ?_⟩
    cases ek : key (.ref t) with
    | nil => exact absurd ek hne
    | cons k r =>
      rw [ek] at ru hsh
      cases ru with
      | @cons _ u _ us2 r1 r2 =>
        refine ⟨u, t, o, _, n, rfl, ho, hc, hd, rfl, fun z => ?_, fun z => ?_⟩
        · cases k with
          | inl i =>
            obtain ⟨w, e⟩ := r1
            exact ⟨i, w, e⟩
          | inr y =>
            have := hsh.1
            rw [z] at this
            cases this
        · cases k with
          | inl i =>
            have := hsh.1
            rw [z] at this
            cases this
          | inr y =>
            obtain ⟨w, e⟩ := r1
            exact ⟨y, w, e⟩
  have all : ∃ fs, PyProof.Rows.TupsOf s.heap shape its fs := tups_all fun v hv => by
    obtain ⟨_, _, _, f⟩ := row v hv
    exact f
  obtain ⟨fs, ht⟩ := all
  have hL : its.length ≤ sizeLine := by
    rw [← rv.length]
    exact hz
  refine PyProof.Rows.G.sorted_tups hl.isList ht (fun v hv => by obtain ⟨_, _, k, _⟩ := row v hv; exact ⟨_, k⟩) hL fun st' hp hs _ => ?_
  have pl := Array.perm_iff_toList_perm.mp hp
  rw [PyProof.Rows.pairsOf_toList, zip_same] at pl
  generalize harr : PyProof.Rows.arrOf st' = arr at hp hs pl ⊢
  have each : ∀ p ∈ arr.toList, p.1 = p.2 ∧ p.2 ∈ its := fun p m => by
    obtain ⟨v, hv, e⟩ := List.mem_map.mp (pl.mem_iff.mp m)
    subst e
    exact ⟨rfl, hv⟩
  have out : ((arr.map (·.2)).toList).Perm its := by
    have z := pl.map (·.2)
    rw [List.map_map] at z
    rw [Array.toList_map]
    have e : its.map ((fun p : PyProof.Rows.Keyed => p.2) ∘ fun v => (v, v)) = its := by
      conv => rhs; rw [← List.map_id its]
      exact List.map_congr_left fun _ _ => rfl
    exact e ▸ z
  have refs : ∀ u ∈ (arr.map (·.2)).toList, ∃ a, u = Value.ref a := fun u hu => e2 u (out.mem_iff.mp hu)
  obtain ⟨ep, he'⟩ := PyProof.Rows.sortedAll_at s.heap its (arr.map (·.2))
  have perm : (((arr.map (·.2)).toList).map backV).Perm xs := by
    rw [e1]
    exact out.map backV
  refine ⟨.ref _, upd H (s.heap.objs.size + 1) (.lst (((arr.map (·.2)).toList).map backV)), I.laid (t' := s.toks) (fun _ _ => PyProof.Rows.sortedAll_old) (Nat.le_succ _) ⟨?_, (arr.map (·.2)).toList, ep, vals_back refs, he'⟩, rfl, q _ _ perm ?_ (I.hok.fresh (Nat.le_succ _))⟩
  · rw [perm.length_eq]
    exact hz
  rw [List.pairwise_iff_getElem]
  intro i j hi hj hij
  have sz : arr.size = its.length := by
    have z := pl.length_eq
    rw [List.length_map, Array.length_toList] at z
    exact z
  rw [List.length_map, Array.length_toList, Array.size_map] at hi hj
  have kk : ∀ k (hk : k < arr.size), PyProof.Rows.KK (PyProof.Rows.G.tupKindC s.heap shape) arr k = (key (backV (arr[k]).2)).map cv := fun k hk => by
    obtain ⟨f1, f2⟩ := each arr[k] (by simp)
    obtain ⟨t, et, kt, _⟩ := row _ f2
    unfold PyProof.Rows.KK
    rw [Array.getElem?_eq_getElem hk]
    show (PyProof.Rows.G.tupKeyC s.heap shape (arr[k]).1).getD [] = _
    rw [f1, et, ← et]
    rw [et] at kt ⊢
    rw [kt]
    rfl
  have ord := hs i j (Nat.le_of_lt hij) (by rw [PyProof.Rows.pairsOf_size]; omega)
  rw [kk i hi, kk j hj] at ord
  simp only [List.getElem_map, Array.getElem_toList, Array.getElem_map]
  exact ord
end
end Dk

namespace Kc
open PySem PySem.Spec PyProof.Rows L2 Kx
abbrev sOfKind : Stmt := topS 4
abbrev sIsRow : Stmt := topS 74
abbrev sAreRows : Stmt := topS 75
/-! ### values of a row, and whether they are of a kind -/
inductive Flat : V → Prop where
  | non : Flat .non
  | bl (b : Bool) : Flat (.bl b)
  | int (i : Int) : Flat (.int i)
  | str (x : Str) : Flat (.str x)
def In64 (i : Int) : Prop := -9223372036854775808 ≤ i ∧ i ≤ 9223372036854775807
instance (i : Int) : Decidable (In64 i) := inferInstanceAs (Decidable (_ ∧ _))
def okV (kind : Str) : V → Bool
  | .str _ => decide (V.str kind = .str "text")
  | .int i => !decide (V.str kind = .str "text") && decide (In64 i)
  | _ => false
def tyName : V → String
  | .non => "NoneType"
  | .bl _ => "bool"
  | .int _ => "int"
  | .str _ => "str"
  | _ => "x"
section
variable {P : Program} {w : World} {K : PySem.W.Frag} {mg : Str → Option Value} {base : Heap}
theorem flat_ty {H : Hp} {v : V} (h : Flat v) : TyX K H v (.type (tyName v)) := by
  cases h with
  | non => exact .base .non
  | bl b => exact .base (.bl b)
  | int i => exact .base (.int i)
  | str x => exact .base (.str x)
theorem ty_lst {H : Hp} {a : Addr} {xs : List V} (h : SqL K H a xs) : TyX K H (.ref a) (.type "list") := by
  rcases h with (h | ⟨o, h⟩) | ⟨o, its, n, h, hc, _⟩
  · exact .base (.lst h)
  · exact .base (.frz h)
  · exact .kList h hc
theorem ty_tup {H : Hp} {a : Addr} {xs : List V} (h : SqT K H a xs) : TyX K H (.ref a) (.type "tuple") := by
  rcases h with (h | ⟨o, h⟩) | ⟨o, its, n, h, hc, _⟩
  · exact .base (.tup h)
  · exact .fTuple h
  · exact .kTuple h hc
/-- isinstance(x, T), T a built-in class -/
theorem isi {H : Hp} {x : V} {a b : String} {r : Bool} {Q : VK} (t : TyX K H x (.type a)) (k : kitB a b = some r) (q : Q (.bl r) H) : rIsi K [x, .ty b] H Q := ⟨x, .ty b, .type a, .type b, r, rfl, .ty b, t, kit_ty k, q⟩
/-! ### is_of_kind -/
def spOfKind : Sp := fun vs H Q _ => ∃ (v : V) (kind : Str), vs = [v, .str kind] ∧ Flat v ∧ Q (.bl (okV kind v)) H
theorem sc_ofkind : FnScope ["thing", "kind"] ["thing", "kind"] (defScope sOfKind) := ⟨rfl, rfl, rfl, by decide +kernel, rfl, by decide +kernel, by decide +kernel⟩
theorem ok_ofkind {f : Addr} {fd : FuncData} (F : Fun K "is_of_kind" "is_of_kind" sOfKind f fd) (m_isinstance : mg "isinstance" = none) (m_str : mg "str" = none) (m_int : mg "int" = none) (m_bool : mg "bool" = none)
    (m_least : ∃ t, mg "LEAST_INT" = some (.int (-9223372036854775808) t)) (m_great : ∃ t, mg "GREATEST_INT" = some (.int 9223372036854775807 t)) : FnOk P w K mg base CX0 1 f fd ["thing", "kind"] spOfKind := by
  refine F.ok sc_ofkind (fun vs H Q E h => ?_) (fun cdv A outer s H vs Q E hr h => ?_)
  · obtain ⟨v, kind, rfl, _⟩ := h
    rfl
  obtain ⟨v, kind, rfl, hv, q⟩ := h
  obtain ⟨t1, mL⟩ := m_least
  obtain ⟨t2, mG⟩ := m_great
  refine ⟨_, pss_cons (ps_if (pt_cmpR op_eq (pv 1) pe_str (nomark _)) (pss_one (ps_ret (pe_callB call_isi (by rfl) m_isinstance PyProof.Rows.boot_isinstance (pa_cons (pv 0) (pa_cons (pe_bltn (v := .ty "str") (by rfl) m_str PyProof.Rows.boot_str rfl) pa_nil))))) (pss_nil))
      (pss_one (ps_ret (pe_and (pe_callB call_isi (by rfl) m_isinstance PyProof.Rows.boot_isinstance (pa_cons (pv 0) (pa_cons (pe_bltn (v := .ty "int") (by rfl) m_int PyProof.Rows.boot_int rfl) pa_nil))) (pe_and (pe_not (pe_callB call_isi (by rfl) m_isinstance PyProof.Rows.boot_isinstance (pa_cons (pv 0) (pa_cons (pe_bltn (v := .ty "bool") (by rfl) m_bool PyProof.Rows.boot_bool rfl) pa_nil)))) (pe_one (pe_chain op_le op_le (pe_glob (v := .int (-9223372036854775808)) rfl mL ⟨_, rfl⟩) (pv 0) (pe_glob (v := .int 9223372036854775807) rfl mG ⟨_, rfl⟩))))))), ?_⟩
  refine ⟨_, rfl, rfl, _, rfl, ite2 (fun c => ?_) (fun c => ?_)⟩
  · have c' := of_decide_eq_true c
    refine ⟨_, rfl, _, _, _, _, okV kind v, rfl, .ty _, flat_ty hv, kit_ty ?_, q⟩
    cases hv with
    | non => exact (by decide +kernel : kitB "NoneType" "str" = some false)
    | bl b => exact (by decide +kernel : kitB "bool" "str" = some false)
    | int i =>
      have e : okV kind (.int i) = false := by
        unfold okV
        rw [decide_eq_true c']
        rfl
      rw [e]
      exact (by decide +kernel : kitB "int" "str" = some false)
    | str x =>
      have e : okV kind (.str x) = true := decide_eq_true c'
      rw [e]
      exact (by decide +kernel : kitB "str" "str" = some true)
  have c' : decide (V.str kind = V.str "text") = false := Bool.eq_false_iff.mpr c
  cases hv with
  | non => exact ⟨_, rfl, _, _, _, _, false, rfl, .ty _, flat_ty .non, kit_ty (by decide +kernel : kitB "NoneType" "int" = some false), _, rfl, q⟩
  | bl b => exact ⟨_, rfl, _, _, _, _, true, rfl, .ty _, flat_ty (.bl b), kit_ty (by decide +kernel : kitB "bool" "int" = some true), _, rfl, _, rfl, _, _, _, _, true, rfl, .ty _, flat_ty (.bl b), kit_ty (by decide +kernel : kitB "bool" "bool" = some true), _, rfl, _, rfl, q⟩
  | str x =>
    have e : okV kind (.str x) = false := c'
    rw [e] at q
    exact ⟨_, rfl, _, _, _, _, false, rfl, .ty _, flat_ty (.str x), kit_ty (by decide +kernel : kitB "str" "int" = some false), _, rfl, q⟩
  | int i =>
    have e : okV kind (.int i) = decide (In64 i) := by
      unfold okV
      rw [c']
      rfl
    rw [e] at q
    refine ⟨_, rfl, _, _, _, _, true, rfl, .ty _, flat_ty (.int i), kit_ty (by decide +kernel : kitB "int" "int" = some true), _, rfl, _, rfl, _, _, _, _, false, rfl, .ty _, flat_ty (.int i), kit_ty (by decide +kernel : kitB "int" "bool" = some false), _, rfl, _, rfl, ?_⟩
    refine ⟨_, rfl, _, _, rfl, rfl, _, rfl, ite2 (fun k => ?_) (fun k => ?_)⟩
    · have k1 := of_decide_eq_true k
      refine ⟨_, _, rfl, rfl, ?_⟩
      have e2 : decide (i ≤ 9223372036854775807) = decide (In64 i) := decide_eq_decide.mpr ⟨fun z => ⟨k1, z⟩, fun z => z.2⟩
      rw [← e2] at q
      exact q
    · have e2 : decide (In64 i) = false := decide_eq_false fun z => k (decide_eq_true z.1)
      rw [e2] at q
      exact q
end

/-! ### things that may be rows -/
inductive Th where
  | none
  | text (x : Str)
  | lst
  | tup (xs : List V)
def ThAt (K : PySem.W.Frag) (H : Hp) : V → Th → Prop
  | v, .none => v = .non
  | v, .text x => v = .str x
  | v, .lst => ∃ a xs, v = .ref a ∧ SqL K H a xs
  | v, .tup xs => ∃ a, v = .ref a ∧ SqT K H a xs ∧ ∀ x ∈ xs, Flat x
/-- whether it is a row of columns of these kinds -/
def rowB (cs : List Str) : Th → Bool
  | .tup xs => decide (xs.length = cs.length) && (xs.zip cs).all fun p => okV p.2 p.1
  | _ => false
theorem rb2 (x y : V) : rowB ["int", "text"] (.tup [x, y]) = (okV "int" x && okV "text" y) := by simp [rowB]
theorem ok_int_int (i : Int) : okV "int" (.int i) = decide (In64 i) := by
  unfold okV
  rw [decide_eq_false (by decide +kernel)]
  rfl
section
variable {P : Program} {w : World} {K : PySem.W.Frag} {mg : Str → Option Value} {base : Heap}
/-! ### _law_is_row -/
def spLRow (K : PySem.W.Frag) : Sp := fun vs H Q _ => ∃ (v : V) (t : Th), vs = [v] ∧ ThAt K H v t ∧ Q (.bl (rowB ["int", "text"] t)) H
end

theorem walk_zipT {K : PySem.W.Frag} {a b : Addr} {xs ys : List V} {n : Nat} (hn : n = min xs.length ys.length) : Walk (RZ.ItzT K a b) n (fun H => SqT K H a xs ∧ SqT K H b ys) (YPair (fun i => xs[i]?) (fun i => ys[i]?)) := by
  refine ⟨fun i _ hi q => ⟨xs, ys, xs[i]'(by omega), ys[i]'(by omega), q.1, q.2, List.getElem?_eq_getElem _, List.getElem?_eq_getElem _⟩, fun _ q => ⟨xs, ys, q.1, q.2, by omega⟩, ?_⟩
  rintro i H v H' _ q ⟨T, x, z, h1, h2, h3, h4, h5⟩
  exact ⟨T, x, z, h1, h2, h3, h4 xs q.1, h5 ys q.2⟩
theorem pi_or {X : Cx} {tg e : Expr} {t1 t2 : TI} (h1 : PI X tg e t1) (h2 : PI X tg e t2) : PI X tg e (fun σ H R => t1 σ H R ∨ t2 σ H R) :=
  ⟨fun pins s σ H R I h => h.elim (h1.run pins s σ H R I) (h2.run pins s σ H R I)⟩
theorem Same.sqT {K : PySem.W.Frag} {H H' : Hp} (h : Same H H') {a : Addr} {xs : List V} (q : SqT K H a xs) : SqT K H' a xs := by
  rcases q with (q | ⟨o, q⟩) | q
  · exact .inl (.inl (h _ _ q))
  · exact .inl (.inr ⟨o, h _ _ q⟩)
  · exact .inr q
theorem Same.sqL {K : PySem.W.Frag} {H H' : Hp} (h : Same H H') {a : Addr} {xs : List V} (q : SqL K H a xs) : SqL K H' a xs := by
  rcases q with (q | ⟨o, q⟩) | q
  · exact .inl (.inl (h _ _ q))
  · exact .inl (.inr ⟨o, h _ _ q⟩)
  · exact .inr q
/-- columns, a tuple of pairs of a name and a kind -/
def ColsT (K : PySem.W.Frag) (H : Hp) (cols : Addr) (cs : List (Str × Str)) : Prop :=
  ∃ as : List Addr, SqT K H cols (as.map V.ref) ∧ as.length = cs.length ∧ ∀ (i : Nat) (a : Addr) (c : Str × Str), as[i]? = some a → cs[i]? = some c → SqT K H a [.str c.1, .str c.2]
section
variable {P : Program} {w : World} {K : PySem.W.Frag} {mg : Str → Option Value} {base : Heap}
theorem ColsT.same {H H' : Hp} {cols : Addr} {cs : List (Str × Str)} (C : ColsT K H cols cs) (h : Same H H') : ColsT K H' cols cs := by
  obtain ⟨as, h1, h2, h3⟩ := C
  exact ⟨as, Same.sqT h h1, h2, fun i a c e1 e2 => Same.sqT h (h3 i a c e1 e2)⟩
theorem ThAt.same {H H' : Hp} (h : Same H H') : ∀ {v : V} {t : Th}, ThAt K H v t → ThAt K H' v t
  | _, .none, q => q
  | _, .text _, q => q
  | _, .lst, ⟨a, xs, e, q⟩ => ⟨a, xs, e, Same.sqL h q⟩
  | _, .tup _, ⟨a, e, q, f⟩ => ⟨a, e, Same.sqT h q, f⟩
/-! ### is_row -/
def spIsRow (K : PySem.W.Frag) : Sp := fun vs H Q _ => ∃ (v : V) (t : Th) (cols : Addr) (cs : List (Str × Str)), vs = [v, .ref cols] ∧ ThAt K H v t ∧ ColsT K H cols cs ∧ cs.length < 64 ∧ ∀ H', Same H H' → Q (.bl (rowB (cs.map (·.2)) t)) H'
abbrev N_isrow : List Str := ["thing", "columns", "value", "column"]
theorem sc_isrow : FnScope N_isrow ["thing", "columns"] (defScope sIsRow) := ⟨rfl, rfl, rfl, by decide +kernel, rfl, by decide +kernel, by decide +kernel⟩
theorem rowB_len {cs : List Str} {xs : List V} (h : xs.length ≠ cs.length) : rowB cs (.tup xs) = false := by
  show (decide (xs.length = cs.length) && _) = false
  rw [decide_eq_false h]
  rfl
theorem rowB_all {cs : List Str} {xs : List V} (h : xs.length = cs.length) : rowB cs (.tup xs) = (((xs.zip cs).map fun p => okV p.2 p.1).all id) := by
  show (decide (xs.length = cs.length) && _) = _
  rw [decide_eq_true h, Bool.true_and, List.all_map]
  rfl
theorem ok_isrow {f : Addr} {fd : FuncData} (F : Fun K "is_row" "is_row" sIsRow f fd) (m_isinstance : mg "isinstance" = none) (m_tuple : mg "tuple" = none) (m_len : mg "len" = none) (m_all : mg "all" = none) (m_zip : mg "zip" = none)
    (G_is_of_kind : Ready P w K mg base 1 "is_of_kind" ["thing", "kind"] spOfKind) : FnOk P w K mg base CX0 2 f fd ["thing", "columns"] (spIsRow K) := by
  refine F.ok sc_isrow (fun vs H Q E h => ?_) (fun cdv A outer s H vs Q E hr h => ?_)
  · obtain ⟨v, t, cols, cs, rfl, _⟩ := h
    rfl
  obtain ⟨v, t, cols, cs, rfl, hv, C, h64, q⟩ := h
  have nd := sc_isrow.nd
  refine ⟨_, pss_cons (ps_if (PW.pt (pw_or (pt_not (pt_val (pe_callB call_isi (by rfl) m_isinstance PyProof.Rows.boot_isinstance (pa_cons (pv 0) (pa_cons (pe_bltn (v := .ty "tuple") (by rfl) m_tuple PyProof.Rows.boot_tuple rfl) pa_nil))))) (pw_or1 (pt_cmpR op_ne (pe_callB call_len_seq (by rfl) m_len PySem.boot_len (pa_cons (pv 0) pa_nil)) (pe_callB call_len_seq (by rfl) m_len PySem.boot_len (pa_cons (pv 1) pa_nil)) (nomark _))))) (pss_one (ps_ret pe_bl)) (pss_nil))
      (pss_one (ps_ret (pe_callB (cr_all rfl) (by rfl) m_all PyProof.Rows.boot_all (pa_cons (pe_lc (own := [("value", 2), ("column", 3)]) (g := (gTup K 2 (gCons (gName 2) (gCons (gName 3) gNil)))) (tt := tYes) (te := tCall spOfKind [] E0 (tCons (tVar 2) (tCons (tOp (rIxT K) (tVar 3) (tC (.int 1))) tNil))) rfl nd (RZ.pi_zipA rfl m_zip (pa_cons (pv 0) (pa_cons (pv 1) pa_nil))) (blkOk_by (N := N_isrow) (sc := defScope sIsRow) (by decide +kernel)) (fun _ _ _ _ _ => pg_tup rfl (pgs_cons (pg_name (i := 2) nd rfl (.inl rfl)) (pgs_cons (pg_name (i := 3) nd rfl (.inl rfl)) pgs_nil))) (fun _ _ _ _ _ => pts_nil) (fun _ _ _ _ _ => (pe_fn (G_is_of_kind) (hr.mono (by decide)) (pa_cons (pv 2) (pa_cons (pe_ix ix_tup (pv 3) pe_int (fun _ _ => rfl)) pa_nil))))) pa_nil)))), ?_⟩
  cases t with
  | none =>
    cases hv
    exact ⟨_, rfl, _, _, _, _, false, rfl, .ty _, .base .non, kit_ty (by decide +kernel : kitB "NoneType" "tuple" = some false), _, rfl, q _ (Same.refl _)⟩
  | text x =>
    cases hv
    exact ⟨_, rfl, _, _, _, _, false, rfl, .ty _, .base (.str x), kit_ty (by decide +kernel : kitB "str" "tuple" = some false), _, rfl, q _ (Same.refl _)⟩
  | lst =>
    obtain ⟨a, xs, rfl, h⟩ := hv
    exact ⟨_, rfl, _, _, _, _, false, rfl, .ty _, ty_lst h, kit_ty (by decide +kernel : kitB "list" "tuple" = some false), _, rfl, q _ (Same.refl _)⟩
  | tup xs =>
    obtain ⟨a, rfl, h, fl⟩ := hv
    obtain ⟨as, c1, c2, c3⟩ := C
    refine ⟨_, rfl, _, _, _, _, true, rfl, .ty _, ty_tup h, kit_ty (by decide +kernel : kitB "tuple" "tuple" = some true), _, rfl, _, rfl, a, xs, rfl, .inr h, _, rfl, cols, _, rfl, .inr c1, rfl, _, rfl, ite2 (fun c => ?_) (fun c => ?_)⟩
    · have ne : xs.length ≠ cs.length := fun z => by
        rw [List.length_map, c2, z] at c
        exact absurd c (by simp)
      have q' := q H (Same.refl _)
      rw [rowB_len (by rw [List.length_map]; exact ne)] at q'
      exact q'
    have len : xs.length = cs.length := by
      by_cases z : xs.length = cs.length
      · exact z
      · refine absurd ?_ c
        show (!decide (V.int (xs.length : Nat) = V.int ((as.map V.ref).length : Nat))) = true
        rw [List.length_map, c2, decide_eq_false fun e => z (by injection e with e; omega)]
        rfl
    have eb := rowB_all (cs := cs.map (·.2)) (xs := xs) (by rw [List.length_map]; exact len)
    rw [eb] at q
    have lz : (xs.zip (cs.map (·.2))).length = xs.length := by
      rw [List.length_zip, List.length_map, len, Nat.min_self]
    generalize hbs : ((xs.zip (cs.map (·.2))).map fun p => okV p.2 p.1) = bs at q
    have lb : bs.length = xs.length := by
      rw [← hbs, List.length_map, lz]
    refine ⟨_, rfl, _, rfl, a, cols, xs, _, rfl, .inr ⟨h, c1, fun D hD => ?_⟩⟩
    refine lc_it (walk_zipT (n := xs.length) (by rw [List.length_map, c2, len, Nat.min_self])) (fun i H' => Same H H' ∧ H' D = some (.lst ((bs.take i).map V.bl))) ⟨same_upd hD, upd_same⟩ (fun i H' _ z => ⟨Same.sqT z.1 h, Same.sqT z.1 c1⟩) ?_ ?_
    · rintro i v H2 H3 hi ⟨sm, eD⟩ ⟨T, x, y, rfl, nT, rfl, ex, ey⟩
      replace ex : xs[i]? = some x := ex
      replace ey : (as.map V.ref)[i]? = some y := ey
      rw [List.getElem?_map] at ey
      obtain ⟨ac, eac, rfl⟩ := Option.map_eq_some_iff.mp ey
      have s3 := same_upd (o := .tup [x, .ref ac]) nT
      have hc : i < cs.length := by omega
      have ecs : cs[i]? = some cs[i] := List.getElem?_eq_getElem hc
      have col := Same.sqT s3 (Same.sqT sm (c3 i ac _ eac ecs))
      have hb : i < bs.length := by omega
      have eb2 : bs[i] = okV (cs[i]).2 x := by
        have e1 : bs[i]? = some (okV (cs[i]).2 x) := by
          rw [← hbs, List.getElem?_map, show (xs.zip (cs.map (·.2)))[i]? = some (x, (cs[i]).2) from List.getElem?_zip_eq_some.mpr ⟨ex, by rw [List.getElem?_map, ecs] <;> rfl⟩] <;> rfl
        rw [List.getElem?_eq_getElem hb] at e1
        exact Option.some.inj e1
      refine ⟨T, _, rfl, SqT.of upd_same, rfl, _, _, rfl, _, _, rfl, rfl, rfl, _, rfl, _, rfl, ac, _, 1, _, rfl, rfl, col, rfl, x, (cs[i]).2, rfl, fl x (List.mem_of_getElem? ex), ?_⟩
      refine ⟨_, s3 _ _ eD, Nat.lt_of_lt_of_le (show ((bs.take i).map V.bl).length < 64 by rw [List.length_map, List.length_take]; omega) (by decide), fun b o e => ?_, ?_⟩
      · rw [upd_ne (ne_of_none e hD)]
        exact s3 _ _ (sm _ _ e)
      · rw [upd_same, List.take_succ_eq_append_getElem hb, eb2, List.map_append]
        rfl
    · rintro H2 ⟨sm, eD⟩
      rw [List.take_of_length_le (by omega)] at eD
      exact ⟨D, bs, rfl, SqL.of eD, q _ sm⟩
end

section
variable {P : Program} {w : World} {K : PySem.W.Frag} {mg : Str → Option Value} {base : Heap}
/-- a list or a tuple of things -/
def ThsAt (K : PySem.W.Frag) (H : Hp) (a : Addr) (ts : List Th) : Prop := ∃ xs : List V, (SqL K H a xs ∨ SqT K H a xs) ∧ xs.length = ts.length ∧ ∀ (i : Nat) (x : V) (t : Th), xs[i]? = some x → ts[i]? = some t → ThAt K H x t
theorem ThsAt.same {H H' : Hp} {a : Addr} {ts : List Th} (T : ThsAt K H a ts) (h : Same H H') : ThsAt K H' a ts := by
  obtain ⟨xs, h1, h2, h3⟩ := T
  exact ⟨xs, h1.elim (fun z => .inl (Same.sqL h z)) (fun z => .inr (Same.sqT h z)), h2, fun i x t e1 e2 => ThAt.same h (h3 i x t e1 e2)⟩
theorem kit_two {K : PySem.W.Frag} {t : Value} (h : PySem.W.kitOne K t (.type "list") = some true ∨ (PySem.W.kitOne K t (.type "list") = some false ∧ PySem.W.kitOne K t (.type "tuple") = some true)) : PySem.W.kitAny K t [.type "list", .type "tuple"] = some true := by
  unfold PySem.W.kitAny
  rcases h with h | ⟨h, h2⟩
  · rw [h]
  · rw [h]
    show PySem.W.kitAny K t [.type "tuple"] = some true
    unfold PySem.W.kitAny
    rw [h2]
def spAreRows (K : PySem.W.Frag) : Sp := fun vs H Q _ => ∃ (a : Addr) (ts : List Th) (cols : Addr) (cs : List (Str × Str)), vs = [.ref a, .ref cols] ∧ ThsAt K H a ts ∧ ts.length < 64 ∧ ColsT K H cols cs ∧ cs.length < 64 ∧ ∀ H', Same H H' → Q (.bl (ts.all (rowB (cs.map (·.2))))) H'
abbrev N_arerows : List Str := ["thing", "columns", "row"]
theorem sc_arerows : FnScope N_arerows ["thing", "columns"] (defScope sAreRows) := ⟨rfl, rfl, rfl, by decide +kernel, rfl, by decide +kernel, by decide +kernel⟩
theorem ok_arerows {f : Addr} {fd : FuncData} (F : Fun K "are_rows" "are_rows" sAreRows f fd) (m_isinstance : mg "isinstance" = none) (m_tuple : mg "tuple" = none) (m_list : mg "list" = none) (m_all : mg "all" = none)
    (G_is_row : Ready P w K mg base 2 "is_row" ["thing", "columns"] (spIsRow K)) : FnOk P w K mg base CX0 3 f fd ["thing", "columns"] (spAreRows K) := by
  refine F.ok sc_arerows (fun vs H Q E h => ?_) (fun cdv A outer s H vs Q E hr h => ?_)
  · obtain ⟨a, ts, cols, cs, rfl, _⟩ := h
    rfl
  obtain ⟨a, ts, cols, cs, rfl, ⟨xs, hS, hl, ht⟩, h64, C, c64, q⟩ := h
  have nd := sc_arerows.nd
  refine ⟨_, pss_one (ps_ret (pe_and (pe_callB call_isiT (by rfl) m_isinstance PyProof.Rows.boot_isinstance (pa_cons (pv 0) (pa_cons (pe_tup (pa_cons (pe_bltn (v := .ty "list") (by rfl) m_list PyProof.Rows.boot_list rfl) (pa_cons (pe_bltn (v := .ty "tuple") (by rfl) m_tuple PyProof.Rows.boot_tuple rfl) pa_nil))) pa_nil))) (pe_one (pe_callB (cr_all rfl) (by rfl) m_all PyProof.Rows.boot_all (pa_cons (pe_lc (own := [("row", 2)]) (g := gName 2) (tt := tYes) rfl nd (pi_or (pi_list (pv 0)) (pi_tup (pv 0))) (blkOk_by (N := N_arerows) (sc := defScope sAreRows) (by decide +kernel)) (fun _ _ _ _ _ => pg_name (i := 2) nd rfl (Or.inl rfl)) (fun _ _ _ _ _ => pts_nil) (fun _ _ _ _ _ => (pe_fn (G_is_row) (hr.mono (by decide)) (pa_cons (pv 2) (pa_cons (pv 1) pa_nil))))) pa_nil))))), ?_⟩
  have z2 : 2 ≤ sizeLine := by decide
  refine ⟨_, rfl, z2, fun p hp => ?_⟩
  have s1 := same_upd (o := .tup [.ty "list", .ty "tuple"]) hp
  generalize hbs : ts.map (rowB (cs.map (·.2))) = bs
  have qb : ts.all (rowB (cs.map (·.2))) = bs.all id := by
    rw [← hbs, List.all_map]
    rfl
  rw [qb] at q
  have lb : bs.length = ts.length := by rw [← hbs, List.length_map]
  have ty : ∃ T, TyX K (upd H p (.tup [.ty "list", .ty "tuple"])) (.ref a) (.type T) ∧ PySem.W.kitAny K (.type T) [.type "list", .type "tuple"] = some true := by
    rcases hS with h | h
    · exact ⟨"list", ty_lst (Same.sqL s1 h), kit_two (.inl (kit_ty (by decide +kernel)))⟩
    · exact ⟨"tuple", ty_tup (Same.sqT s1 h), kit_two (.inr ⟨kit_ty (by decide +kernel), kit_ty (by decide +kernel)⟩)⟩
  obtain ⟨T, tT, kT⟩ := ty
  refine ⟨.ref a, p, [.ty "list", .ty "tuple"], .type T, [.type "list", .type "tuple"], true, rfl, upd_same, .cons (.ty _) (.cons (.ty _) .nil), tT, kT, _, rfl, ?_⟩
  -- one turn of the walk
  have step : ∀ (D : Addr), (upd H p (.tup [.ty "list", .ty "tuple"])) D = none → ∀ (i : Nat) (x : V) (H2 : Hp), i < xs.length → xs[i]? = some x → Same H H2 → H2 D = some (.lst ((bs.take i).map V.bl)) →
      spIsRow K [x, .ref cols] H2 (fun y H4 => ∃ acc, H4 D = some (.lst acc) ∧ acc.length < sizeLine ∧ (Same H (upd H4 D (.lst (acc ++ [y]))) ∧ (upd H4 D (.lst (acc ++ [y]))) D = some (.lst ((bs.take (i + 1)).map V.bl)))) E0 := by
    intro D hD i x H2 hi ex sm eD
    have hit : i < ts.length := by omega
    have et : ts[i]? = some ts[i] := List.getElem?_eq_getElem hit
    have hb : i < bs.length := by omega
    have eb : bs[i] = rowB (cs.map (·.2)) ts[i] := by
      have e1 : bs[i]? = some (rowB (cs.map (·.2)) ts[i]) := by
        rw [← hbs, List.getElem?_map, et] <;> rfl
      rw [List.getElem?_eq_getElem hb] at e1
      exact Option.some.inj e1
    refine ⟨x, ts[i], cols, cs, rfl, ThAt.same sm (ht i x _ ex et), C.same sm, c64, fun H4 s4 => ⟨_, s4 _ _ eD, Nat.lt_of_lt_of_le (show ((bs.take i).map V.bl).length < 64 by rw [List.length_map, List.length_take]; omega) (by decide), fun b o e => ?_, ?_⟩⟩
    · rw [upd_ne (ne_of_none (s1 _ _ e) hD)]
      exact s4 _ _ (sm _ _ e)
    · rw [upd_same, List.take_succ_eq_append_getElem hb, eb, List.map_append]
      rfl
  have fin : ∀ (D : Addr) (H2 : Hp), Same H H2 ∧ H2 D = some (.lst ((bs.take xs.length).map V.bl)) → rAll K [.ref D] H2 Q := by
    rintro D H2 ⟨sm, eD⟩
    rw [List.take_of_length_le (by omega)] at eD
    exact ⟨D, bs, rfl, SqL.of eD, q _ sm⟩
  rcases hS with h | h
  · refine .inl ⟨_, rfl, a, rfl, ⟨_, Same.sqL s1 h⟩, fun D hD => lc_list (K := K) (xs := xs) (fun i H' => Same H H' ∧ H' D = some (.lst ((bs.take i).map V.bl))) ⟨s1.trans (same_upd hD), upd_same⟩ (fun i H' _ z => Same.sqL z.1 h) ?_ (fin D)⟩
    rintro i x H2 ex ⟨sm, eD⟩
    exact ⟨rfl, _, rfl, _, rfl, step D hD i x H2 (List.getElem?_eq_some_iff.mp ex).1 ex sm eD⟩
  · refine .inr ⟨_, rfl, a, rfl, ⟨_, Same.sqT s1 h⟩, fun D hD => lc_tup (K := K) (xs := xs) (fun i H' => Same H H' ∧ H' D = some (.lst ((bs.take i).map V.bl))) ⟨s1.trans (same_upd hD), upd_same⟩ (fun i H' _ z => Same.sqT z.1 h) ?_ (fin D)⟩
    rintro i x H2 ex ⟨sm, eD⟩
    exact ⟨rfl, _, rfl, _, rfl, step D hD i x H2 (List.getElem?_eq_some_iff.mp ex).1 ex sm eD⟩
end
end Kc

/-! KA: value_sum, key_sum, name_places (k21) -/
namespace Kx
open PySem PySem.Spec PyProof.Rows L2
abbrev s_value_sum : Stmt := topS 46
abbrev s_key_sum : Stmt := topS 47
abbrev s_name_places : Stmt := topS 49
/-- a value that a row may hold -/
def Sml : L2.Key → Prop
  | .inl i => -9223372036854775808 ≤ i ∧ i ≤ 9223372036854775807
  | .inr x => x.length ≤ 100
section
variable {P : Program} {w : World} {K : PySem.W.Frag} {mg : Str → Option Value} {base : Heap}
def spVSum : Sp := fun vs H Q _ => ∃ z : L2.Key, vs = [kV z] ∧ Sml z ∧ ∀ i : Int, -9223372036854775808 ≤ i → i ≤ 9223372036854775807 → Q (.int i) H
abbrev N_value_sum : List Str := ["value", "total", "sign"]
theorem sc_value_sum : FnScope N_value_sum ["value"] (defScope s_value_sum) := ⟨rfl, rfl, rfl, by decide +kernel, rfl, by decide +kernel, by decide +kernel⟩
theorem sum_lt {a : Int} : -9223372036854775808 ≤ a % 2305843009213693951 ∧ a % 2305843009213693951 ≤ 9223372036854775807 := by omega
theorem ok_vsum {f : Addr} {fd : FuncData} (F : Fun K "value_sum" "value_sum" s_value_sum f fd) (m_isinstance : mg "isinstance" = none) (m_str : mg "str" = none) (m_len : mg "len" = none) (m_ord : mg "ord" = none)
    (m_F : ∃ t, mg "FACTOR" = some (.int 1000003 t)) (m_M : ∃ t, mg "MOST_SUM" = some (.int 2305843009213693951 t)) : FnOk P w K mg base CX0 1 f fd ["value"] spVSum := by
  refine F.ok sc_value_sum (fun vs H Q E h => ?_) (fun cdv A outer s H vs Q E hr h => ?_)
  · obtain ⟨z, rfl, _⟩ := h
    rfl
  obtain ⟨z, rfl, hz, q⟩ := h
  obtain ⟨t1, mF⟩ := m_F
  obtain ⟨t2, mM⟩ := m_M
  have nd := sc_value_sum.nd
  refine ⟨_, pss_cons (ps_if (pt_not (pt_val (pe_callB call_isi (by rfl) m_isinstance PyProof.Rows.boot_isinstance (pa_cons (pv 0) (pa_cons (pe_bltn (v := .ty "str") (by rfl) m_str PyProof.Rows.boot_str rfl) pa_nil))))) (pss_one (ps_ret (pv 0))) (pss_nil))
      (pss_cons (ps_set (i := 1) nd rfl (.inl rfl) (pe_callB call_len_str (by rfl) m_len PySem.boot_len (pa_cons (pv 0) pa_nil)))
      (pss_cons (ps_for PassesOwn.never rfl (pi_str (pv 0)) (pg_name (i := 2) nd rfl (.inl rfl)) (pss_one (ps_set (i := 1) nd rfl (.inl rfl) (pe_op op_mod (pe_op op_add (pe_op op_mul (pv 1) (pe_glob (v := .int 1000003) rfl mF ⟨_, rfl⟩)) (pe_callB call_ord (by rfl) m_ord PyProof.Rows.boot_ord (pa_cons (pv 2) pa_nil))) (pe_glob (v := .int 2305843009213693951) rfl mM ⟨_, rfl⟩)))))
      (pss_one (ps_ret (pv 1))))), ?_⟩
  cases z with
  | inl i =>
    refine ⟨_, rfl, _, _, _, _, false, rfl, .ty _, .base (.int i), kit_ty (by decide +kernel : kitB "int" "str" = some false), ?_⟩
    exact ⟨_, rfl, ifT' rfl ⟨_, rfl, q i hz.1 hz.2⟩⟩
  | inr x =>
    refine ⟨_, rfl, _, _, _, _, true, rfl, .ty _, .base (.str x), kit_ty (by decide +kernel : kitB "str" "str" = some true), ?_⟩
    have hx : x.length ≤ 100 := hz
    refine ⟨_, rfl, ifF' rfl ?_⟩
    refine ⟨_, rfl, x, rfl, Nat.le_trans hx (by decide), _, rfl, x, rfl, ?_⟩
    refine for_it (walk_str (z := x)) (fun _ σ G => G = H ∧ ∃ (i : Int) (y2 : Option V), σ = [some (.str x), some (.int i), y2] ∧ -9223372036854775808 ≤ i ∧ i ≤ 9223372036854775807) ⟨rfl, (x.length : Int), _, rfl, by omega, by omega⟩ (fun _ _ _ _ _ => trivial) ?_ ?_
    · rintro j v σ G H' hj ⟨rfl, i, y2, rfl, i1, i2⟩ ⟨rfl, c, _, rfl⟩
      refine ⟨_, rfl, _, _, rfl, rfl, .inr (by decide), ?_⟩
      refine ⟨_, rfl, _, rfl, rfl, _, _, rfl, rfl, _, _, rfl, rfl, (by decide : (0 : Int) < 2305843009213693951), ?_⟩
      exact ⟨rfl, _, _, rfl, sum_lt.1, sum_lt.2⟩
    · rintro σ G ⟨rfl, i, y2, rfl, i1, i2⟩
      exact ⟨_, rfl, q i i1 i2⟩
def spKSum (K : PySem.W.Frag) : Sp := fun vs H Q _ => ∃ (a : Addr) (k : Row), vs = [.ref a] ∧ SqT K H a (k.map kV) ∧ (∀ z ∈ k, Sml z) ∧ ∀ i : Int, Q (.int i) H
abbrev N_key_sum : List Str := ["key", "total", "value"]
theorem sc_key_sum : FnScope N_key_sum ["key"] (defScope s_key_sum) := ⟨rfl, rfl, rfl, by decide +kernel, rfl, by decide +kernel, by decide +kernel⟩
theorem ok_ksum {f : Addr} {fd : FuncData} (F : Fun K "key_sum" "key_sum" s_key_sum f fd) (G_v : Ready P w K mg base 1 "value_sum" ["value"] spVSum)
    (m_F : ∃ t, mg "FACTOR" = some (.int 1000003 t)) (m_M : ∃ t, mg "MOST_SUM" = some (.int 2305843009213693951 t)) (m_X : ∃ t, mg "MIXED" = some (.int 1024 t)) : FnOk P w K mg base CX0 2 f fd ["key"] (spKSum K) := by
  refine F.ok sc_key_sum (fun vs H Q E h => ?_) (fun cdv A outer s H vs Q E hr h => ?_)
  · obtain ⟨a, k, rfl, _⟩ := h
    rfl
  obtain ⟨a, k, rfl, hk, hz, q⟩ := h
  obtain ⟨t1, mF⟩ := m_F
  obtain ⟨t2, mM⟩ := m_M
  obtain ⟨t3, mX⟩ := m_X
  have nd := sc_key_sum.nd
  refine ⟨_, pss_cons (ps_set (i := 1) nd rfl (.inl rfl) pe_int)
      (pss_cons (ps_for PassesOwn.never rfl (pi_tup (pv 0)) (pg_name (i := 2) nd rfl (.inl rfl)) (pss_one (ps_set (i := 1) nd rfl (.inl rfl) (pe_op op_mod (pe_op op_add (pe_op op_mul (pv 1) (pe_glob (v := .int 1000003) rfl mF ⟨_, rfl⟩)) (pe_fn (G_v) (hr.mono (by decide)) (pa_cons (pv 2) pa_nil))) (pe_glob (v := .int 2305843009213693951) rfl mM ⟨_, rfl⟩)))))
      (pss_one (ps_ret (pe_op op_fdiv (pe_op op_mod (pe_op op_mul (pv 1) (pe_glob (v := .int 1000003) rfl mF ⟨_, rfl⟩)) (pe_glob (v := .int 2305843009213693951) rfl mM ⟨_, rfl⟩)) (pe_glob (v := .int 1024) rfl mX ⟨_, rfl⟩))))), ?_⟩
  refine ⟨_, rfl, a, rfl, ⟨_, hk⟩, for_tup (K := K) (xs := k.map kV) (fun _ σ G => G = H ∧ ∃ (i : Int) (y2 : Option V), σ = [some (.ref a), some (.int i), y2]) ⟨rfl, 0, _, rfl⟩ (fun _ _ _ _ h => by rw [h.1]; exact hk) ?_ ?_⟩
  · rintro j v σ G hj ⟨rfl, i, y2, rfl⟩
    rw [List.getElem?_map] at hj
    obtain ⟨z, e, rfl⟩ := Option.map_eq_some_iff.mp hj
    refine ⟨_, rfl, _, _, rfl, rfl, .inr (by decide), ?_⟩
    refine ⟨_, rfl, z, rfl, hz z (List.mem_of_getElem? e), fun n _ _ => ?_⟩
    refine ⟨_, _, rfl, rfl, _, _, rfl, rfl, (by decide : (0 : Int) < 2305843009213693951), ?_⟩
    exact ⟨rfl, _, _, rfl⟩
  · rintro σ G ⟨rfl, i, y2, rfl⟩
    refine ⟨_, rfl, _, _, rfl, rfl, .inr (by decide), ?_⟩
    refine ⟨_, _, rfl, rfl, (by decide : (0 : Int) < 2305843009213693951), ?_⟩
    exact ⟨_, _, rfl, rfl, ⟨by decide, by decide⟩, q _⟩
def spNPlaces (K : PySem.W.Frag) : Sp := fun vs H Q _ => ∃ (a : Addr) (ns : List Str), vs = [.ref a] ∧ SqT K H a (ns.map V.str) ∧ ns.Nodup ∧ ns.length < 1000 ∧ ∀ D H', Same H H' → H' D = some (.dK (plcK ns)) → Q (.ref D) H'
abbrev N_name_places : List Str := ["names", "at", "name"]
theorem sc_name_places : FnScope N_name_places ["names"] (defScope s_name_places) := ⟨rfl, rfl, rfl, by decide +kernel, rfl, by decide +kernel, by decide +kernel⟩
theorem ok_nplaces {f : Addr} {fd : FuncData} (F : Fun K "name_places" "name_places" s_name_places f fd) (m_enumerate : mg "enumerate" = none) : FnOk P w K mg base CX0 1 f fd ["names"] (spNPlaces K) := by
  refine F.ok sc_name_places (fun vs H Q E h => ?_) (fun cdv A outer s H vs Q E hr h => ?_)
  · obtain ⟨a, ns, rfl, _⟩ := h
    rfl
  obtain ⟨a, ns, rfl, c1, hnd, few, q⟩ := h
  have nd := sc_name_places.nd
  refine ⟨_, pss_one (ps_ret (pe_dc (own := [("at", 1), ("name", 2)]) (g := (gTup K 2 (gCons (gName 1) (gCons (gName 2) gNil)))) (tt := tYes) (tk := tVar 2) (tv := tVar 1) rfl nd (Dk.pi_enumT rfl m_enumerate (pa_cons (pv 0) pa_nil)) (blkOk_by (N := N_name_places) (sc := defScope s_name_places) (by decide +kernel)) (fun _ _ _ _ _ => pg_tup rfl (pgs_cons (pg_name (i := 1) nd rfl (.inl rfl)) (pgs_cons (pg_name (i := 2) nd rfl (.inl rfl)) pgs_nil))) (fun _ _ _ _ _ => pts_nil) (fun _ _ _ _ _ => (pv 2)) (fun _ _ _ _ _ => (pv 1)))), ?_⟩
  obtain ⟨n, hn⟩ : ∃ n, n = ns.length := ⟨_, rfl⟩
  refine ⟨_, rfl, a, _, rfl, c1, fun D nD => ?_⟩
  have W := Dk.walk_enumT (K := K) (a := a) (xs := ns.map V.str)
  rw [List.length_map, ← hn] at W
  refine ⟨fun i m H' => m = n - i ∧ i ≤ n ∧ Same H H' ∧ H' D = some (.dK (plcK (ns.take i))), ⟨_, rfl, Nat.zero_le _, same_upd nD, upd_same⟩, ?_⟩
  rintro i m H' ⟨rfl, hi, sm, eD⟩
  have cq : SqT K H' a (ns.map V.str) := seqT_same sm c1
  by_cases hlt : i < n
  · refine .inr ⟨W.goes i H' hlt cq, fun H2 => Same H H2 ∧ H2 D = some (.dK (plcK (ns.take (i + 1)))), fun H2 z => ⟨n - (i + 1), by omega, rfl, hlt, z⟩, fun x H2 y => ?_⟩
    obtain ⟨T, x1, x2, rfl, nT, rfl, e1, e2⟩ := W.yields i H' x H2 hlt cq y
    replace e1 : some (V.int (i : Nat)) = some x1 := e1
    replace e2 : (ns.map V.str)[i]? = some x2 := e2
    cases e1
    rw [List.getElem?_map] at e2
    obtain ⟨c, ec, rfl⟩ := Option.map_eq_some_iff.mp e2
    have s3 := same_upd (o := .tup [.int (i : Nat), .str c]) nT
    refine ⟨T, _, rfl, SqT.of upd_same, rfl, _, _, rfl, _, _, rfl, rfl, rfl, _, rfl, _, rfl, _, .inr c, rfl, s3 _ _ eD, ?_, fun b o e => ?_, ?_⟩
    · rw [plc_len, List.length_take]
      exact Nat.lt_of_le_of_lt (Nat.min_le_right _ _) (Nat.lt_trans few (by decide))
    · rw [upd_ne (ne_of_none e nD)]
      exact s3 _ _ (sm _ _ e)
    · rw [upd_same, plc_put (H := H) (H2 := H) (H3 := H) (D := D) (T := T) hnd ec]
  · have e : i = n := by omega
    subst e
    rw [hn, List.take_length] at eD
    exact .inl ⟨W.stops H' cq, q D H' sm eD⟩
end
end Kx

namespace Kx
open PySem PySem.Spec PyProof.Rows L2
/-! ### keys in order: ints by their size, texts sign by sign -/
def lt : L2.Key → L2.Key → Prop
  | .inl a, .inl b => a < b
  | .inl _, .inr _ => True
  | .inr _, .inl _ => False
  | .inr a, .inr b => a.cps.toList < b.cps.toList
instance : ∀ a b, Decidable (lt a b)
  | .inl a, .inl b => inferInstanceAs (Decidable (a < b))
  | .inl _, .inr _ => inferInstanceAs (Decidable True)
  | .inr _, .inl _ => inferInstanceAs (Decidable False)
  | .inr a, .inr b => inferInstanceAs (Decidable (a.cps.toList < b.cps.toList))
theorem lt_irr (a : L2.Key) : ¬ lt a a := by
  cases a with
  | inl a => exact Int.lt_irrefl a
  | inr a => exact List.lt_irrefl _
theorem lt_tr {a b c : L2.Key} (h : lt a b) (k : lt b c) : lt a c := by
  cases a with
  | inl a =>
    cases c with
    | inr c => trivial
    | inl c =>
      cases b with
      | inl b => exact Int.lt_trans h k
      | inr b => exact k.elim
  | inr a =>
    cases b with
    | inl b => exact h.elim
    | inr b =>
      cases c with
      | inl c => exact k.elim
      | inr c => exact List.lt_trans h k
theorem lt_or {a b : L2.Key} (h : ¬ lt a b) (k : ¬ lt b a) : a = b := by
  cases a with
  | inl a =>
    cases b with
    | inl b =>
      have h' : ¬ a < b := h
      have k' : ¬ b < a := k
      have : a = b := by omega
      rw [this]
    | inr b => exact absurd trivial h
  | inr a =>
    cases b with
    | inl b => exact absurd trivial k
    | inr b =>
      have e : a.cps.toList = b.cps.toList := List.le_antisymm (List.not_lt.mp k) (List.not_lt.mp h)
      congr 1
      obtain ⟨⟨x⟩⟩ := a
      obtain ⟨⟨y⟩⟩ := b
      have e' : x = y := e
      rw [e']
def Asc (l : List L2.Key) : Prop := l.Pairwise lt
/-- what ascends and has the same members is the same -/
theorem asc_eq : ∀ {l m : List L2.Key}, Asc l → Asc m → (∀ k, k ∈ l ↔ k ∈ m) → l = m
  | [], [], _, _, _ => rfl
  | [], y :: m, _, _, h => absurd ((h y).mpr List.mem_cons_self) (by simp)
  | x :: l, [], _, _, h => absurd ((h x).mp List.mem_cons_self) (by simp)
  | x :: l, y :: m, hl, hm, h => by
    have hl' := List.pairwise_cons.mp hl
    have hm' := List.pairwise_cons.mp hm
    have e : x = y := by
      have h1 := (h x).mp List.mem_cons_self
      have h2 := (h y).mpr List.mem_cons_self
      rcases List.mem_cons.mp h1 with e | h1
      · exact e
      rcases List.mem_cons.mp h2 with e | h2
      · exact e.symm
      exact absurd (lt_tr (hl'.1 y h2) (hm'.1 x h1)) (lt_irr x)
    subst e
    congr 1
    refine asc_eq hl'.2 hm'.2 fun k => ⟨fun hk => ?_, fun hk => ?_⟩
    · rcases List.mem_cons.mp ((h k).mp (List.mem_cons_of_mem _ hk)) with e | z
      · rw [e] at hk
        exact absurd (hl'.1 x hk) (lt_irr x)
      · exact z
    · rcases List.mem_cons.mp ((h k).mpr (List.mem_cons_of_mem _ hk)) with e | z
      · rw [e] at hk
        exact absurd (hm'.1 x hk) (lt_irr x)
      · exact z
def ins (x : L2.Key) : List L2.Key → List L2.Key
  | [] => [x]
  | y :: r => if lt x y then x :: y :: r else if lt y x then y :: ins x r else y :: r
theorem mem_ins {x k : L2.Key} : ∀ {l : List L2.Key}, k ∈ ins x l ↔ k = x ∨ k ∈ l
  | [] => by simp [ins]
  | y :: r => by
    unfold ins
    split
    · simp
    split
    · rw [List.mem_cons, mem_ins, List.mem_cons]
      constructor
      · rintro (h | h | h)
        · exact .inr (.inl h)
        · exact .inl h
        · exact .inr (.inr h)
      · rintro (h | h | h)
        · exact .inr (.inl h)
        · exact .inl h
        · exact .inr (.inr h)
    · rename_i a b
      have e := lt_or a b
      subst e
      simp
theorem asc_ins {x : L2.Key} : ∀ {l : List L2.Key}, Asc l → Asc (ins x l)
  | [], _ => List.pairwise_singleton _ _
  | y :: r, h => by
    have h' := List.pairwise_cons.mp h
    unfold ins
    split
    · rename_i a
      refine List.pairwise_cons.mpr ⟨fun k hk => ?_, h⟩
      rcases List.mem_cons.mp hk with e | hk
      · exact e ▸ a
      · exact lt_tr a (h'.1 k hk)
    split
    · rename_i a b
      refine List.pairwise_cons.mpr ⟨fun k hk => ?_, asc_ins h'.2⟩
      rcases mem_ins.mp hk with e | hk
      · exact e ▸ b
      · exact h'.1 k hk
    · exact h
/-- the unlike ones, ascending -/
def sd (l : List L2.Key) : List L2.Key := l.foldr ins []
theorem mem_sd {k : L2.Key} : ∀ {l : List L2.Key}, k ∈ sd l ↔ k ∈ l
  | [] => Iff.rfl
  | x :: l => by
    show k ∈ ins x (sd l) ↔ _
    rw [mem_ins, mem_sd, List.mem_cons]
theorem asc_sd : ∀ l : List L2.Key, Asc (sd l)
  | [] => List.Pairwise.nil
  | x :: l => asc_ins (asc_sd l)
theorem sd_of {l m : List L2.Key} (h : Asc m) (k : ∀ z, z ∈ m ↔ z ∈ l) : m = sd l := asc_eq h (asc_sd l) fun z => (k z).trans mem_sd.symm
theorem sd_len : ∀ l : List L2.Key, (sd l).length ≤ l.length
  | [] => Nat.le_refl 0
  | x :: l => by
    have h : ∀ m : List L2.Key, (ins x m).length ≤ m.length + 1 := fun m => by
      induction m with
      | nil => exact Nat.le_refl _
      | cons y r ih =>
        unfold ins
        split
        · exact Nat.le_refl _
        split
        · exact Nat.succ_le_succ ih
        · exact Nat.le_succ _
    exact Nat.le_trans (h (sd l)) (Nat.succ_le_succ (sd_len l))
theorem sd_perm {l m : List L2.Key} (h : ∀ z, z ∈ l ↔ z ∈ m) : sd l = sd m := sd_of (asc_sd l) fun z => mem_sd.trans (h z)
/-- which ones of the unlike ones a fold keeps -/
def sel (kind : Str) (l : List L2.Key) : List L2.Key := if V.str kind = .str "least" then l.take 1 else if V.str kind = .str "greatest" then l.drop (l.length - 1) else l
theorem sel_sub {kind : Str} {l : List L2.Key} {k : L2.Key} (h : k ∈ sel kind l) : k ∈ l := by
  unfold sel at h
  split at h
  · exact List.mem_of_mem_take h
  split at h
  · exact List.mem_of_mem_drop h
  · exact h
theorem asc_sel {kind : Str} {l : List L2.Key} (h : Asc l) : Asc (sel kind l) := by
  unfold sel
  split
  · exact h.sublist (List.take_sublist _ _)
  split
  · exact h.sublist (List.drop_sublist _ _)
  · exact h
/-- the first of what ascends -/
theorem first_of {l : List L2.Key} (h : Asc l) {x : L2.Key} (hx : x ∈ l) (hm : ∀ y ∈ l, ¬ lt y x) : l.take 1 = [x] := by
  cases l with
  | nil => cases hx
  | cons y r =>
    show [y] = [x]
    rcases List.mem_cons.mp hx with e | z
    · rw [e]
    · exact absurd ((List.pairwise_cons.mp h).1 x z) (hm y List.mem_cons_self)
theorem last_of : ∀ {l : List L2.Key}, Asc l → ∀ {x : L2.Key}, x ∈ l → (∀ y ∈ l, ¬ lt x y) → l.drop (l.length - 1) = [x]
  | [], _, x, hx, _ => by cases hx
  | [y], _, x, hx, _ => by
    rcases List.mem_cons.mp hx with e | z
    · rw [e]
      rfl
    · cases z
  | y :: z :: r, h, x, hx, hm => by
    have h' := List.pairwise_cons.mp h
    have hx2 : x ∈ z :: r := by
      rcases List.mem_cons.mp hx with e | q
      · exact absurd (e ▸ h'.1 z List.mem_cons_self) (hm z (List.mem_cons_of_mem _ List.mem_cons_self))
      · exact q
    exact last_of h'.2 hx2 fun u hu => hm u (List.mem_cons_of_mem _ hu)
theorem first_ex {l : List L2.Key} (h : Asc l) (h0 : l ≠ []) : ∃ x ∈ l, (∀ y ∈ l, ¬ lt y x) ∧ l.take 1 = [x] := by
  cases l with
  | nil => exact absurd rfl h0
  | cons x r =>
    have hm : ∀ y ∈ x :: r, ¬ lt y x := fun y hy z => by
      rcases List.mem_cons.mp hy with e | hy
      · exact lt_irr x (e ▸ z)
      · exact lt_irr x (lt_tr ((List.pairwise_cons.mp h).1 y hy) z)
    exact ⟨x, List.mem_cons_self, hm, rfl⟩
theorem last_ex : ∀ {l : List L2.Key}, Asc l → l ≠ [] → ∃ x ∈ l, (∀ y ∈ l, ¬ lt x y) ∧ l.drop (l.length - 1) = [x]
  | [], _, h0 => absurd rfl h0
  | [x], _, _ => by
    refine ⟨x, List.mem_cons_self, fun y hy => ?_, rfl⟩
    rcases List.mem_cons.mp hy with e | z
    · rw [e]
      exact lt_irr x
    · cases z
  | y :: z :: r, h, _ => by
    have h' := List.pairwise_cons.mp h
    obtain ⟨x, hx, hm, e⟩ := last_ex h'.2 (by intro q; cases q)
    refine ⟨x, List.mem_cons_of_mem _ hx, fun u hu => ?_, e⟩
    rcases List.mem_cons.mp hu with e2 | hu
    · rw [e2]
      exact fun q => lt_irr y (lt_tr (h'.1 x hx) q)
    · exact hm u hu
/-- kept ones of kept ones are those of all -/
theorem sel_two (kind : Str) (a b : List L2.Key) : sel kind (sd (sel kind (sd a) ++ sel kind (sd b))) = sel kind (sd (a ++ b)) := by
  by_cases h1 : V.str kind = .str "least"
  · unfold sel
    rw [if_pos h1, if_pos h1, if_pos h1, if_pos h1]
    by_cases h0 : sd (a ++ b) = []
    · have ea : sd a = [] := by
        rw [List.eq_nil_iff_forall_not_mem] at h0 ⊢
        exact fun z hz => h0 z (mem_sd.mpr (List.mem_append_left _ (mem_sd.mp hz)))
      have eb : sd b = [] := by
        rw [List.eq_nil_iff_forall_not_mem] at h0 ⊢
        exact fun z hz => h0 z (mem_sd.mpr (List.mem_append_right _ (mem_sd.mp hz)))
      rw [h0, ea, eb]
      rfl
    · obtain ⟨x, hx, hm, e⟩ := first_ex (asc_sd (a ++ b)) h0
      rw [e]
      have part : ∀ c : List L2.Key, (∀ z ∈ c, z ∈ a ++ b) → x ∈ c → (sd c).take 1 = [x] := fun c hc hx => first_of (asc_sd c) (mem_sd.mpr hx) fun y hy => hm y (mem_sd.mpr (hc y (mem_sd.mp hy)))
      refine first_of (asc_sd _) (mem_sd.mpr ?_) fun y hy => ?_
      · rcases List.mem_append.mp (mem_sd.mp hx) with z | z
        · rw [part a (fun z hz => List.mem_append_left _ hz) z]
          exact List.mem_append_left _ List.mem_cons_self
        · rw [part b (fun z hz => List.mem_append_right _ hz) z]
          exact List.mem_append_right _ List.mem_cons_self
      · rcases List.mem_append.mp (mem_sd.mp hy) with z | z
        · exact hm y (mem_sd.mpr (List.mem_append_left _ (mem_sd.mp (List.mem_of_mem_take z))))
        · exact hm y (mem_sd.mpr (List.mem_append_right _ (mem_sd.mp (List.mem_of_mem_take z))))
  by_cases h2 : V.str kind = .str "greatest"
  · unfold sel
    rw [if_neg h1, if_neg h1, if_neg h1, if_neg h1, if_pos h2, if_pos h2, if_pos h2, if_pos h2]
    by_cases h0 : sd (a ++ b) = []
    · have ea : sd a = [] := by
        rw [List.eq_nil_iff_forall_not_mem] at h0 ⊢
        exact fun z hz => h0 z (mem_sd.mpr (List.mem_append_left _ (mem_sd.mp hz)))
      have eb : sd b = [] := by
        rw [List.eq_nil_iff_forall_not_mem] at h0 ⊢
        exact fun z hz => h0 z (mem_sd.mpr (List.mem_append_right _ (mem_sd.mp hz)))
      rw [h0, ea, eb]
      rfl
    · obtain ⟨x, hx, hm, e⟩ := last_ex (asc_sd (a ++ b)) h0
      rw [e]
      have part : ∀ c : List L2.Key, (∀ z ∈ c, z ∈ a ++ b) → x ∈ c → (sd c).drop ((sd c).length - 1) = [x] := fun c hc hx => last_of (asc_sd c) (mem_sd.mpr hx) fun y hy => hm y (mem_sd.mpr (hc y (mem_sd.mp hy)))
      refine last_of (asc_sd _) (mem_sd.mpr ?_) fun y hy => ?_
      · rcases List.mem_append.mp (mem_sd.mp hx) with z | z
        · rw [part a (fun z hz => List.mem_append_left _ hz) z]
          exact List.mem_append_left _ List.mem_cons_self
        · rw [part b (fun z hz => List.mem_append_right _ hz) z]
          exact List.mem_append_right _ List.mem_cons_self
      · rcases List.mem_append.mp (mem_sd.mp hy) with z | z
        · exact hm y (mem_sd.mpr (List.mem_append_left _ (mem_sd.mp (List.mem_of_mem_drop z))))
        · exact hm y (mem_sd.mpr (List.mem_append_right _ (mem_sd.mp (List.mem_of_mem_drop z))))
  · unfold sel
    rw [if_neg h1, if_neg h1, if_neg h1, if_neg h1, if_neg h2, if_neg h2, if_neg h2, if_neg h2]
    refine sd_perm fun z => ?_
    rw [List.mem_append, List.mem_append, mem_sd, mem_sd]
end Kx

namespace Kb
open PySem PySem.Spec PyProof.Rows L2 Kx
/-! ### bags, and what a fold keeps of them -/
def wrap (n : Int) : Int := (n + 9223372036854775808) % 18446744073709551616 - 9223372036854775808
def In64 (i : Int) : Prop := -9223372036854775808 ≤ i ∧ i < 9223372036854775808
theorem wrap_in (n : Int) : In64 (wrap n) := by
  unfold wrap In64
  omega
theorem wrap_id {n : Int} (h : In64 n) : wrap n = n := by
  unfold In64 at h
  unfold wrap
  omega
theorem wrap_add (a b : Int) : wrap (wrap a + wrap b) = wrap (a + b) := by
  unfold wrap
  omega
def toI : L2.Key → Int
  | .inl i => i
  | .inr _ => 0
def tot : List L2.Key → Int
  | [] => 0
  | k :: r => toI k + tot r
theorem tot_app : ∀ a b : List L2.Key, tot (a ++ b) = tot a + tot b
  | [], b => by
    show tot b = 0 + tot b
    omega
  | k :: r, b => by
    show toI k + tot (r ++ b) = toI k + tot r + tot b
    rw [tot_app r b]
    omega
theorem tot_perm {a b : List L2.Key} (h : a.Perm b) : tot a = tot b := by
  induction h with
  | nil => rfl
  | cons x _ ih =>
    show toI x + _ = toI x + _
    rw [ih]
  | swap x y l =>
    show toI y + (toI x + tot l) = toI x + (toI y + tot l)
    omega
  | trans _ _ i1 i2 => exact i1.trans i2
inductive Stt where
  | n (i : Int)
  | m (s c : Int)
  | ks (l : List L2.Key)
def amt (kind : Str) (b : List L2.Key) : Int := if V.str kind = .str "count" then (b.length : Int) else tot b
theorem amt_app (kind : Str) (a b : List L2.Key) : amt kind (a ++ b) = amt kind a + amt kind b := by
  unfold amt
  split
  · rw [List.length_append]
    omega
  · exact tot_app a b
theorem amt_perm {kind : Str} {a b : List L2.Key} (h : a.Perm b) : amt kind a = amt kind b := by
  unfold amt
  rw [h.length_eq, tot_perm h]
def stOf (kind : Str) (b : List L2.Key) : Stt :=
  if kind ∈ (["count", "sum"] : List Str) then .n (wrap (amt kind b)) else if V.str kind = .str "mean" then .m (wrap (tot b)) b.length else .ks (sel kind (sd b))
theorem stOf_perm {kind : Str} {a b : List L2.Key} (h : a.Perm b) : stOf kind a = stOf kind b := by
  unfold stOf
  rw [amt_perm h, tot_perm h, h.length_eq, sd_perm fun z => h.mem_iff]
section
variable {K : PySem.W.Frag}
def StAt (K : PySem.W.Frag) (H : Hp) : V → Stt → Prop
  | v, .n i => v = .int i
  | v, .m s c => ∃ a, v = .ref a ∧ SqT K H a [.int s, .int c]
  | v, .ks l => ∃ a, v = .ref a ∧ SqT K H a (l.map kV)
theorem Same.sqT {H H' : Hp} (h : Same H H') {a : Addr} {xs : List V} (q : SqT K H a xs) : SqT K H' a xs := by
  rcases q with (q | ⟨o, q⟩) | q
  · exact .inl (.inl (h _ _ q))
  · exact .inl (.inr ⟨o, h _ _ q⟩)
  · exact .inr q
theorem Same.sqL {H H' : Hp} (h : Same H H') {a : Addr} {xs : List V} (q : SqL K H a xs) : SqL K H' a xs := by
  rcases q with (q | ⟨o, q⟩) | q
  · exact .inl (.inl (h _ _ q))
  · exact .inl (.inr ⟨o, h _ _ q⟩)
  · exact .inr q
theorem StAt.same {H H' : Hp} (h : Same H H') : ∀ {v : V} {t : Stt}, StAt K H v t → StAt K H' v t
  | _, .n _, q => q
  | _, .m _ _, ⟨a, e, q⟩ => ⟨a, e, Same.sqT h q⟩
  | _, .ks _, ⟨a, e, q⟩ => ⟨a, e, Same.sqT h q⟩
theorem StAt.but {H H' : Hp} {d : Addr} (h : But d H H') (hd : ∃ l, H d = some (.lst l)) : ∀ {v : V} {t : Stt}, StAt K H v t → StAt K H' v t
  | _, .n _, q => q
  | _, .m _ _, ⟨a, e, q⟩ => ⟨a, e, h.sqT hd q⟩
  | _, .ks _, ⟨a, e, q⟩ => ⟨a, e, h.sqT hd q⟩
/-- all ints, or all texts -/
def Hom (b : List L2.Key) : Prop := (∃ ns : List Int, b = ns.map Sum.inl) ∨ ∃ ss : List Str, b = ss.map Sum.inr
theorem hom_sub {b c : List L2.Key} (h : Hom b) (s : ∀ z ∈ c, z ∈ b) : Hom c := by
  rcases h with ⟨ns, rfl⟩ | ⟨ss, rfl⟩
  · refine .inl ⟨c.map toI, ?_⟩
    rw [List.map_map]
    conv => lhs; rw [← List.map_id c]
    refine List.map_congr_left fun k hk => ?_
    obtain ⟨n, _, rfl⟩ := List.mem_map.mp (s k hk)
    rfl
  · refine .inr ⟨c.map fun k => match k with | Sum.inl _ => Str.empty | Sum.inr n => n, ?_⟩
    rw [List.map_map]
    conv => lhs; rw [← List.map_id c]
    refine List.map_congr_left fun k hk => ?_
    obtain ⟨n, _, rfl⟩ := List.mem_map.mp (s k hk)
    rfl
theorem nodup_len : ∀ {M ks : List L2.Key}, M.Nodup → (∀ z ∈ M, z ∈ ks) → M.length ≤ ks.length
  | [], _, _, _ => Nat.zero_le _
  | x :: M, ks, hn, hs => by
    have hn' := List.nodup_cons.mp hn
    obtain ⟨u, t, rfl⟩ := List.append_of_mem (hs x List.mem_cons_self)
    have h1 : M.length ≤ (u ++ t).length := nodup_len hn'.2 fun z hz => by
      have h2 := List.mem_append.mp (hs z (List.mem_cons_of_mem _ hz))
      rcases h2 with h2 | h2
      · exact List.mem_append_left _ h2
      rcases List.mem_cons.mp h2 with e | h2
      · rw [e] at hz
        exact absurd hz hn'.1
      · exact List.mem_append_right _ h2
    rw [List.length_append] at h1
    rw [List.length_append, List.length_cons, List.length_cons]
    omega
theorem asc_ints {ns : List Int} (h : ns.Pairwise (· ≤ ·)) (hn : (ns.map (Sum.inl : Int → L2.Key)).Nodup) : Asc (ns.map Sum.inl) := by
  unfold Asc
  rw [List.pairwise_map]
  have hn' : ns.Pairwise fun a b => (Sum.inl a : L2.Key) ≠ Sum.inl b := List.pairwise_map.mp hn
  refine (h.and hn').imp fun {a b} z => ?_
  show a < b
  have : a ≠ b := fun e => z.2 (by rw [e])
  have := z.1
  omega
theorem rising_all : ∀ {l : List Str} {p : Str}, risingS p l = true → (p :: l).Pairwise fun a b => ¬ b.cps.toList < a.cps.toList
  | [], p, _ => List.pairwise_singleton _ _
  | x :: r, p, h => by
    have h' : (!ltCps x.cps.toList p.cps.toList) = true ∧ risingS x r = true := Bool.and_eq_true_iff.mp h
    have ih := rising_all h'.2
    rw [ltCps_eq] at h'
    have hx : ¬ x.cps.toList < p.cps.toList := fun z => by
      have := h'.1
      rw [decide_eq_true z] at this
      cases this
    refine List.pairwise_cons.mpr ⟨fun y hy => ?_, ih⟩
    rcases List.mem_cons.mp hy with e | hy
    · rw [e]
      exact hx
    · have hy' := (List.pairwise_cons.mp ih).1 y hy
      exact fun z => absurd (List.le_trans (List.not_lt.mp hx) (List.not_lt.mp hy')) (List.not_le.mpr z)
theorem asc_strs {ns : List Str} (h : sortedS ns = true) (hn : (ns.map (Sum.inr : Str → L2.Key)).Nodup) : Asc (ns.map Sum.inr) := by
  unfold Asc
  rw [List.pairwise_map]
  have hn' : ns.Pairwise fun a b => (Sum.inr a : L2.Key) ≠ Sum.inr b := List.pairwise_map.mp hn
  have h1 : ns.Pairwise fun a b => ¬ b.cps.toList < a.cps.toList := by
    cases ns with
    | nil => exact List.Pairwise.nil
    | cons x r => exact rising_all h
  refine (h1.and hn').imp fun {a b} z => ?_
  show a.cps.toList < b.cps.toList
  by_cases c : a.cps.toList < b.cps.toList
  · exact c
  · exact absurd (lt_or (a := .inr a) (b := .inr b) c z.1) z.2
/-- sorted(set(..)) of a list or a tuple of ints or of texts -/
theorem set_sorted {P : Program} {w : World} {H : Hp} {a : Addr} {ks : List L2.Key} {Q : VK} (h : SqL K H a (ks.map kV) ∨ SqT K H a (ks.map kV)) (hom : Hom ks) (hl : ks.length < 64)
    (q : ∀ p H', Same H H' → H' p = some (.lst ((sd ks).map kV)) → Q (.ref p) H') : Yk.rSetK K P w [.ref a] H fun v H' => Yk.rSortedK P w [v] H' Q := by
  refine ⟨a, ks, rfl, h, by omega, fun p M nd hm hp => ?_⟩
  have s1 := same_upd (o := Yk.SetKO P w p M) hp
  refine ⟨p, M, rfl, upd_same, Nat.lt_of_le_of_lt (nodup_len nd fun z hz => (hm z).mp hz) hl, ?_⟩
  rcases hom_sub hom fun z hz => (hm z).mp hz with ⟨ms, e⟩ | ⟨ms, e⟩
  · refine .inl ⟨ms, e, fun ns p2 pm pw hp2 => ?_⟩
    have pk : (ns.map (Sum.inl : Int → L2.Key)).Perm M := by
      rw [e]
      exact pm.map _
    have es : ns.map (Sum.inl : Int → L2.Key) = sd ks := sd_of (asc_ints pw (pk.nodup_iff.mpr nd)) fun z => pk.mem_iff.trans (hm z)
    refine q p2 _ (s1.trans (same_upd hp2)) ?_
    rw [← es, List.map_map]
    exact upd_same
  · refine .inr ⟨ms, e, fun ns p2 pm pw hp2 => ?_⟩
    have pk : (ns.map (Sum.inr : Str → L2.Key)).Perm M := by
      rw [e]
      exact pm.map _
    have es : ns.map (Sum.inr : Str → L2.Key) = sd ks := sd_of (asc_strs pw (pk.nodup_iff.mpr nd)) fun z => pk.mem_iff.trans (hm z)
    refine q p2 _ (s1.trans (same_upd hp2)) ?_
    rw [← es, List.map_map]
    exact upd_same
/-- t + u: somewhere stands what they are together -/
theorem cat_any {H : Hp} {a b : Addr} {xs ys : List V} {Q : VK} (ha : SqT K H a xs) (hb : SqT K H b ys) (hz : xs.length + ys.length ≤ sizeLine) (q : ∀ p H', Same H H' → SqT K H' p (xs ++ ys) → Q (.ref p) H') : rCatA K (.ref a) (.ref b) H Q := by
  refine ⟨a, b, xs, ys, rfl, rfl, ha, hb, hz, fun e => ?_, fun _ e => ?_, fun _ _ p hp => ?_⟩
  · subst e
    exact q b H (Same.refl _) hb
  · subst e
    refine q a H (Same.refl _) ?_
    rw [List.append_nil]
    exact ha
  · exact q p _ (same_upd hp) (SqT.of upd_same)
theorem cut_first (xs : List V) : cutV xs none (some 1) = xs.take 1 := by
  unfold cutV
  rw [HT.sIx_none, show (some (1 : Int)) = some ((1 : Nat) : Int) from rfl, HT.sIx_nat, List.drop_zero]
  cases xs with
  | nil => rfl
  | cons x r =>
    rw [List.length_cons, show min 1 (r.length + 1) - 0 = 1 by omega]
theorem cut_last (xs : List V) : cutV xs (some (-1)) none = xs.drop (xs.length - 1) := by
  unfold cutV
  have e : HT.sIx xs.length 0 (some (-1)) = xs.length - 1 := by
    show (if (-1 : Int) < 0 then ((-1 : Int) + (xs.length : Int)).toNat else min (-1 : Int).toNat xs.length) = _
    rw [if_pos (by decide)]
    omega
  rw [e, HT.sIx_none]
  refine List.take_of_length_le ?_
  rw [List.length_drop]
  omega
theorem sel_len (kind : Str) (l : List L2.Key) : (sel kind l).length ≤ l.length := by
  unfold sel
  split
  · rw [List.length_take]
    omega
  split
  · rw [List.length_drop]
    omega
  · exact Nat.le_refl _
theorem sel_sd_len (kind : Str) (b : List L2.Key) : (sel kind (sd b)).length ≤ b.length := Nat.le_trans (sel_len _ _) (sd_len b)
theorem sel_sd_sub {kind : Str} {b : List L2.Key} {z : L2.Key} (h : z ∈ sel kind (sd b)) : z ∈ b := mem_sd.mp (sel_sub h)
end
end Kb

namespace Kb
open PySem PySem.Spec PyProof.Rows L2 Kx
abbrev sWrap : Stmt := topS 3
abbrev sNo : Stmt := topS 6
abbrev sOne : Stmt := topS 7
abbrev sPut : Stmt := topS 8
abbrev sTold : Stmt := topS 9
theorem inV_str (z : Str) : ∀ l : List Str, inV (.str z) (l.map V.str) = decide (z ∈ l)
  | [] => rfl
  | x :: r => by
    have ih := inV_str z r
    show (x == z || inV (.str z) (r.map V.str)) = _
    rw [ih]
    by_cases h : x = z
    · subst h
      simp
    · have h' : ¬ z = x := fun e => h e.symm
      simp [h, h']
theorem in_strs {z : Str} {l : List Str} {A B : Prop} (h1 : z ∈ l → A) (h2 : z ∉ l → B) : if (if false = true then !inV (.str z) (l.map V.str) else inV (.str z) (l.map V.str)) = true then A else B := by
  rw [if_neg Bool.false_ne_true, inV_str]
  by_cases h : z ∈ l
  · rw [if_pos (decide_eq_true h)]
    exact h1 h
  · rw [if_neg (fun e => h (of_decide_eq_true e))]
    exact h2 h
section
variable {P : Program} {w : World} {K : PySem.W.Frag} {mg : Str → Option Value} {base : Heap}
/-! ### wrapped -/
def spWrap : Sp := fun vs H Q _ => ∃ n : Int, vs = [.int n] ∧ Q (.int (wrap n)) H
theorem sc_wrap : FnScope ["number"] ["number"] (defScope sWrap) := ⟨rfl, rfl, rfl, by decide +kernel, rfl, by decide +kernel, by decide +kernel⟩
theorem ok_wrap {f : Addr} {fd : FuncData} (F : Fun K "wrapped" "wrapped" sWrap f fd) (m_LEAST : ∃ t, mg "LEAST_INT" = some (.int (-9223372036854775808) t)) : FnOk P w K mg base CX0 1 f fd ["number"] spWrap := by
  refine F.ok sc_wrap (fun vs H Q E h => ?_) (fun cdv A outer s H vs Q E hr h => ?_)
  · obtain ⟨n, rfl, _⟩ := h
    rfl
  obtain ⟨n, rfl, q⟩ := h
  obtain ⟨tk, m_L⟩ := m_LEAST
  refine ⟨_, pss_one (ps_ret (pe_op op_add (pe_op op_mod (pe_op op_sub (pv 0) (pe_glob (v := .int (-9223372036854775808)) rfl m_L ⟨_, rfl⟩)) (pe_op op_pow pe_int pe_int)) (pe_glob (v := .int (-9223372036854775808)) rfl m_L ⟨_, rfl⟩))), ?_⟩
  refine ⟨_, rfl, _, _, rfl, rfl, _, _, rfl, rfl, (by show _ ∧ _ ∧ _; decide), _, _, rfl, rfl, (by show (0 : Int) < 2 ^ 64; decide), _, _, rfl, rfl, ?_⟩
  have e : (n - -9223372036854775808) % (2 ^ (64 : Int).toNat) + -9223372036854775808 = wrap n := by
    unfold wrap
    show (n - -9223372036854775808) % 18446744073709551616 + -9223372036854775808 = _
    omega
  show Q (.int ((n - -9223372036854775808) % (2 ^ (64 : Int).toNat) + -9223372036854775808)) H
  rw [e]
  exact q
theorem z2 : 2 ≤ sizeLine := by decide
theorem z1 : 1 ≤ sizeLine := by decide
theorem z0 : 0 ≤ sizeLine := by decide
/-! ### no_state -/
def spNo (K : PySem.W.Frag) : Sp := fun vs H Q _ => ∃ kind : Str, vs = [.str kind] ∧ ∀ v H', Same H H' → StAt K H' v (stOf kind []) → Q v H'
theorem sc_no : FnScope ["kind"] ["kind"] (defScope sNo) := ⟨rfl, rfl, rfl, by decide +kernel, rfl, by decide +kernel, by decide +kernel⟩
theorem sel_nil (kind : Str) : sel kind [] = [] := by
  unfold sel
  split
  · rfl
  split <;> rfl
theorem ok_no {f : Addr} {fd : FuncData} (F : Fun K "no_state" "no_state" sNo f fd) : FnOk P w K mg base CX0 1 f fd ["kind"] (spNo K) := by
  refine F.ok sc_no (fun vs H Q E h => ?_) (fun cdv A outer s H vs Q E hr h => ?_)
  · obtain ⟨kind, rfl, _⟩ := h
    rfl
  obtain ⟨kind, rfl, q⟩ := h
  refine ⟨_, pss_cons (ps_if (pt_cmpR op_in_seq (pv 0) (pe_tup (pa_cons pe_str (pa_cons pe_str pa_nil))) rfl) (pss_one (ps_ret pe_int)) (pss_nil))
      (pss_cons (ps_if (pt_cmpR op_eq (pv 0) pe_str (nomark _)) (pss_one (ps_ret (pe_tup (pa_cons pe_int (pa_cons pe_int pa_nil))))) (pss_nil))
      (pss_one (ps_ret (pe_tup pa_nil)))), ?_⟩
  refine ⟨_, rfl, z2, fun p hp => ?_⟩
  have s1 := same_upd (o := .tup [.str "count", .str "sum"]) hp
  unfold stOf at q
  refine ⟨p, _, rfl, .inr (SqT.of upd_same), rfl, rfl, _, rfl, in_strs (l := ["count", "sum"]) (fun h => ?_) (fun h => ?_)⟩
  · rw [if_pos h] at q
    refine q _ _ s1 ?_
    show V.int 0 = V.int (wrap (amt kind []))
    unfold amt
    split <;> rfl
  rw [if_neg h] at q
  refine ⟨_, rfl, rfl, _, rfl, ite2 (fun c => ?_) (fun c => ?_)⟩
  · rw [if_pos (of_decide_eq_true c)] at q
    exact ⟨z2, fun p2 hp2 => q _ _ (s1.trans (same_upd hp2)) ⟨p2, rfl, SqT.of upd_same⟩⟩
  rw [if_neg (fun e => c (decide_eq_true e)), show sd [] = [] from rfl, sel_nil] at q
  exact ⟨z0, fun p2 hp2 => q _ _ (s1.trans (same_upd hp2)) ⟨p2, rfl, SqT.of upd_same⟩⟩
/-! ### one_state -/
def spOne (K : PySem.W.Frag) : Sp := fun vs H Q _ => ∃ (kind : Str) (x : V) (k : L2.Key), vs = [.str kind, x] ∧ (V.str kind ≠ .str "count" → x = kV k ∧ (V.str kind = .str "sum" ∨ V.str kind = .str "mean" → ∃ i, k = .inl i ∧ In64 i)) ∧ ∀ v H', Same H H' → StAt K H' v (stOf kind [k]) → Q v H'
theorem sc_one : FnScope ["kind", "value"] ["kind", "value"] (defScope sOne) := ⟨rfl, rfl, rfl, by decide +kernel, rfl, by decide +kernel, by decide +kernel⟩
theorem sel_one (kind : Str) (k : L2.Key) : sel kind [k] = [k] := by
  unfold sel
  split
  · rfl
  split <;> rfl
theorem in_cs {kind : Str} (h : kind ∈ (["count", "sum"] : List Str)) : V.str kind = .str "count" ∨ V.str kind = .str "sum" := by
  simp only [List.mem_cons, List.not_mem_nil, or_false] at h
  rcases h with rfl | rfl
  · exact .inl rfl
  · exact .inr rfl
theorem str_eq {a b : Str} (h : V.str a = .str b) : a = b := by cases h; rfl
theorem cs_in {kind : Str} (h : V.str kind = .str "count" ∨ V.str kind = .str "sum") : kind ∈ (["count", "sum"] : List Str) := by
  rcases h with h | h
  · rw [str_eq h]
    exact List.mem_cons_self
  · rw [str_eq h]
    exact List.mem_cons_of_mem _ List.mem_cons_self
theorem st_num {kind : Str} {b : List L2.Key} (h : V.str kind = .str "count" ∨ V.str kind = .str "sum") : stOf kind b = .n (wrap (amt kind b)) := by
  unfold stOf
  rw [if_pos (cs_in h)]
theorem ok_one {f : Addr} {fd : FuncData} (F : Fun K "one_state" "one_state" sOne f fd) : FnOk P w K mg base CX0 1 f fd ["kind", "value"] (spOne K) := by
  refine F.ok sc_one (fun vs H Q E h => ?_) (fun cdv A outer s H vs Q E hr h => ?_)
  · obtain ⟨kind, x, k, rfl, _⟩ := h
    rfl
  obtain ⟨kind, x, k, rfl, hx, q⟩ := h
  refine ⟨_, pss_cons (ps_if (pt_cmpR op_eq (pv 0) pe_str (nomark _)) (pss_one (ps_ret pe_int)) (pss_nil))
      (pss_cons (ps_if (pt_cmpR op_eq (pv 0) pe_str (nomark _)) (pss_one (ps_ret (pv 1))) (pss_nil))
      (pss_cons (ps_if (pt_cmpR op_eq (pv 0) pe_str (nomark _)) (pss_one (ps_ret (pe_tup (pa_cons (pv 1) (pa_cons pe_int pa_nil))))) (pss_nil))
      (pss_one (ps_ret (pe_tup (pa_cons (pv 1) pa_nil)))))), ?_⟩
  refine ⟨_, rfl, rfl, _, rfl, ite2 (fun c => ?_) (fun c => ?_)⟩
  · have c' := of_decide_eq_true c
    rw [st_num (.inl c')] at q
    refine q _ _ (Same.refl _) ?_
    unfold amt
    rw [if_pos c']
    show V.int 1 = V.int (wrap ((1 : Nat) : Int))
    rw [show wrap ((1 : Nat) : Int) = 1 by decide]
  have c1 : V.str kind ≠ .str "count" := fun e => c (decide_eq_true e)
  obtain ⟨rfl, hi⟩ := hx c1
  refine ⟨_, rfl, rfl, _, rfl, ite2 (fun c => ?_) (fun c => ?_)⟩
  · have c' := of_decide_eq_true c
    rw [st_num (.inr c')] at q
    obtain ⟨i, rfl, h64⟩ := hi (.inl c')
    refine ⟨_, rfl, q _ _ (Same.refl _) ?_⟩
    unfold amt
    rw [if_neg c1]
    show V.int i = V.int (wrap (i + 0))
    rw [Int.add_zero, wrap_id h64]
  have c2 : V.str kind ≠ .str "sum" := fun e => c (decide_eq_true e)
  have hn : kind ∉ (["count", "sum"] : List Str) := fun h => (in_cs h).elim c1 c2
  unfold stOf at q
  rw [if_neg hn] at q
  refine ⟨_, rfl, rfl, _, rfl, ite2 (fun c => ?_) (fun c => ?_)⟩
  · have c' := of_decide_eq_true c
    rw [if_pos c'] at q
    obtain ⟨i, rfl, h64⟩ := hi (.inr c')
    have e : wrap (tot [Sum.inl i]) = i := by
      show wrap (i + 0) = i
      rw [Int.add_zero, wrap_id h64]
    rw [e] at q
    exact ⟨_, rfl, z2, fun p hp => q _ _ (same_upd hp) ⟨p, rfl, SqT.of upd_same⟩⟩
  rw [if_neg (fun e => c (decide_eq_true e)), show sd [k] = [k] from rfl, sel_one] at q
  exact ⟨_, rfl, z1, fun p hp => q _ _ (same_upd hp) ⟨p, rfl, SqT.of upd_same⟩⟩
end
end Kb

namespace Kb
open PySem PySem.Spec PyProof.Rows L2 Kx
section
variable {X : Cx}
/-- // of ints of any sign -/
theorem op_fdivA : OpR X (binaryOp .FloorDiv) (rI (fun _ j => j ≠ 0 ∧ j.natAbs.log2 < 9000) fun i j => .int (i.fdiv j)) := opI fun i j _ _ _ _ _ hc q =>
  floordiv_int hc.1 q (.inl (PyProof.noPylong_of_log2 hc.2))
end
theorem small_ok {n : Nat} (h0 : 0 < n) (h : n < 64) : ((n : Nat) : Int) ≠ 0 ∧ ((n : Nat) : Int).natAbs.log2 < 9000 := by
  refine ⟨by omega, ?_⟩
  have hj : ((n : Nat) : Int).natAbs < 2 ^ 64 := by omega
  exact Nat.lt_trans (PySem.Flt.log2_lt_of (by decide) hj) (by decide)
section
variable {P : Program} {w : World} {K : PySem.W.Frag} {mg : Str → Option Value} {base : Heap}
theorem tup0 {H : Hp} {a : Addr} {x y : V} {Q : VK} (h : SqT K H a [x, y]) (q : Q x H) : rIxT K (.ref a) (.int 0) H Q := ⟨a, _, 0, _, rfl, rfl, h, rfl, q⟩
theorem tup1 {H : Hp} {a : Addr} {x y : V} {Q : VK} (h : SqT K H a [x, y]) (q : Q y H) : rIxT K (.ref a) (.int 1) H Q := ⟨a, _, 1, _, rfl, rfl, h, rfl, q⟩
theorem st_mean {kind : Str} {b : List L2.Key} (hn : kind ∉ (["count", "sum"] : List Str)) (c : V.str kind = .str "mean") : stOf kind b = .m (wrap (tot b)) b.length := by
  unfold stOf
  rw [if_neg hn, if_pos c]
theorem st_ks {kind : Str} {b : List L2.Key} (hn : kind ∉ (["count", "sum"] : List Str)) (c : V.str kind ≠ .str "mean") : stOf kind b = .ks (sel kind (sd b)) := by
  unfold stOf
  rw [if_neg hn, if_neg c]
theorem st_n {kind : Str} {b : List L2.Key} (hn : kind ∈ (["count", "sum"] : List Str)) : stOf kind b = .n (wrap (amt kind b)) := by
  unfold stOf
  rw [if_pos hn]
/-! ### put_together -/
def spPut (K : PySem.W.Frag) : Sp := fun vs H Q _ => ∃ (kind : Str) (x y : V) (b c : List L2.Key), vs = [.str kind, x, y] ∧ StAt K H x (stOf kind b) ∧ StAt K H y (stOf kind c) ∧ Hom (b ++ c) ∧ (b ++ c).length < 64 ∧ ∀ v H', Same H H' → StAt K H' v (stOf kind (b ++ c)) → Q v H'
abbrev N_put : List Str := ["kind", "one", "other", "values"]
theorem sc_put : FnScope N_put ["kind", "one", "other"] (defScope sPut) := ⟨rfl, rfl, rfl, by decide +kernel, rfl, by decide +kernel, by decide +kernel⟩
theorem ok_put {f : Addr} {fd : FuncData} (F : Fun K "put_together" "put_together" sPut f fd) (m_sorted : mg "sorted" = none) (m_set : mg "set" = none) (m_tuple : mg "tuple" = none) (G_wrapped : Ready P w K mg base 1 "wrapped" ["number"] spWrap) :
    FnOk P w K mg base CX0 2 f fd ["kind", "one", "other"] (spPut K) := by
  refine F.ok sc_put (fun vs H Q E h => ?_) (fun cdv A outer s H vs Q E hr h => ?_)
  · obtain ⟨kind, x, y, b, c, rfl, _⟩ := h
    rfl
  obtain ⟨kind, x, y, b, c, rfl, hx, hy, hom, h64, q⟩ := h
  have nd := sc_put.nd
  refine ⟨_, pss_cons (ps_if (pt_cmpR op_in_seq (pv 0) (pe_tup (pa_cons pe_str (pa_cons pe_str pa_nil))) rfl) (pss_one (ps_ret (pe_fn (G_wrapped) (hr.mono (by decide)) (pa_cons (pe_op op_add (pv 1) (pv 2)) pa_nil)))) (pss_nil))
      (pss_cons (ps_if (pt_cmpR op_eq (pv 0) pe_str (nomark _)) (pss_one (ps_ret (pe_tup (pa_cons (pe_fn (G_wrapped) (hr.mono (by decide)) (pa_cons (pe_op op_add (pe_ix ix_tup (pv 1) pe_int (fun _ _ => rfl)) (pe_ix ix_tup (pv 2) pe_int (fun _ _ => rfl))) pa_nil)) (pa_cons (pe_op op_add (pe_ix ix_tup (pv 1) pe_int (fun _ _ => rfl)) (pe_ix ix_tup (pv 2) pe_int (fun _ _ => rfl))) pa_nil))))) (pss_nil))
      (pss_cons (ps_set (i := 3) nd rfl (.inl rfl) (pe_callB (Yk.cr_sortedK rfl) (by rfl) m_sorted boot_sorted (pa_cons (pe_callTy (Yk.cr_setK rfl) (by rfl) m_set PyProof.Rows.boot_set (pa_cons (pe_op op_catA (pv 1) (pv 2)) pa_nil)) pa_nil)))
      (pss_cons (ps_if (pt_cmpR op_eq (pv 0) pe_str (nomark _)) (pss_one (ps_ret (pe_callTy call_tuple_of (by rfl) m_tuple PyProof.Rows.boot_tuple (pa_cons (pe_slice sl_list (pv 3) po_none (po_some pe_int)) pa_nil)))) (pss_nil))
      (pss_cons (ps_if (pt_cmpR op_eq (pv 0) pe_str (nomark _)) (pss_one (ps_ret (pe_callTy call_tuple_of (by rfl) m_tuple PyProof.Rows.boot_tuple (pa_cons (pe_slice sl_list (pv 3) (po_some (pe_un un_neg pe_int)) po_none) pa_nil)))) (pss_nil))
      (pss_one (ps_ret (pe_callTy call_tuple_of (by rfl) m_tuple PyProof.Rows.boot_tuple (pa_cons (pv 3) pa_nil)))))))), ?_⟩
  refine ⟨_, rfl, z2, fun p hp => ?_⟩
  have s1 := same_upd (o := .tup [.str "count", .str "sum"]) hp
  refine ⟨p, _, rfl, .inr (SqT.of upd_same), rfl, rfl, _, rfl, in_strs (l := ["count", "sum"]) (fun h => ?_) (fun h => ?_)⟩
  · rw [st_n h] at hx hy q
    cases hx
    cases hy
    refine ⟨_, rfl, _, rfl, _, _, rfl, rfl, _, rfl, q _ _ s1 ?_⟩
    rw [wrap_add, amt_app]
    rfl
  replace hx := StAt.same s1 hx
  replace hy := StAt.same s1 hy
  refine ⟨_, rfl, rfl, _, rfl, ite2 (fun e => ?_) (fun e => ?_)⟩
  · have e' := of_decide_eq_true e
    rw [st_mean h e'] at hx hy q
    obtain ⟨a1, rfl, h1⟩ := hx
    obtain ⟨a2, rfl, h2⟩ := hy
    refine ⟨_, rfl, a1, _, 0, _, rfl, rfl, h1, rfl, _, rfl, a2, _, 0, _, rfl, rfl, h2, rfl, _, _, rfl, rfl, _, rfl, ?_⟩
    refine ⟨_, rfl, a1, _, 1, _, rfl, rfl, h1, rfl, _, rfl, a2, _, 1, _, rfl, rfl, h2, rfl, _, _, rfl, rfl, z2, fun p2 hp2 => q _ _ (s1.trans (same_upd hp2)) ⟨p2, rfl, ?_⟩⟩
    rw [wrap_add, tot_app, List.length_append]
    exact SqT.of (by rw [upd_same]; rfl)
  have e0 : V.str kind ≠ .str "mean" := fun z => e (decide_eq_true z)
  rw [st_ks h e0] at hx hy q
  obtain ⟨a1, rfl, h1⟩ := hx
  obtain ⟨a2, rfl, h2⟩ := hy
  have l1 := sel_sd_len kind b
  have l2 := sel_sd_len kind c
  rw [List.length_append] at h64
  have lz : 64 ≤ sizeLine := by decide
  refine ⟨_, rfl, _, rfl, cat_any h1 h2 (by rw [List.length_map, List.length_map]; omega) fun p2 H2 s2 t2 => ?_⟩
  rw [← List.map_append] at t2
  dsimp only [tNil]
  refine set_sorted (.inr t2) (hom_sub hom fun z hz => ?_) (by rw [List.length_append]; omega) fun p3 H3 s3 t3 => ?_
  · rcases List.mem_append.mp hz with hz | hz
    · exact List.mem_append_left _ (sel_sd_sub hz)
    · exact List.mem_append_right _ (sel_sd_sub hz)
  have S := s1.trans (s2.trans s3)
  have two := sel_two kind b c
  generalize sd (sel kind (sd b) ++ sel kind (sd c)) = L at t3 two
  rw [← two] at q
  unfold sel at q
  refine ⟨_, rfl, rfl, _, rfl, ite2 (fun e => ?_) (fun e => ?_)⟩
  · rw [if_pos (of_decide_eq_true e)] at q
    refine ⟨_, rfl, _, rfl, p3, _, rfl, SqL.of t3, fun p4 hp4 => ?_⟩
    rw [cut_first]
    refine ⟨p4, _, rfl, .inl ⟨SqL.of upd_same, fun p5 hp5 => q _ _ (S.trans ((same_upd hp4).trans (same_upd hp5))) ⟨p5, rfl, ?_⟩⟩⟩
    rw [List.map_take]
    exact SqT.of upd_same
  rw [if_neg (fun z => e (decide_eq_true z))] at q
  refine ⟨_, rfl, rfl, _, rfl, ite2 (fun e => ?_) (fun e => ?_)⟩
  · rw [if_pos (of_decide_eq_true e)] at q
    refine ⟨_, rfl, _, rfl, _, rfl, p3, _, rfl, SqL.of t3, fun p4 hp4 => ?_⟩
    rw [cut_last]
    refine ⟨p4, _, rfl, .inl ⟨SqL.of upd_same, fun p5 hp5 => q _ _ (S.trans ((same_upd hp4).trans (same_upd hp5))) ⟨p5, rfl, ?_⟩⟩⟩
    rw [List.length_map, ← List.map_drop]
    exact SqT.of upd_same
  rw [if_neg (fun z => e (decide_eq_true z))] at q
  exact ⟨_, rfl, p3, _, rfl, .inl ⟨SqL.of t3, fun p5 hp5 => q _ _ (S.trans (same_upd hp5)) ⟨p5, rfl, SqT.of upd_same⟩⟩⟩
end
end Kb

namespace Kb
open PySem PySem.Spec PyProof.Rows L2 Kx
def hdV : List L2.Key → V
  | k :: _ => kV k
  | [] => .non
/-- what a fold tells of a bag -/
def toldV (kind : Str) (b : List L2.Key) : V :=
  if kind ∈ (["count", "sum"] : List Str) then .int (wrap (amt kind b)) else if V.str kind = .str "mean" then .int ((wrap (tot b)).fdiv b.length) else if V.str kind = .str "unlike" then .int (sel kind (sd b)).length else hdV (sel kind (sd b))
section
variable {P : Program} {w : World} {K : PySem.W.Frag} {mg : Str → Option Value} {base : Heap}
theorem sel_ne {kind : Str} {b : List L2.Key} (h : b ≠ []) : ∃ k l, sel kind (sd b) = k :: l := by
  have h0 : sd b ≠ [] := by
    cases b with
    | nil => exact absurd rfl h
    | cons x r => exact List.ne_nil_of_mem (mem_sd.mpr (List.mem_cons_self (a := x) (l := r)))
  unfold sel
  split
  · obtain ⟨x, _, _, e⟩ := first_ex (asc_sd b) h0
    exact ⟨x, [], e⟩
  split
  · obtain ⟨x, _, _, e⟩ := last_ex (asc_sd b) h0
    exact ⟨x, [], e⟩
  · cases e : sd b with
    | nil => exact absurd e h0
    | cons x r => exact ⟨x, r, rfl⟩
theorem at0 {x : V} {xs : List V} : atI (x :: xs) 0 = some x := atI_nat (j := 0) rfl
/-! ### state_told -/
def spTold (K : PySem.W.Frag) : Sp := fun vs H Q _ => ∃ (kind : Str) (x : V) (b : List L2.Key), vs = [.str kind, x] ∧ StAt K H x (stOf kind b) ∧ b ≠ [] ∧ b.length < 64 ∧ ∀ H', Same H H' → Q (toldV kind b) H'
theorem sc_told : FnScope ["kind", "state"] ["kind", "state"] (defScope sTold) := ⟨rfl, rfl, rfl, by decide +kernel, rfl, by decide +kernel, by decide +kernel⟩
theorem ok_told {f : Addr} {fd : FuncData} (F : Fun K "state_told" "state_told" sTold f fd) (m_len : mg "len" = none) : FnOk P w K mg base CX0 1 f fd ["kind", "state"] (spTold K) := by
  refine F.ok sc_told (fun vs H Q E h => ?_) (fun cdv A outer s H vs Q E hr h => ?_)
  · obtain ⟨kind, x, b, rfl, _⟩ := h
    rfl
  obtain ⟨kind, x, b, rfl, hx, hb, h64, q⟩ := h
  have nd := sc_told.nd
  refine ⟨_, pss_cons (ps_if (pt_cmpR op_in_seq (pv 0) (pe_tup (pa_cons pe_str (pa_cons pe_str pa_nil))) rfl) (pss_one (ps_ret (pv 1))) (pss_nil))
      (pss_cons (ps_if (pt_cmpR op_eq (pv 0) pe_str (nomark _)) (pss_one (ps_ret (pe_op op_fdivA (pe_ix ix_tup (pv 1) pe_int (fun _ _ => rfl)) (pe_ix ix_tup (pv 1) pe_int (fun _ _ => rfl))))) (pss_nil))
      (pss_cons (ps_if (pt_cmpR op_eq (pv 0) pe_str (nomark _)) (pss_one (ps_ret (pe_callB call_len_seq (by rfl) m_len PySem.boot_len (pa_cons (pv 1) pa_nil)))) (pss_nil))
      (pss_one (ps_ret (pe_ix ix_tup (pv 1) pe_int (fun _ _ => rfl)))))), ?_⟩
  refine ⟨_, rfl, z2, fun p hp => ?_⟩
  have s1 := same_upd (o := .tup [.str "count", .str "sum"]) hp
  unfold toldV at q
  refine ⟨p, _, rfl, .inr (SqT.of upd_same), rfl, rfl, _, rfl, in_strs (l := ["count", "sum"]) (fun h => ?_) (fun h => ?_)⟩
  · rw [st_n h] at hx
    cases hx
    rw [if_pos h] at q
    exact ⟨_, rfl, q _ s1⟩
  rw [if_neg h] at q
  replace hx := StAt.same s1 hx
  refine ⟨_, rfl, rfl, _, rfl, ite2 (fun e => ?_) (fun e => ?_)⟩
  · have e' := of_decide_eq_true e
    rw [st_mean h e'] at hx
    rw [if_pos e'] at q
    obtain ⟨a1, rfl, h1⟩ := hx
    exact ⟨_, rfl, a1, _, 0, _, rfl, rfl, h1, rfl, _, rfl, a1, _, 1, _, rfl, rfl, h1, rfl, _, _, rfl, rfl, small_ok (List.length_pos_iff.mpr hb) h64, q _ s1⟩
  have e0 : V.str kind ≠ .str "mean" := fun z => e (decide_eq_true z)
  rw [st_ks h e0] at hx
  rw [if_neg e0] at q
  obtain ⟨a1, rfl, h1⟩ := hx
  refine ⟨_, rfl, rfl, _, rfl, ite2 (fun e => ?_) (fun e => ?_)⟩
  · rw [if_pos (of_decide_eq_true e)] at q
    refine ⟨_, rfl, a1, _, rfl, .inr h1, ?_⟩
    rw [List.length_map]
    exact q _ s1
  rw [if_neg (fun z => e (decide_eq_true z))] at q
  obtain ⟨k, l, ek⟩ := sel_ne (kind := kind) hb
  rw [ek] at h1 q
  exact ⟨_, rfl, a1, _, 0, _, rfl, rfl, h1, at0, q _ s1⟩
end
end Kb

set_option maxHeartbeats 2000000
/-! zip of a list and a tuple, told in L2: on KE's zip over iterators of any kind. -/
namespace Zm
open PySem PySem.Spec PyProof.Rows L2
/-- the list at a and the tuple at b, item by item in new pairs -/
def It2 (K : PySem.W.Frag) (a b : Addr) : It :=
  ⟨fun i H => ∃ (xs ys : List V) (x y : V), SqL K H a xs ∧ SqT K H b ys ∧ xs[i]? = some x ∧ ys[i]? = some y,
    fun i H v H' => ∃ T x y, v = .ref T ∧ H T = none ∧ H' = upd H T (.tup [x, y]) ∧ (∀ xs, SqL K H a xs → xs[i]? = some x) ∧ ∀ ys, SqT K H b ys → ys[i]? = some y,
    fun i H => ∃ xs ys : List V, SqL K H a xs ∧ SqT K H b ys ∧ i ≤ xs.length ∧ i ≤ ys.length ∧ (i = xs.length ∨ i = ys.length)⟩
structure Far (n : Addr) (a b : Addr) : Prop where
  a : a < n
  b : b < n
theorem ne_lt {a b : Addr} (h : (a : Nat) < b) : a ≠ b := Nat.ne_of_lt h
theorem ne_gt {a b : Addr} (h : (b : Nat) < a) : a ≠ b := Nat.ne_of_gt h
theorem notin {c a b : Addr} (h1 : c ≠ a) (h2 : c ≠ b) : c ∉ [a, b] := fun h => by
  rcases List.mem_cons.mp h with e | h
  · exact h1 e
  · exact h2 (List.mem_singleton.mp h)
theorem Far.sep {n a b : Addr} (F : Far n a b) : ZipSep2 (n + 4) (n + 2) (n + 3) n (n + 1) [n, a] [n + 1, b] := by
  have h1 : (a : Nat) < n := F.a
  have h2 : (b : Nat) < n := F.b
  have s (k m : Nat) (h : k < m) : ((n + k : Nat) : Nat) < (n + m : Nat) := Nat.add_lt_add_left h n
  have u (k : Nat) (h : 0 < k) : (n : Nat) < (n + k : Nat) := Nat.lt_add_of_pos_right h
  exact { TIz := ne_lt (s 2 4 (by decide)), TOz := ne_lt (s 3 4 (by decide)), TITO := ne_lt (s 2 3 (by decide)), TIi1 := ne_gt (u 2 (by decide)), mem1 := List.mem_cons_self
          zf1 := notin (ne_gt (u 4 (by decide))) (ne_gt (Nat.lt_trans h1 (u 4 (by decide)))), Tf1 := notin (ne_gt (u 3 (by decide))) (ne_gt (Nat.lt_trans h1 (u 3 (by decide))))
          TIi2 := ne_gt (s 1 2 (by decide)), mem2 := List.mem_cons_self, zf2 := notin (ne_gt (s 1 4 (by decide))) (ne_gt (Nat.lt_trans h2 (u 4 (by decide))))
          Tf2 := notin (ne_gt (s 1 3 (by decide))) (ne_gt (Nat.lt_trans h2 (u 3 (by decide)))), sep1_2 := notin (ne_lt (u 1 (by decide))) (ne_gt h2), sep2_1 := notin (ne_gt (u 1 (by decide))) (ne_gt (Nat.lt_trans h1 (u 1 (by decide)))) }
abbrev cells (n : Addr) : List Addr := [n + 4, n + 2, n + 3, n, n + 1]
theorem turn2 {P : Program} {w : World} {K : PySem.W.Frag} {elts : List Expr} {kk : Nat} {tpos : Pos} {a b n : Addr} (F : Far n a b) :
    Turn P w K (.Tuple elts kk tpos) (It2 K a b) (cells n) (n + 4) (fun i h => IsZip h (n + 4) (n + 2) (n + 3) .none ∧ IsTupOf2 h (n + 2) (.ref n) (.ref (n + 1)) ∧ (∃ x y, IsTupOf2 h (n + 3) x y) ∧ h.IsListIter n a i ∧ h.IsTupleIter (n + 1) b i) where
  mem := by simp
  obj := fun i h ⟨hz, hT, ⟨x, y, hO⟩, ⟨o1, e1, _, d1⟩, ⟨o2, e2, _, d2⟩⟩ c hc => by
    have e' : c = n + 4 ∨ c = n + 2 ∨ c = n + 3 ∨ c = n ∨ c = n + 1 := by simpa using hc
    rcases e' with rfl | rfl | rfl | rfl | rfl
    · exact ⟨_, hz, fun v q => nomatch q⟩
    · exact ⟨_, hT, fun v q => nomatch q⟩
    · exact ⟨_, hO, fun v q => nomatch q⟩
    · exact ⟨_, e1, fun v q => by rw [d1] at q; cases q⟩
    · exact ⟨_, e2, fun v q => by rw [d2] at q; cases q⟩
  keep := fun i h h' ⟨hz, hT, ⟨x, y, hO⟩, h1, h2⟩ k => ⟨k _ (by simp) _ hz, k _ (by simp) _ hT, ⟨x, y, k _ (by simp) _ hO⟩, h1.at fun o q => k _ (by simp) o q, h2.at fun o q => k _ (by simp) o q⟩
  item := by
    intro X hP hw hK hc i pins s σ H E I hf ⟨hz, hT, ⟨x0, y0, hO⟩, h1, h2⟩ ⟨xs, ys, x, y, hqx, hqy, hx, hy⟩
    subst hP hw hK
    obtain ⟨its, rv, p, _⟩ := I.list hqx
    obtain ⟨its2, rv2, p2, _⟩ := I.tuple hqy
    obtain ⟨u, hu, ru⟩ := rv.get hx
    obtain ⟨u2, hu2, ru2⟩ := rv2.get hy
    have hh := I.ok.hd hc
    have S := F.sep
    have l1 : i < its.toArray.size := by
      have := (List.getElem?_eq_some_iff.mp hu).1
      simpa using this
    have l2 : i < its2.toArray.size := by
      have := (List.getElem?_eq_some_iff.mp hu2).1
      simpa using this
    refine wpAny_pyNext_zipD2_item S (Draws.list (A := X.A.in1) hh n a (Nat.ne_of_lt F.a) its.toArray) (Draws.tuple (A := X.A.in1) hh (n + 1) b (Nat.ne_of_lt (Nat.lt_succ_of_lt F.b)) its2.toArray) hz hT hO ⟨h1, p.isList⟩ ⟨h2, p2⟩ l1 l2 fun x1 x2 h' tk e1 e2 hz' hO' s1 s2 hN hsz hk => ?_
    obtain rfl : u = x1 := Option.some.inj ((show its.toArray[i]? = some u by simpa using hu).symm.trans e1)
    obtain rfl : u2 = x2 := Option.some.inj ((show its2.toArray[i]? = some u2 by simpa using hu2).symm.trans e2)
    have lt : ∀ {c o}, s.heap.get? c = some o → c < s.heap.objs.size := fun e => Heap.lt_size e
    have hzl := lt hz
    refine ⟨_, rfl, wpAny_letOwnedTupleGo_zip (s := { s with heap := h', toks := tk }) hz' fun h'' z'' sb => ?_⟩
    have hT2 : h''.get? s.heap.objs.size = some { cls := .type "tuple", data := .seq #[u, u2] } := (sb.2 _ (Nat.ne_of_gt hzl)).trans hN
    have new : ObjOk X.prog X.w (upd H s.heap.objs.size (.tup [x, y])) h'' s.heap.objs.size (.tup [x, y]) :=
      ⟨by show 2 ≤ sizeLine; decide, [u, u2], .cons ru (.cons ru2 .nil), ⟨_, hT2, rfl, _, rfl⟩⟩
    have I1 : Inv X pins σ (upd H s.heap.objs.size (.tup [x, y])) { s with heap := h'', toks := tk } :=
      I.turnedNew (t' := tk) (ch := cells n) (fun c o hb q => (sb.2 c (fun q' => hb (by simp [q']))).trans (hk c o (fun q' => hb (by simp [q'])) (fun q' => hb (by simp [q'])) (fun q' => hb (by simp [q'])) (fun q' => hb (by simp [q'])) q)) hf (Nat.le_refl _) new
    refine ⟨.ref s.heap.objs.size, _, I1, rfl, ⟨_, x, y, rfl, I.hok.fresh (Nat.le_refl _), rfl, fun l hl => by rw [I.list_inj hl hqx]; exact hx, fun l hl => by rw [I.tuple_inj hl hqy]; exact hy⟩, ⟨z'', ?_, ⟨u, u2, ?_⟩, ?_, ?_⟩, fun c hcm => ?_⟩
    · exact (sb.2 _ S.TIz).trans (hk _ _ S.TIz S.TITO S.TIi1 S.TIi2 hT)
    · exact (sb.2 _ S.TOz).trans hO'
    · exact s1.1.at fun o q => (sb.2 _ S.zi1.symm).trans q
    · exact s2.1.at fun o q => (sb.2 _ S.zi2.symm).trans q
    · have hlt : c < s.heap.objs.size := by
        have e' : c = n + 4 ∨ c = n + 2 ∨ c = n + 3 ∨ c = n ∨ c = n + 1 := by simpa using hcm
        rcases e' with rfl | rfl | rfl | rfl | rfl
        · exact hzl
        · exact lt hT
        · exact lt hO
        · obtain ⟨_, e1, _⟩ := h1; exact lt e1
        · obtain ⟨_, e2, _⟩ := h2; exact lt e2
      rw [upd_ne (Nat.ne_of_lt hlt)]
      exact (hf c hcm).1
  done := by
    intro X hP hw hK hc i pins s σ H E I hf ⟨hz, hT, ⟨x0, y0, hO⟩, h1, h2⟩ ⟨xs, ys, hqx, hqy, le1, le2, hend⟩
    subst hP hw hK
    obtain ⟨its, rv, p, _⟩ := I.list hqx
    obtain ⟨its2, rv2, p2, _⟩ := I.tuple hqy
    have hh := I.ok.hd hc
    have S := F.sep
    have q1 : its.toArray.size = xs.length := by rw [List.size_toArray, ← rv.length]
    have q2 : its2.toArray.size = ys.length := by rw [List.size_toArray, ← rv2.length]
    refine wpAny_pyNext_zipD2_end S (Draws.list (A := X.A.in1) hh n a (Nat.ne_of_lt F.a) its.toArray) (Draws.tuple (A := X.A.in1) hh (n + 1) b (Nat.ne_of_lt (Nat.lt_succ_of_lt F.b)) its2.toArray) hz hT hO ⟨h1, p.isList⟩ ⟨h2, p2⟩ (by rw [q1]; exact le1) (by rw [q2]; exact le2) (by rw [q1, q2]; exact hend) fun h' tk hk => ⟨rfl, I.turnedL (t' := tk) (ch := cells n) (fun c o hb q =>
      hk c o (fun q' => hb (by simp [q'])) (fun q' => hb (by simp [q'])) (fun q' => hb (by simp [q'])) (fun q' => hb (by simp [q'])) q) hf⟩
  self := fun A i s Q E st h => wpAny_pyIter_zip st.1 h
def iZip2 (K : PySem.W.Frag) (ta : TA) : TI := fun σ H R => ta σ H fun vs H1 => ∃ a b xs ys, vs = [.ref a, .ref b] ∧ SqL K H1 a xs ∧ SqT K H1 b ys ∧ R (It2 K a b) H1
theorem pi_zip2 {X : Cx} {e e2 : Expr} {ta : TA} {p pos tpos : Pos} {elts : List Expr} {kk : Nat} (hg : Gl X "zip") (hm : X.mg "zip" = none) (ha : PA X [e, e2] ta)
    (hs : starEach [e, e2] X.env = (false, eval e X.env) :: starEach [e2] X.env := by rfl) (hpl : (backTo pos (starEach [e2] X.env)).any (·.1) = false := by rfl) :
    PI X (.Tuple elts kk tpos) (.Call (.Name "zip" p) [e, e2] [] pos) (iZip2 X.K ta) := by
  refine ⟨fun pins s σ H R I h => ?_⟩
  refine Call_ (ld_blt I hg hm PyProof.Rows.boot_zip (PyProof.Rows.callWith_type1 (thn (ha.run pos pins s σ H _ I h) fun us s1 ⟨vs, H1, I1, r1, q1⟩ => ?_) hs hpl))
  obtain ⟨a, b, xs, ys, rfl, hqx, hqy, q⟩ := q1
  cases r1 with
  | cons r rr =>
    cases rr with
    | cons r' rr =>
      cases rr
      cases r
      cases r'
      obtain ⟨its, rv, p1, _⟩ := I1.list hqx
      obtain ⟨its2, rv2, p2, _⟩ := I1.tuple hqy
      have F : Far s1.heap.objs.size a b := ⟨p1.lt, by obtain ⟨_, e, _⟩ := id p2; exact Heap.lt_size e⟩
      refine zip_begins2 (begins_list a its.toArray) (begins_tuple b its2.toArray) p1.isList p2 fun h' hz hT hO h1 h2 hsz hk => wpAny_pyIter_zip hz ?_
      have I2 : Inv X pins σ H1 { s1 with heap := h' } := I1.kept (t' := s1.toks) hk
      refine ⟨s1.heap.objs.size + 4, cells s1.heap.objs.size, _, _, H1, rfl, I2, turn2 F, ⟨hz, hT, ⟨_, _, hO⟩, ⟨_, h1, rfl, rfl⟩, ⟨_, h2, rfl, rfl⟩⟩, fun c hcm => ?_, q⟩
      have hle : s1.heap.objs.size ≤ c := by
        have e' : c = s1.heap.objs.size + 4 ∨ c = s1.heap.objs.size + 2 ∨ c = s1.heap.objs.size + 3 ∨ c = s1.heap.objs.size ∨ c = s1.heap.objs.size + 1 := by simpa using hcm
        rcases e' with z | z | z | z | z <;> rw [z]
        · exact Nat.le_add_right _ _
        · exact Nat.le_add_right _ _
        · exact Nat.le_add_right _ _
        · exact Nat.le_refl _
        · exact Nat.le_add_right _ _
      exact I1.fpOk hle (I1.hok.fresh hle)
/-- a loop over zip of a list and a tuple of one length -/
theorem for_zip2 {K : PySem.W.Frag} {a b : Addr} {xs ys : List V} {g : TG} {tb : TS} {D : Ends} {σ : L2.St} {H : Hp} (hl : xs.length = ys.length) (Pv : Nat → L2.St → Hp → Prop) (h0 : Pv 0 σ H) (hq : ∀ i σ H, Pv i σ H → SqL K H a xs ∧ SqT K H b ys)
    (hs : ∀ (i : Nat) (x y : V) (T : Addr) (σ : L2.St) (H : Hp), xs[i]? = some x → ys[i]? = some y → Pv i σ H → H T = none → g (.ref T) σ (upd H T (.tup [x, y])) fun σ2 H2 => tb { D with nx := Pv (i + 1), ct := Pv (i + 1), bk := D.nx } σ2 H2) (hd : ∀ σ H, Pv xs.length σ H → D.nx σ H) :
    ∃ W : Nat → Nat → L2.St → Hp → Prop, (∃ m, W 0 m σ H) ∧ ∀ i m σ H, W i m σ H →
      ((It2 K a b).stop i H ∧ D.nx σ H) ∨ ((It2 K a b).go i H ∧ ∃ N : L2.St → Hp → Prop, (∀ σ' H', N σ' H' → ∃ m', m' < m ∧ W (i + 1) m' σ' H') ∧ ∀ v H', (It2 K a b).yld i H v H' → g v σ H' fun σ2 H2 => tb { D with nx := N, ct := N, bk := D.nx } σ2 H2) := by
  refine ⟨fun i m σ H => m = xs.length - i ∧ i ≤ xs.length ∧ Pv i σ H, ⟨xs.length, rfl, Nat.zero_le _, h0⟩, ?_⟩
  rintro i m σ H ⟨rfl, hi, p⟩
  obtain ⟨qx, qy⟩ := hq i σ H p
  rcases Nat.lt_or_eq_of_le hi with lt | rfl
  · refine .inr ⟨⟨xs, ys, _, _, qx, qy, List.getElem?_eq_getElem lt, List.getElem?_eq_getElem (hl ▸ lt)⟩, Pv (i + 1), fun σ' H' p' => ⟨xs.length - (i + 1), by omega, rfl, lt, p'⟩, fun v H' y => ?_⟩
    obtain ⟨T, x', y', rfl, hT, rfl, f1, f2⟩ := y
    exact hs i x' y' T σ H (f1 xs qx) (f2 ys qy) p hT
  · exact .inl ⟨⟨xs, ys, qx, qy, Nat.le_refl _, Nat.le_of_eq hl, .inl rfl⟩, hd σ H p⟩
end Zm

/-! DI: dicts with tuple keys: their items walked, setdefault. -/
namespace Di
open PySem PySem.Spec PyProof.Rows L2
section
variable {X : Cx} {pins : List (Addr × Obj)} {σ : L2.St} {H : Hp} {s : Shared} {d : Addr} {o : Obj}
theorem frz_all {kvs : List (List L2.Key × V)} (I : Inv X pins σ H s) (h : H d = some (.frz o (.dT kvs))) :
    (d == sysModules) = false ∧ ∃ (es : Array DictEntry) (ep : Nat), o.data = .dict es ep ∧ DT.Raw s.heap d es ep ∧ es.size = kvs.length ∧
      ∀ (i : Nat) (k : List L2.Key) (v : V), kvs[i]? = some (k, v) → ∃ (en : DictEntry) (q : Addr), es[i]? = some en ∧ en.key = .ref q ∧ H q = some (.tup (k.map kV)) ∧ RelV v en.val := by
  obtain ⟨hd, z, hs, xs, pr, o', es, ep, ho, hx, hdt, he, _⟩ := I.hok d _ h
  rw [hd] at ho
  cases ho
  refine ⟨hs, es, ep, hdt, ⟨_, hd, hx, hdt⟩, ?_, fun i k v e => ?_⟩
  · have l1 : es.size = xs.length := size_of_entries he
    have l2 : kvs.length = xs.length := Paired.length pr
    omega
  · obtain ⟨b, hb, e1, e2, e3⟩ := paired_get pr e
    have q := entry_at he i
    rw [hb] at q
    exact ⟨_, b.2.1, q, rfl, e2, e3⟩
end
/-- the pairs, each a new tuple -/
def ItT (d : Addr) (o : Obj) (kvs : List (List L2.Key × V)) : It :=
  ⟨fun i H => H d = some (.frz o (.dT kvs)) ∧ i < kvs.length, fun i H x H' => ∃ T k v q, kvs[i]? = some (k, v) ∧ x = .ref T ∧ H q = some (.tup (k.map kV)) ∧ H T = none ∧ H' = upd H T (.tup [.ref q, v]), fun i H => H d = some (.frz o (.dT kvs)) ∧ kvs.length ≤ i⟩
section
variable {P : Program} {w : World} {K : PySem.W.Frag} {d : Addr} {o : Obj} {es : Array DictEntry} {ep : Nat}
theorem turn_itT {kvs : List (List L2.Key × V)} {elts : List Expr} {kk : Nat} {tpos : Pos} (it : Addr) (hod : o.data = .dict es ep) :
    Turn P w K (.Tuple elts kk tpos) (ItT d o kvs) [it] it (fun i h => ∃ ok ov, IsItemIter h it d i kvs.length ep ok ov) where
  mem := by simp
  obj := fun i h st b hb => by
    obtain rfl : b = it := by simpa using hb
    obtain ⟨ok, ov, e⟩ := st
    exact ⟨_, e, fun v z => nomatch z⟩
  keep := fun i h h' st k => let ⟨ok, ov, e⟩ := st; ⟨ok, ov, k it (by simp) _ e⟩
  item := by
    intro X hP hw hK hc i pins s σ H E I hf st hg
    subst hP hw hK
    obtain ⟨hd, hi⟩ := hg
    obtain ⟨hs, es', ep', hdt, hraw, hsz, ent⟩ := frz_all I hd
    obtain ⟨rfl, rfl⟩ := dict_ep hod hdt
    obtain ⟨⟨k, v⟩, hkv⟩ : ∃ p, kvs[i]? = some p := ⟨kvs[i], List.getElem?_eq_getElem hi⟩
    obtain ⟨en, q, hen, hkey, hq, rv⟩ := ent i k v hkv
    obtain ⟨ok, ov, he⟩ := st
    rw [← hsz] at he
    have hi2 : i < es'.size := by rw [hsz]; exact hi
    have een : es'[i] = en := by
      have z := Array.getElem?_eq_getElem hi2
      rw [hen] at z
      exact (Option.some.inj z).symm
    have hlt : it < s.heap.objs.size := Heap.lt_size he
    refine DT.nextI he hraw hi2 fun h' ho hT hz hk => ?_
    rw [een] at ho hT
    refine ⟨_, rfl, wpAny_letOwnedTupleGo_items (s := { s with heap := h' }) ho fun h'' he' sb => ?_⟩
    have hT2 : h''.get? s.heap.objs.size = some { cls := .type "tuple", data := .seq #[en.key, en.val] } := (sb.2 _ (Nat.ne_of_gt hlt)).trans hT
    have new : ObjOk X.prog X.w (upd H s.heap.objs.size (.tup [.ref q, v])) h'' s.heap.objs.size (.tup [.ref q, v]) :=
      ⟨by show 2 ≤ sizeLine; decide, [en.key, en.val], .cons hkey (.cons rv .nil), ⟨_, hT2, rfl, _, rfl⟩⟩
    have I1 : Inv X pins σ (upd H s.heap.objs.size (.tup [.ref q, v])) { s with heap := h'' } :=
      I.turnedNew (t' := s.toks) (ch := [it]) (fun b ob hb e => (sb.2 b (by simpa using hb)).trans (hk b ob (by simpa using hb) e)) hf (Nat.le_refl _) new
    refine ⟨.ref s.heap.objs.size, _, I1, rfl, ⟨_, k, v, q, hkv, rfl, hq, I.hok.fresh (Nat.le_refl _), rfl⟩, ⟨en.key, en.val, ?_⟩, fun b hb => ?_⟩
    · rw [← hsz]; exact he'
    · obtain rfl : b = it := by simpa using hb
      rw [upd_ne (Nat.ne_of_lt hlt)]
      exact (hf b (by simp)).1
  done := by
    intro X hP hw hK hc i pins s σ H E I hf st hg
    subst hP hw hK
    obtain ⟨hd, hi⟩ := hg
    obtain ⟨f0, f1, f2, f3, f4, f5⟩ := hf it (by simp)
    obtain ⟨hs, es', ep', hdt, hraw, hsz, ent⟩ := frz_all I hd
    obtain ⟨rfl, rfl⟩ := dict_ep hod hdt
    obtain ⟨ok, ov, he⟩ := st
    rw [← hsz] at he
    exact DT.endI (I.ok.hd hc) he hraw (by rw [hsz]; exact hi) fun h' eb => ⟨rfl, I.turned (t' := s.toks) (fun b ob hb e => eb b ob hb e) f0 f1 f3 f4 f5⟩
  self := fun A i s Q E st h => let ⟨_, _, e⟩ := st; PySem.W.kcp_self e h
end
/-- for .. in d.items(); from there on d stands locked -/
def iItT (td : TE) : TI := fun σ H R => td σ H fun x H1 => ∃ d kvs, x = .ref d ∧ H1 d = some (.dT kvs) ∧ ∀ od, R (ItT d od kvs) (upd H1 d (.frz od (.dT kvs)))
section
variable {X : Cx} {tg e : Expr} {td : TE} {apos cpos : Pos}
theorem pi_itT {elts : List Expr} {kk : Nat} {tpos : Pos} (he : PE X e td) (hbase : attributeBase e "items" X.env (eval e X.env) = eval e X.env := by rfl) (hline : (apos.endLine == cpos.line) = true := by rfl) :
    PI X (.Tuple elts kk tpos) (.Call (.Attribute e "items" apos) [] [] cpos) (iItT td) := by
  refine ⟨fun pins s σ H R I h => ?_⟩
  refine wpAny_Call_method (T := "dict") (id := "dict.items") hbase rfl hline PySem.F.plainAttrs_dict PySem.F.slot_dict_items PySem.F.type_dict_items (thn (he.run pins s σ H _ I h) fun u s1 ⟨x, H0, I0, rx, d, kvs, ex, hd0, q⟩ => ?_)
  subst ex
  obtain rfl : u = Value.ref d := rx
  obtain ⟨od, I1⟩ := I0.lock hd0 trivial
  have hd : upd H0 d (.frz od (.dT kvs)) d = some (.frz od (.dT kvs)) := upd_same
  replace q := q od
  generalize upd H0 d (.frz od (.dT kvs)) = H1 at I1 hd q
  obtain ⟨hs, es, ep, hdt, hraw, hsz, ent⟩ := frz_all I1 hd
  obtain ⟨oo, g1, g2, g3⟩ := id hraw
  refine ⟨hraw.typeIs, fun y hy => by
    cases hy
    exact ⟨oo, g1, g2.2.1⟩, ?_⟩
  have I2 : Inv X pins σ H1 { s1 with heap := s1.heap.push { cls := .type "dict_items", data := .fields #[.ref d] } } := I1.kept (t' := s1.toks) fun b ob q => Heap.get?_push_of_some _ q
  have fin : wpAny (model X.prog X.w) X.A (pyIter (.ref s1.heap.objs.size)) (PIE X pins σ (.Tuple elts kk tpos) R) X.xe { s1 with heap := s1.heap.push { cls := .type "dict_items", data := .fields #[.ref d] } } := by
    refine DT.iterI (d := d) (es := es) (ep := ep) ⟨_, Heap.get?_push_size _ rfl, rfl, rfl⟩ (hraw.push _) (pi_one (tk := s1.toks) I2 _ (turn_itT _ hdt) ⟨.none, .none, ?_⟩ q)
    rw [← hsz]
    exact Heap.get?_push_size _ rfl
  show wpAny _ _ (callWith cpos (.builtin "dict.items") [.ref d] [] []) _ X.xe s1
  exact method_meetsIn PySem.F.slot_dict_items PySem.F.entry_dict_items rfl (PySem.evalArgs_none ⟨rfl, hraw.typeIs, PySem.F.args_dict_items_1 _, _, DT.meetsItems (es := es) (ep := ep) hs, hraw, fin⟩)
/-- how the walk goes -/
theorem walk_itT {d : Addr} {o : Obj} {kvs : List (List L2.Key × V)} : Walk (ItT d o kvs) kvs.length (fun H => H d = some (.frz o (.dT kvs))) (fun i H x H' => ∃ T k v q, kvs[i]? = some (k, v) ∧ x = .ref T ∧ H q = some (.tup (k.map kV)) ∧ H T = none ∧ H' = upd H T (.tup [.ref q, v])) where
  goes := fun i H hi h => ⟨h, hi⟩
  stops := fun H h => ⟨h, Nat.le_refl _⟩
  yields := fun i H x H' hi h y => y
/-- d.setdefault(k, x), k a tuple -/
def tSetdT (td ty tx : TE) : TE := fun σ H Q => td σ H fun x H1 => ∃ a, x = .ref a ∧ IsD H1 a ∧ ty σ H1 fun y H2 => tx σ H2 fun z H3 => ∃ (kvs : List (List L2.Key × V)) (k : List L2.Key) (b : Addr), H3 a = some (.dT kvs) ∧ y = .ref b ∧ H3 b = some (.tup (k.map kV)) ∧ kvs.length < sizeLine ∧
  (∀ v, valV kvs k = some v → Q v H3) ∧ (valV kvs k = none → Q z (upd H3 a (.dT (putK kvs k z))))
end
section
variable {X : Cx} {pins : List (Addr × Obj)} {σ : L2.St} {H : Hp} {s : Shared} {a b : Addr} {x : V} {r : Value} {A : Around} {E : Value → Shared → Prop}
theorem d_setdT {kvs : List (List L2.Key × V)} {k : List L2.Key} {Q : Value → Shared → Prop} (hu : A.units + 1 < cLine) (I : Inv X pins σ H s) (e : H a = some (.dT kvs)) (eb : H b = some (.tup (k.map kV))) (rv : RelV x r) (l : kvs.length < sizeLine)
    (h1 : ∀ v, valV kvs k = some v → ∀ (w' : Value) (s' : Shared), Inv X pins σ H s' → RelV v w' → Q w' s') (h2 : valV kvs k = none → ∀ (s' : Shared), Inv X pins σ (upd H a (.dT (putK kvs k x))) s' → Q r s') :
    wpAny (model X.prog X.w) A (call (.builtin "dict.setdefault") [.ref a, .ref b, r]) Q E s := by
  obtain ⟨z, hd, xs, rel, dd⟩ := dt_of I.hok e
  have hz : xs.length ≤ sizeLine := by rw [← Paired.length rel]; exact z
  have hl : (putK kvs k x).length ≤ sizeLine := by have := length_putK kvs k x; omega
  refine call_setdefault_heap (hsz := hz) (tupleKind_room_in1 hu) (key_of I.hok eb) hd dd (fun p hp => ?_) fun hn h' dd' hs => ?_
  · have q := rel.val k
    rw [hp] at q
    cases q0 : valV kvs k with
    | none =>
      rw [q0] at q
      exact (show False from q).elim
    | some v0 =>
      rw [q0] at q
      exact h1 v0 q0 _ _ (I.tok _) q
  · have q := rel.val k
    rw [hn] at q
    cases q0 : valV kvs k with
    | some v0 =>
      rw [q0] at q
      exact (show False from q).elim
    | none =>
      refine h2 q0 _ ?_
      obtain ⟨o, es, ep, hq, g2, g3, g4, _, g5⟩ := dd'
      refine d_write I (by rw [e]; exact True.intro) hs ⟨o, hq⟩ ⟨hl, hd, _, (rel.put k eb rv).keeps fun c ys ec => ?_, o, es, ep, hq, g2, g3, g4, g5⟩
      rw [upd_ne (ne_of ec e (fun z => nomatch z))]
      exact ec
end
section
variable {X : Cx} {o e f : Expr} {apos cpos : Pos} {td ty tx : TE}
theorem pe_setdT (hu : X.A.units + 1 < cLine) (ho : PE X o td) (he : PE X e ty) (hf : PE X f tx) (m : M2 X o "setdefault" apos e f cpos) : PE X (.Call (.Attribute o "setdefault" apos) [e, f] [] cpos) (tSetdT td ty tx) := by
  refine ⟨fun pins s σ H Q I h => ?_⟩
  refine wpAny_Call_method m.base m.few m.line PySem.F.plainAttrs_dict PySem.F.slot_dict_setdefault PySem.F.type_dict_setdefault (thn (ho.run pins s σ H _ I h) fun u s1 ⟨x, H1, I1, rx, a, ex, d, q1⟩ => ?_)
  subst ex
  obtain rfl : u = Value.ref a := rx
  obtain ⟨t1, t2, _⟩ := isD_at I1 d
  refine ⟨t1, t2, ?_⟩
  rw [m.trees]
  refine Calls.callWith_builtin rfl (Calls.evalArgs_plain (Calls.spliced_cons (thn (he.run pins s1 σ H1 _ I1 q1) fun iv s2 ⟨y, H2, I2, ry, q2⟩ =>
    Calls.spliced_cons (thn (hf.run pins s2 σ H2 _ I2 q2) fun fv s3 ⟨z, H3, I3, rz, kvs, k, b, ea, ey, eb, hl, q3, q4⟩ => Calls.spliced_nil ?_))))
  subst ey
  obtain rfl : iv = Value.ref b := ry
  exact d_setdT hu I3 ea eb rz hl (fun v hv w' s4 I4 rw' => ⟨v, _, I4, rw', q3 v hv⟩) fun hn s4 I4 => ⟨z, _, I4, rz, q4 hn⟩
end
end Di

namespace Kx
open PySem PySem.Spec PyProof.Rows L2
abbrev s_with_row : Stmt := topS 24
/-! ### the states of folds -/
/-- what a fold takes of a row -/
def fvK (cs : List NC) (r : Row) (m : FC) : L2.Key := match m.2.1 with
  | none => .inl 0
  | some e => worthK cs r e
def StsAt (K : PySem.W.Frag) (H : Hp) (sv : List V) (fs : List FC) (bs : List (List L2.Key)) : Prop := sv.length = fs.length ∧ bs.length = fs.length ∧ ∀ (i : Nat) (v : V) (m : FC) (b : List L2.Key), sv[i]? = some v → fs[i]? = some m → bs[i]? = some b → Kb.StAt K H v (Kb.stOf m.1 b)
/-- the folds of a step in the heap, as its detail has them -/
def FldsAt (K : PySem.W.Frag) (H : Hp) (fa : Addr) (as : List (Addr × FC)) : Prop := SqT K H fa (as.map fun p => .ref p.1) ∧ ∀ p ∈ as, ∃ told, H p.1 = some (.tup [.str p.2.1, told, .str p.2.2.2.2]) ∧ FTo H told p.2.2.1
theorem FldsAt.same {K : PySem.W.Frag} {H H' : Hp} (s : Same H H') {fa : Addr} {as : List (Addr × FC)} (h : FldsAt K H fa as) : FldsAt K H' fa as :=
  ⟨seqT_same s h.1, fun p hp => let ⟨told, a, b⟩ := h.2 p hp; ⟨told, s _ _ a, by
    cases e : p.2.2.1 with
    | none => rw [e] at b; exact b
    | some x => rw [e] at b; exact ExAt.keep (fun c ys z => s _ _ z) b⟩⟩
theorem StsAt.same {K : PySem.W.Frag} {H H' : Hp} (s : Same H H') {sv : List V} {fs : List FC} {bs : List (List L2.Key)} (h : StsAt K H sv fs bs) : StsAt K H' sv fs bs :=
  ⟨h.1, h.2.1, fun i v m b a c d => (h.2.2 i v m b a c d).same s⟩
def KindIs (k : Bool) (z : L2.Key) : Prop := z.isLeft = k
theorem hom_of : ∀ {b : List L2.Key} {k : Bool}, (∀ z ∈ b, KindIs k z) → Kb.Hom b
  | b, true, h => .inl ⟨b.map Kb.toI, by
    rw [List.map_map]
    conv => lhs; rw [← List.map_id b]
    refine List.map_congr_left fun z hz => ?_
    have := h z hz
    cases z with
    | inl i => rfl
    | inr x => cases this⟩
  | b, false, h => .inr ⟨b.map fun z => match z with | .inr x => x | .inl _ => "", by
    rw [List.map_map]
    conv => lhs; rw [← List.map_id b]
    refine List.map_congr_left fun z hz => ?_
    have := h z hz
    cases z with
    | inl i => cases this
    | inr x => rfl⟩
theorem fits_kind {b : Bool} {z : L2.Key} (h : Fits b (kV z)) : KindIs b z := by
  cases b with
  | true =>
    obtain ⟨i, e, _⟩ := h
    cases z with
    | inl j => rfl
    | inr x => cases e
  | false =>
    obtain ⟨x, e, _⟩ := h
    cases z with
    | inl j => cases e
    | inr x => rfl
theorem fvK_kind {cs : List NC} {r : Row} {m : FC} (h : RowT cs r) (nd : (cs.map (·.1)).Nodup) (f : FOk cs m) : KindIs m.2.2.1 (fvK cs r m) ∧ (V.str m.1 ≠ .str "count" → m.2.1 ≠ none) ∧ (V.str m.1 = .str "sum" ∨ V.str m.1 = .str "mean" → ∃ i, fvK cs r m = .inl i ∧ Kb.In64 i) := by
  obtain ⟨_, f2⟩ := f
  unfold fvK
  cases e : m.2.1 with
  | none =>
    rw [e] at f2
    refine ⟨by rw [f2.2]; rfl, fun n => absurd (by rw [f2.1]) n, fun _ => ⟨0, rfl, by unfold Kb.In64; decide⟩⟩
  | some x =>
    rw [e] at f2
    have w := worthK_fits h nd f2.2.1
    refine ⟨fits_kind w.1, ⟨fun _ z => (by cases z), fun hs => ?_⟩⟩
    have hk : m.2.2.1 = true := f2.2.2.2 fun hm => by
      have hm' : m.1 = "least" ∨ m.1 = "unlike" ∨ m.1 = "greatest" := by simpa using hm
      rcases hs with hs | hs <;> (have e1 : m.1 = _ := (by injection hs); rw [e1] at hm'; revert hm'; decide +kernel)
    have w1 := w.1
    rw [hk] at w1
    obtain ⟨i, ei, lo, hi⟩ := w1
    cases ez : worthK cs r x with
    | inl j =>
      rw [ez] at ei
      cases ei
      exact ⟨_, ez, lo, hi⟩
    | inr y =>
      rw [ez] at ei
      cases ei
section
variable {P : Program} {w : World} {K : PySem.W.Frag} {mg : Str → Option Value} {base : Heap}
def spWithRow (K : PySem.W.Frag) : Sp := fun vs H Q _ => ∃ (sa fa pl ra : Addr) (cs : List NC) (r : Row) (as : List (Addr × FC)) (sv : List V) (bs : List (List L2.Key)), vs = [.ref sa, .ref fa, .ref pl, .ref ra] ∧ SqL K H sa sv ∧ StsAt K H sv (as.map (·.2)) bs ∧ FldsAt K H fa as ∧ as.length ≤ 3 ∧ PlcAt H pl (cs.map (·.1)) ∧ H ra = some (.tup (r.map kV)) ∧ RowT cs r ∧ (cs.map (·.1)).Nodup ∧
  (∀ p ∈ as, FOk cs p.2) ∧ (∀ (i : Nat) b (m : FC), bs[i]? = some b → (as.map (·.2))[i]? = some m → b.length < 63 ∧ ∀ z ∈ b, KindIs m.2.2.1 z) ∧
  ∀ p H' sv', Same H H' → H' p = some (.lst sv') → StsAt K H' sv' (as.map (·.2)) (List.zipWith (fun b m => b ++ [fvK cs r m]) bs (as.map (·.2))) → Q (.ref p) H'
abbrev N_with_row : List Str := ["states", "folds", "places", "row", "more", "state", "kind", "told", "_"]
theorem sc_with_row : FnScope N_with_row ["states", "folds", "places", "row"] (defScope s_with_row) := ⟨rfl, rfl, rfl, by decide +kernel, rfl, by decide +kernel, by decide +kernel⟩
theorem ok_withrow {f : Addr} {fd : FuncData} {k kf : Nat} (F : Fun K "with_row" "with_row" s_with_row f fd) (hk : 2 ≤ k) (hkf : kf ≤ k) (m_zip : mg "zip" = none) (G_put : Ready P w K mg base 2 "put_together" ["kind", "one", "other"] (Kb.spPut K)) (G_one : Ready P w K mg base 1 "one_state" ["kind", "value"] (Kb.spOne K)) (G_fval : Ready P w K mg base kf "fold_value" ["told", "places", "row"] (spFval 12)) :
    FnOk P w K mg base CX0 (k + 1) f fd ["states", "folds", "places", "row"] (spWithRow K) := by
  refine F.ok sc_with_row (fun vs H Q E h => ?_) (fun cdv A outer s0 H vs Q E hr h => ?_)
  · obtain ⟨sa, fa, pl, ra, cs, r, as, sv, bs, rfl, _⟩ := h
    rfl
  obtain ⟨sa, fa, pl, ra, cs, r, as, sv, bs, rfl, h1, h2, h3, l3, hp, hr0, hT, hnd, hF, hB, q⟩ := h
  have nd := sc_with_row.nd
  have hrk : Room k _ := hr
  have hr2 : Room 2 _ := hrk.mono hk
  have hr1 : Room 1 _ := hrk.mono (by omega)
  have hrf : Room kf _ := hrk.mono hkf
  refine ⟨_, pss_cons (ps_set (i := 4) nd rfl (.inl rfl) (pe_lst pa_nil))
      (pss_cons (ps_for PassesOwn.never rfl (Zm.pi_zip2 rfl m_zip (pa_cons (pv 0) (pa_cons (pv 1) pa_nil))) (pg_tup rfl (pgs_cons (pg_name (i := 5) nd rfl (.inl rfl)) (pgs_cons (pg_tup rfl (pgs_cons (pg_name (i := 6) nd rfl (.inl rfl)) (pgs_cons (pg_name (i := 7) nd rfl (.inl rfl)) (pgs_cons (pg_name (i := 8) nd rfl (.inl rfl)) pgs_nil)))) pgs_nil))) (pss_one (ps_expr (pe_bm PySem.F.plainAttrs_list PySem.F.slot_list_append PySem.F.type_list_append mt_append (pv 4) (pa_cons (pe_fn (G_put) hr2 (pa_cons (pv 6) (pa_cons (pv 5) (pa_cons (pe_fn (G_one) hr1 (pa_cons (pv 6) (pa_cons (pe_fn (G_fval) hrf (pa_cons (pv 7) (pa_cons (pv 2) (pa_cons (pv 3) pa_nil)))) pa_nil))) pa_nil)))) pa_nil)))))
      (pss_one (ps_ret (pv 4)))), ?_⟩
  refine ⟨Nat.zero_le _, fun p hp0 => ?_⟩
  have s1 := same_upd (o := .lst []) hp0
  refine ⟨_, rfl, _, rfl, sa, fa, _, _, rfl, seqL_same s1 h1, seqT_same s1 h3.1, ?_⟩
  have lsv : sv.length = as.length := by rw [h2.1, List.length_map]
  have lbs : bs.length = as.length := by rw [h2.2.1, List.length_map]
  refine Zm.for_zip2 (K := K) (a := sa) (b := fa) (xs := sv) (ys := as.map fun p => .ref p.1) (by rw [List.length_map]; exact lsv) (fun i σ G => ∃ y5 y6 y7 y8, ∃ ws : List V, σ = [some (.ref sa), some (.ref fa), some (.ref pl), some (.ref ra), some (.ref p), y5, y6, y7, y8] ∧ Same H G ∧ G p = some (.lst ws) ∧ ws.length = i ∧
    ∀ (j : Nat) (v : V) (m : FC) (b : List L2.Key), ws[j]? = some v → (as.map (·.2))[j]? = some m → bs[j]? = some b → Kb.StAt K G v (Kb.stOf m.1 (b ++ [fvK cs r m])))
    ⟨_, _, _, _, [], rfl, s1, upd_same, rfl, fun j v m b e => by cases e⟩ (fun i σ G ⟨_, _, _, _, _, _, sm, _⟩ => ⟨seqL_same sm h1, seqT_same sm h3.1⟩) ?_ ?_
  · rintro i x y T σ G hx hy ⟨y5, y6, y7, y8, ws, rfl, sm, eP, lw, hws⟩ hT0
    rw [List.getElem?_map] at hy
    obtain ⟨pr, hpr, rfl⟩ := Option.map_eq_some_iff.mp hy
    have pm := List.mem_of_getElem? hpr
    have hm : (as.map (·.2))[i]? = some pr.2 := by rw [List.getElem?_map, hpr]; rfl
    have hi : i < as.length := (List.getElem?_eq_some_iff.mp hpr).1
    have hb := List.getElem?_eq_getElem (show i < bs.length by omega)
    generalize bs[i]'(by omega) = b at hb
    obtain ⟨told, t1, t2⟩ := h3.2 pr pm
    have sT := same_upd (o := .tup [x, .ref pr.1]) hT0
    have sA := sm.trans sT
    have fo := hF pr pm
    obtain ⟨v1, v2, v3⟩ := fvK_kind hT hnd fo
    obtain ⟨b1, b2⟩ := hB i b pr.2 hb hm
    have hx1 := h2.2.2 i x pr.2 b hx hm hb
    refine ⟨T, _, rfl, SqT.of upd_same, rfl, _, _, rfl, _, _, rfl, pr.1, _, rfl, SqT.of (sA _ _ t1), rfl, _, _, rfl, _, _, rfl, _, _, rfl, rfl, rfl, ?_⟩
    refine ⟨_, rfl, .inl ⟨rfl, _, SqL.of (sT _ _ eP)⟩, _, rfl, _, rfl, _, rfl, _, rfl, _, rfl, _, rfl, told, pl, ra, cs, r, pr.2.2.1, pr.2.2.2.1, rfl, hp.same sA, sA _ _ hr0, hT, hnd, ?_, fun e he => ?_, ?_⟩
    · cases e : pr.2.2.1 with
      | none => rw [e] at t2; exact t2
      | some z => rw [e] at t2; exact ExAt.keep (fun c ys q => sA _ _ q) t2
    · have f2 := fo.2
      rw [he] at f2
      exact ⟨f2.2.1, by have := f2.2.2.1; omega⟩
    · refine ⟨pr.2.1, _, fvK cs r pr.2, rfl, fun nc => ⟨?_, v3⟩, fun v1' G1 s1' st1 => ?_⟩
      · unfold fvK
        cases e : pr.2.2.1 with
        | none => exact absurd e (v2 nc)
        | some z => rfl
      · refine ⟨pr.2.1, x, v1', b, [fvK cs r pr.2], rfl, (hx1.same sA).same s1', st1, hom_of (k := pr.2.2.2.1) fun z hz => ?_, ?_, fun v2' G2 s2' st2 => ?_⟩
        · rcases List.mem_append.mp hz with hz | hz
          · exact b2 z hz
          · rw [List.mem_singleton.mp hz]
            exact v1
        · rw [List.length_append, List.length_singleton]
          omega
        · have eP2 := s2' _ _ (s1' _ _ (sT _ _ eP))
          have s9 := (sA.trans s1').trans s2'
          refine ⟨p, _, _, rfl, rfl, eP2, by have : ws.length ≤ 3 := by omega
                                             exact Nat.lt_of_le_of_lt this (by decide), _, _, _, _, ws ++ [v2'], rfl, fun c o e => ?_, upd_same, by rw [List.length_append, lw]; rfl, fun j v m b' hj hm' hb' => ?_⟩
          · rw [upd_ne (ne_of_none e hp0)]
            exact s9 _ _ e
          · have keepU : ∀ {v : V} {t : Kb.Stt}, Kb.StAt K G2 v t → Kb.StAt K (upd G2 p (.lst (ws ++ [v2']))) v t := fun h => h.but (d := p) (fun c o ne e => by rw [upd_ne ne]; exact e) ⟨_, eP2⟩
            refine keepU ?_
            by_cases c : j < ws.length
            · rw [List.getElem?_append_left c] at hj
              exact ((hws j v m b' hj hm' hb').same sT).same (s1'.trans s2')
            · have hl := (List.getElem?_eq_some_iff.mp hj).1
              rw [List.length_append, List.length_singleton] at hl
              have ej : j = ws.length := by omega
              rw [ej, List.getElem?_concat_length] at hj
              cases hj
              rw [ej, lw] at hm' hb'
              rw [hm] at hm'
              rw [hb] at hb'
              cases hm'
              cases hb'
              exact st2
  · rintro σ G ⟨y5, y6, y7, y8, ws, rfl, sm, eP, lw, hws⟩
    refine ⟨_, rfl, q p G ws sm eP ⟨by rw [lw, List.length_map]; exact lsv, by rw [List.length_zipWith, lbs, List.length_map, Nat.min_self], fun i v m b hv hm hb => ?_⟩⟩
    rw [List.getElem?_zipWith] at hb
    cases eb : bs[i]? with
    | none => rw [eb] at hb; cases hb
    | some b0 =>
      rw [eb, hm] at hb
      cases hb
      exact hws i v m b0 hv hm eb
end
end Kx

namespace Kx
open PySem PySem.Spec PyProof.Rows L2
abbrev s_states_by_key : Stmt := topS 25
/-! ### keys in the order in which they come first -/
theorem snoc_ind {α : Type} {P : List α → Prop} (h0 : P []) (h1 : ∀ l x, P l → P (l ++ [x])) : ∀ l, P l := fun l => by
  have key : ∀ (n : Nat) (l : List α), l.length = n → P l := by
    intro n
    induction n with
    | zero =>
      intro l h
      rw [List.eq_nil_of_length_eq_zero h]
      exact h0
    | succ n ih =>
      intro l h
      have hne : l ≠ [] := fun e => by rw [e] at h; cases h
      rw [← List.dropLast_concat_getLast hne]
      exact h1 _ _ (ih _ (by rw [List.length_dropLast, h]; rfl))
  exact key _ l rfl
def memR (k : Row) (l : List Row) : Bool := l.any fun x => decide (x = k)
theorem memR_iff {k : Row} {l : List Row} : memR k l = true ↔ k ∈ l := by
  unfold memR
  rw [List.any_eq_true]
  exact ⟨fun ⟨x, h, e⟩ => of_decide_eq_true e ▸ h, fun h => ⟨k, h, decide_eq_true rfl⟩⟩
def firsts (l : List Row) : List Row := l.foldl (fun acc k => if memR k acc = true then acc else acc ++ [k]) []
theorem firsts_snoc (l : List Row) (k : Row) : firsts (l ++ [k]) = if memR k (firsts l) = true then firsts l else firsts l ++ [k] := by
  unfold firsts
  rw [List.foldl_append]
  rfl
theorem mem_firsts : ∀ {l : List Row} {k : Row}, k ∈ firsts l ↔ k ∈ l := by
  intro l
  refine snoc_ind (P := fun l => ∀ {k : Row}, k ∈ firsts l ↔ k ∈ l) (fun {k} => Iff.rfl) (fun l x ih {k} => ?_) l
  rw [firsts_snoc, List.mem_append, List.mem_singleton]
  split
  · rename_i h
    rw [ih]
    exact ⟨.inl, fun z => z.elim id fun e => by rw [e]; exact ih.mp (memR_iff.mp h)⟩
  · rw [List.mem_append, List.mem_singleton, ih]
theorem firsts_nd (l : List Row) : (firsts l).Nodup := by
  refine snoc_ind (P := fun l => (firsts l).Nodup) List.nodup_nil (fun l x ih => ?_) l
  rw [firsts_snoc]
  split
  · exact ih
  · rename_i h
    refine List.nodup_append.mpr ⟨ih, List.nodup_cons.mpr ⟨List.not_mem_nil, List.nodup_nil⟩, fun a ha b hb e => ?_⟩
    rw [List.mem_singleton.mp hb] at e
    exact h (memR_iff.mpr (e ▸ ha))
/-- the rows of a key; what a fold takes of them -/
def grp (js : List Nat) (rows : List Row) (k : Row) : List Row := rows.filter fun r => decide (pickR r js = k)
def bagOf (cs : List NC) (js : List Nat) (rows : List Row) (k : Row) (m : FC) : List L2.Key := (grp js rows k).map fun r => fvK cs r m
theorem bag_snoc (cs : List NC) (js : List Nat) (rows : List Row) (r k : Row) (m : FC) : bagOf cs js (rows ++ [r]) k m = if pickR r js = k then bagOf cs js rows k m ++ [fvK cs r m] else bagOf cs js rows k m := by
  unfold bagOf grp
  rw [List.filter_append, List.map_append]
  by_cases h : pickR r js = k
  · rw [if_pos h, List.filter_cons, decide_eq_true h]
    rfl
  · rw [if_neg h, List.filter_cons, decide_eq_false h]
    show _ ++ [] = _
    rw [List.append_nil]
theorem bag_len (cs : List NC) (js : List Nat) (rows : List Row) (k : Row) (m : FC) : (bagOf cs js rows k m).length ≤ rows.length := by
  unfold bagOf grp
  rw [List.length_map]
  exact List.length_filter_le _ _
theorem bag_none (cs : List NC) (js : List Nat) (rows : List Row) (k : Row) (m : FC) (h : k ∉ rows.map fun r => pickR r js) : bagOf cs js rows k m = [] := by
  unfold bagOf grp
  rw [List.filter_eq_nil_iff.mpr fun r hr e => h (List.mem_map.mpr ⟨r, hr, of_decide_eq_true e⟩)]
  rfl
theorem bag_kind {cs : List NC} {js : List Nat} {rows : List Row} {k : Row} {m : FC} (nd : (cs.map (·.1)).Nodup) (hr : ∀ r ∈ rows, RowT cs r) (fo : FOk cs m) : ∀ z ∈ bagOf cs js rows k m, KindIs m.2.2.1 z := fun z hz => by
  unfold bagOf grp at hz
  obtain ⟨r, hr2, rfl⟩ := List.mem_map.mp hz
  exact (fvK_kind (hr r (List.mem_filter.mp hr2).1) nd fo).1
def RowsAt (H : Hp) (cs : List NC) (rows : List (Addr × Row)) : Prop := ∀ p ∈ rows, H p.1 = some (.tup (p.2.map kV)) ∧ RowT cs p.2
theorem RowsAt.same {H H' : Hp} {cs : List NC} {rows : List (Addr × Row)} (h : RowsAt H cs rows) (s : Same H H') : RowsAt H' cs rows := fun p hp => ⟨s _ _ (h p hp).1, (h p hp).2⟩
/-- where the columns of some names stand -/
def PosOf (cs : List NC) (ks : List Str) (js : List Nat) : Prop := ks.length = js.length ∧ ∀ (i : Nat) (x : Str), ks[i]? = some x → ∃ j : Nat, js[i]? = some j ∧ (cs.map (·.1))[j]? = some x
theorem PosOf.lt {cs : List NC} {ks : List Str} {js : List Nat} (h : PosOf cs ks js) : ∀ j ∈ js, j < cs.length := fun j hj => by
  obtain ⟨i, hi, ei⟩ := List.getElem_of_mem hj
  have hk : i < ks.length := by rw [h.1]; exact hi
  obtain ⟨j', h1, h2⟩ := h.2 i _ (List.getElem?_eq_getElem hk)
  rw [List.getElem?_eq_getElem hi, ei] at h1
  cases h1
  have := (List.getElem?_eq_some_iff.mp h2).1
  rwa [List.length_map] at this
/-- the dict of states by key -/
structure GrpAt (K : PySem.W.Frag) (H : Hp) (D : Addr) (cs : List NC) (js : List Nat) (rows : List Row) (fs : List FC) (kvs : List (List L2.Key × V)) : Prop where
  keys : kvs.map (·.1) = firsts (rows.map fun r => pickR r js)
  vals : ∀ k v, (k, v) ∈ kvs → ∃ sa sv, v = .ref sa ∧ sa ≠ D ∧ H sa = some (.lst sv) ∧ StsAt K H sv fs (fs.map fun m => bagOf cs js rows k m)
theorem valV_mem {κ : Type} [DecidableEq κ] {kvs : List (κ × V)} {k : κ} {v : V} (h : valV kvs k = some v) : (k, v) ∈ kvs := by
  unfold valV at h
  obtain ⟨p, hp, rfl⟩ := Option.map_eq_some_iff.mp h
  have e : p.1 = k := by simpa using List.find?_some hp
  rw [← e]
  exact List.mem_of_find?_eq_some hp
theorem putK_old {κ : Type} [DecidableEq κ] {kvs : List (κ × V)} {k : κ} {v0 v : V} (h : valV kvs k = some v0) : putK kvs k v = kvs.map fun kv => if kv.1 = k then (kv.1, v) else kv := by
  unfold putK
  rw [if_pos (by rw [valV_any, h]; rfl)]
theorem putK_keys {κ : Type} [DecidableEq κ] {kvs : List (κ × V)} {k : κ} {v0 v : V} (h : valV kvs k = some v0) : (putK kvs k v).map (·.1) = kvs.map (·.1) := by
  rw [putK_old h, List.map_map]
  refine List.map_congr_left fun p _ => ?_
  show (if p.1 = k then (p.1, v) else p).1 = p.1
  split <;> rfl
theorem sqT_upd {K : PySem.W.Frag} {H : Hp} {D : Addr} {o : HO} (hD : ∃ kvs : List (List L2.Key × V), H D = some (.dT kvs)) {a : Addr} {xs : List V} (q : SqT K H a xs) : SqT K (upd H D o) a xs := by
  obtain ⟨kvs, hD⟩ := hD
  rcases q with (q | ⟨o2, q⟩) | q
  · exact .inl (.inl (by rw [upd_ne (fun e => by rw [e, hD] at q; cases q)]; exact q))
  · exact .inl (.inr ⟨o2, by rw [upd_ne (fun e => by rw [e, hD] at q; cases q)]; exact q⟩)
  · exact .inr q
theorem stAt_upd {K : PySem.W.Frag} {H : Hp} {D : Addr} {o : HO} (hD : ∃ kvs : List (List L2.Key × V), H D = some (.dT kvs)) : ∀ {v : V} {t : Kb.Stt}, Kb.StAt K H v t → Kb.StAt K (upd H D o) v t
  | _, .n _, h => h
  | _, .m _ _, ⟨a, e, h⟩ => ⟨a, e, sqT_upd hD h⟩
  | _, .ks _, ⟨a, e, h⟩ => ⟨a, e, sqT_upd hD h⟩
theorem StsAt.upd {K : PySem.W.Frag} {H : Hp} {D : Addr} {o : HO} (hD : ∃ kvs : List (List L2.Key × V), H D = some (.dT kvs)) {sv : List V} {fs : List FC} {bs : List (List L2.Key)} (h : StsAt K H sv fs bs) : StsAt K (L2.upd H D o) sv fs bs :=
  ⟨h.1, h.2.1, fun i v m b a c d => stAt_upd hD (h.2.2 i v m b a c d)⟩
theorem pick_len (r : Row) (js : List Nat) : (pickR r js).length = js.length := List.length_map ..
section
variable {P : Program} {w : World} {K : PySem.W.Frag} {mg : Str → Option Value} {base : Heap}
def spStates (K : PySem.W.Frag) : Sp := fun vs H Q _ => ∃ (rsa dt kt ft pl : Addr) (cs : List NC) (rows : List (Addr × Row)) (ks : List Str) (js : List Nat) (as : List (Addr × FC)), vs = [.ref rsa, .ref dt, .ref pl] ∧ SqL K H rsa (rows.map fun p => .ref p.1) ∧ RowsAt H cs rows ∧ rows.length < 63 ∧
  SqT K H dt [.ref kt, .ref ft] ∧ SqT K H kt (ks.map V.str) ∧ FldsAt K H ft as ∧ as.length ≤ 3 ∧ (∀ p ∈ as, FOk cs p.2) ∧ PlcAt H pl (cs.map (·.1)) ∧ (cs.map (·.1)).Nodup ∧ PosOf cs ks js ∧ ks.length < 1000 ∧
  ∀ D H' kvs, Same H H' → H D = none → H' D = some (.dT kvs) → GrpAt K H' D cs js (rows.map (·.2)) (as.map (·.2)) kvs → Q (.ref D) H'
abbrev N_states_by_key : List Str := ["rows", "details", "places", "keys", "folds", "ats", "found", "row", "key", "kind", "_"]
theorem sc_states_by_key : FnScope N_states_by_key ["rows", "details", "places"] (defScope s_states_by_key) := ⟨rfl, rfl, rfl, by decide +kernel, rfl, by decide +kernel, by decide +kernel⟩
theorem ok_states {f : Addr} {fd : FuncData} {k kw : Nat} (F : Fun K "states_by_key" "states_by_key" s_states_by_key f fd) (hk : 1 ≤ k) (hkw : kw ≤ k) (G_ats : Ready P w K mg base 1 "ats_of" ["names", "places"] (spAts K)) (G_vals : Ready P w K mg base 1 "values_at" ["row", "ats"] (spVals K)) (G_no : Ready P w K mg base 1 "no_state" ["kind"] (Kb.spNo K)) (G_with : Ready P w K mg base kw "with_row" ["states", "folds", "places", "row"] (spWithRow K)) :
    FnOk P w K mg base CX0 (k + 1) f fd ["rows", "details", "places"] (spStates K) := by
  refine F.ok sc_states_by_key (fun vs H Q E h => ?_) (fun cdv A outer s0 H vs Q E hr h => ?_)
  · obtain ⟨rsa, dt, kt, ft, pl, cs, rows, ks, js, as, rfl, _⟩ := h
    rfl
  obtain ⟨rsa, dt, kt, ft, pl, cs, rows, ks, js, as, rfl, h1, hR, few, hd, hkt, hfl, l3, hF, hp, hnd, hpos, kfew, q⟩ := h
  have nd := sc_states_by_key.nd
  have hrk : Room k _ := hr
  have hr1 : Room 1 _ := hrk.mono hk
  have hrw : Room kw _ := hrk.mono hkw
  have hu := hu_of hr
  refine ⟨_, pss_cons (ps_asg (pv 1) (pg_tup rfl (pgs_cons (pg_name (i := 3) nd rfl (.inl rfl)) (pgs_cons (pg_name (i := 4) nd rfl (.inl rfl)) pgs_nil))))
      (pss_cons (ps_set (i := 5) nd rfl (.inl rfl) (pe_fn (G_ats) hr1 (pa_cons (pv 3) (pa_cons (pv 2) pa_nil))))
      (pss_cons (ps_set (i := 6) nd rfl (.inl rfl) pe_dnewT)
      (pss_cons (ps_for PassesOwn.never rfl (pi_list (pv 0)) (pg_name (i := 7) nd rfl (.inl rfl)) (pss_cons (ps_set (i := 8) nd rfl (.inl rfl) (pe_fn (G_vals) hr1 (pa_cons (pv 7) (pa_cons (pv 5) pa_nil))))
      (C8.pss_cut (ps_if (pt_cmp (pc_dnotin hu (pv 8) (pv 6))) (pss_one (ps_dput hu (pv 6) (pv 8) (pe_lc (own := [("kind", 9), ("_", 10)]) (g := (gTup K 3 (gCons (gName 9) (gCons (gName 10) (gCons (gName 10) gNil))))) (tt := tYes) (te := tCall (Kb.spNo K) [] E0 (tCons (tVar 9) tNil)) rfl nd (pi_tup (pv 4)) (blkOk_by (N := N_states_by_key) (sc := defScope s_states_by_key) (by decide +kernel)) (fun _ _ _ _ _ => pg_tup rfl (pgs_cons (pg_name (i := 9) nd rfl (.inl rfl)) (pgs_cons (pg_name (i := 10) nd rfl (.inl rfl)) (pgs_cons (pg_name (i := 10) nd rfl (.inl rfl)) pgs_nil)))) (fun _ _ _ _ _ => pts_nil) (fun _ _ _ _ _ => (pe_fn (G_no) hr1 (pa_cons (pv 9) pa_nil)))) rfl)) (pss_nil))
      (pss_one (ps_dput hu (pv 6) (pv 8) (pe_fn (G_with) hrw (pa_cons (pe_dget hu (pv 6) (pv 8) (fun _ _ => rfl)) (pa_cons (pv 4) (pa_cons (pv 2) (pa_cons (pv 7) pa_nil))))) rfl)))))
      (pss_one (ps_ret (pv 6)))))), ?_⟩
  refine ⟨_, rfl, dt, _, rfl, hd, rfl, _, _, rfl, _, _, rfl, rfl, ?_⟩
  refine ⟨_, rfl, _, rfl, kt, pl, ks, _, js, rfl, ?_, hp, hpos.1, hpos.2, kfew, fun ja H1 s1 eja => ?_⟩
  · exact hkt
  refine fun D hD => ?_
  have nDH : H D = none := by
    cases e : H D with
    | none => rfl
    | some o =>
      rw [s1 _ _ e] at hD
      cases hD
  refine ⟨_, rfl, rsa, rfl, ⟨_, seqL_same (s1.trans (same_upd hD)) h1⟩, ?_⟩
  have lt3 : ∀ {n : Nat}, n ≤ 100 → n < sizeLine := fun h => Nat.lt_of_le_of_lt h (by decide)
  have jl : js.length < 1000 := by rw [← hpos.1]; exact kfew
  refine for_list (K := K) (a := rsa) (xs := rows.map fun p => .ref p.1) (fun i σ G => ∃ y7 y8 y9 y10, ∃ kvs : List (List L2.Key × V), σ = [some (.ref rsa), some (.ref dt), some (.ref pl), some (.ref kt), some (.ref ft), some (.ref ja), some (.ref D), y7, y8, y9, y10] ∧ Same H1 G ∧ G D = some (.dT kvs) ∧ kvs.length ≤ i ∧ GrpAt K G D cs js ((rows.map (·.2)).take i) (as.map (·.2)) kvs)
    ⟨_, _, _, _, [], rfl, same_upd hD, upd_same, Nat.le_refl _, rfl, fun k v h => by cases h⟩ (fun i σ G _ ⟨_, _, _, _, _, _, sm, _⟩ => seqL_same (s1.trans sm) h1) ?_ ?_
  · rintro i x σ G hx ⟨y7, y8, y9, y10, kvs, rfl, sm, eD, lk, gr⟩
    rw [List.getElem?_map] at hx
    obtain ⟨pr, hpr, rfl⟩ := Option.map_eq_some_iff.mp hx
    have pm := List.mem_of_getElem? hpr
    have hi : i < rows.length := (List.getElem?_eq_some_iff.mp hpr).1
    have sA := s1.trans sm
    obtain ⟨r1, rT⟩ := hR pr pm
    have hr2 : (rows.map (·.2))[i]? = some pr.2 := by rw [List.getElem?_map, hpr]; rfl
    have tk : (rows.map (·.2)).take (i + 1) = (rows.map (·.2)).take i ++ [pr.2] := by
      rw [List.take_add_one, hr2]
      rfl
    have inR : ∀ r ∈ (rows.map (·.2)).take i, RowT cs r := fun r hr => by
      obtain ⟨p, hp2, rfl⟩ := List.mem_map.mp (List.mem_of_mem_take hr)
      exact (hR p hp2).2
    obtain ⟨key, hkey⟩ : ∃ key, key = pickR pr.2 js := ⟨_, rfl⟩
    have fk : firsts (((rows.map (·.2)).take (i + 1)).map fun r => pickR r js) = if memR key (firsts (((rows.map (·.2)).take i).map fun r => pickR r js)) = true then firsts (((rows.map (·.2)).take i).map fun r => pickR r js) else firsts (((rows.map (·.2)).take i).map fun r => pickR r js) ++ [key] := by
      rw [tk, List.map_append, List.map_singleton, firsts_snoc, hkey]
    refine ⟨_, rfl, _, rfl, pr.1, ja, pr.2, js, rfl, SqT.of (sA _ _ r1), SqL.of (sm _ _ eja), fun j hj => by rw [rT.1]; exact hpos.lt j hj, jl, fun t G1 s2 ht eT => ?_⟩
    rw [← hkey] at eT
    have eD1 := s2 _ _ eD
    have sB := sm.trans s2
    have tD : t ≠ D := fun e => by rw [e, eD1] at eT; cases eT
    refine ⟨fun σ' G2 => ∃ y9 y10, ∃ (kvs' : List (List L2.Key × V)) (sa : Addr) (sv : List V), σ' = [some (.ref rsa), some (.ref dt), some (.ref pl), some (.ref kt), some (.ref ft), some (.ref ja), some (.ref D), some (.ref pr.1), some (.ref t), y9, y10] ∧ Same H1 G2 ∧ G2 t = some (.tup (key.map kV)) ∧ G2 D = some (.dT kvs') ∧ kvs'.length ≤ i + 1 ∧ kvs'.map (·.1) = firsts (((rows.map (·.2)).take (i + 1)).map fun r => pickR r js) ∧ valV kvs' key = some (.ref sa) ∧ sa ≠ D ∧ G2 sa = some (.lst sv) ∧
      StsAt K G2 sv (as.map (·.2)) ((as.map (·.2)).map fun m => bagOf cs js ((rows.map (·.2)).take i) key m) ∧ ∀ k v, (k, v) ∈ kvs' → k ≠ key → ∃ sa sv, v = .ref sa ∧ sa ≠ D ∧ G2 sa = some (.lst sv) ∧ StsAt K G2 sv (as.map (·.2)) ((as.map (·.2)).map fun m => bagOf cs js ((rows.map (·.2)).take i) k m), ?_, ?_⟩
    · refine ⟨_, rfl, _, rfl, D, _, rfl, DGet.t eD1 eT, _, rfl, ?_⟩
      cases ev : valV kvs key with
      | none =>
        have nk : key ∉ firsts (((rows.map (·.2)).take i).map fun r => pickR r js) := fun hm => by
          rw [← gr.keys] at hm
          obtain ⟨p, hp2, e⟩ := List.mem_map.mp hm
          have := valV_any key kvs
          rw [ev] at this
          have h3 : (kvs.any fun kv => decide (kv.1 = key)) = true := List.any_eq_true.mpr ⟨p, hp2, decide_eq_true e⟩
          rw [h3] at this
          cases this
        refine ifT' rfl ?_
        refine ⟨_, rfl, ft, rfl, ⟨_, seqT_same (s1.trans sB) hfl.1⟩, fun L hL => ?_⟩
        refine lc_newT (K := K) (Rl := fun j v G => ∀ m, (as.map (·.2))[j]? = some m → Kb.StAt K G v (Kb.stOf m.1 [])) (fun j v G G' h s m hm => (h m hm).same s) (seqT_same (s1.trans sB) hfl.1) hL (by rw [List.length_map]; exact lt3 (by omega)) (fun j v G l h e l' m hm => (h m hm).but (d := L) (fun c o ne z => by rw [upd_ne ne]; exact z) ⟨_, e⟩) (fun j x G2 Qi hx2 s3 q2 => ?_) fun G2 ws s3 eL lw hws => ?_
        · rw [List.getElem?_map] at hx2
          obtain ⟨z, hz, rfl⟩ := Option.map_eq_some_iff.mp hx2
          obtain ⟨told, t1, _⟩ := hfl.2 z (List.mem_of_getElem? hz)
          refine ⟨z.1, _, rfl, SqT.of (((s1.trans sB).trans s3) _ _ t1), rfl, _, _, rfl, _, _, rfl, _, _, rfl, rfl, rfl, ?_⟩
          refine ⟨_, rfl, z.2.1, rfl, fun v G3 s4 st => q2 v G3 s4 fun m hm => ?_⟩
          rw [List.getElem?_map, hz] at hm
          cases hm
          exact st
        · have eD2 := s3 _ _ eD1
          have nLD : L ≠ D := fun e => by rw [e, eD1] at hL; cases hL
          have pk : putK kvs key (.ref L) = kvs ++ [(key, .ref L)] := putK_new _ ev
          refine ⟨_, rfl, _, rfl, D, _, rfl, DPut.t eD2 (s3 _ _ eT) (lt3 (by omega)), _, _, putK kvs key (.ref L), L, ws, rfl, fun c o e => ?_, ?_, upd_same, ?_, ?_, ?_, nLD, ?_, ?_, ?_⟩
          · rw [upd_ne (ne_of_none e hD)]
            exact (sB.trans s3) _ _ e
          · rw [upd_ne tD]
            exact s3 _ _ eT
          · rw [pk, List.length_append, List.length_singleton]
            omega
          · rw [pk, List.map_append, gr.keys, fk, if_neg (fun h => nk (memR_iff.mp h))]
            rfl
          · rw [valV_put, if_pos rfl]
          · rw [upd_ne nLD]
            exact eL
          · refine StsAt.upd ⟨_, eD2⟩ ⟨by rw [lw, List.length_map, List.length_map], by rw [List.length_map], fun j v m b hv hm hb => ?_⟩
            rw [List.getElem?_map, hm] at hb
            cases hb
            show Kb.StAt K G2 v (Kb.stOf m.1 (bagOf cs js ((rows.map (·.2)).take i) key m))
            rw [bag_none cs js _ key m (fun h => nk (mem_firsts.mpr h))]
            exact hws j v hv m hm
          · intro k v hkv nk2
            rw [pk] at hkv
            rcases List.mem_append.mp hkv with hkv | hkv
            · obtain ⟨sa, sv, rfl, n1, e1, st⟩ := gr.vals k v hkv
              exact ⟨sa, sv, rfl, n1, by rw [upd_ne n1]; exact (s2.trans s3) _ _ e1, StsAt.upd ⟨_, eD2⟩ (st.same (s2.trans s3))⟩
            · cases List.mem_singleton.mp hkv
              exact absurd rfl nk2
      | some v0 =>
        obtain ⟨sa, sv, rfl, n1, e1, st⟩ := gr.vals key v0 (valV_mem ev)
        have mk : key ∈ firsts (((rows.map (·.2)).take i).map fun r => pickR r js) := by
          rw [← gr.keys]
          exact List.mem_map.mpr ⟨_, valV_mem ev, rfl⟩
        refine ifF' rfl ?_
        exact ⟨_, _, kvs, sa, sv, rfl, sB, eT, eD1, by omega, by rw [gr.keys, fk, if_pos (memR_iff.mpr mk)], ev, n1, s2 _ _ e1, st.same s2, fun k v hkv _ => by
          obtain ⟨sa, sv, rfl, n2, e2, st2⟩ := gr.vals k v hkv
          exact ⟨sa, sv, rfl, n2, s2 _ _ e2, st2.same s2⟩⟩
    · rintro σ' G2 ⟨y9', y10', kvs', sa, sv, rfl, sC, eT2, eD2, lk2, kk, ev, n1, e1, st, oth⟩
      have sD := s1.trans sC
      refine ⟨_, rfl, _, rfl, D, _, rfl, by rw [← ev]; exact DGet.t eD2 eT2, _, rfl, _, rfl, _, rfl, sa, ft, pl, pr.1, cs, pr.2, as, sv, _, rfl, SqL.of e1, st, hfl.same sD, l3, hp.same sD, sD _ _ r1, rT, hnd, hF, fun j b m hb hm => ?_, fun p G3 sv' s3 eP st3 => ?_⟩
      · rw [List.getElem?_map, hm] at hb
        cases hb
        refine ⟨?_, bag_kind hnd inR ?_⟩
        · have h8 := bag_len cs js ((rows.map (·.2)).take i) key m
          rw [List.length_take, List.length_map] at h8
          exact Nat.lt_of_le_of_lt h8 (by omega)
        · obtain ⟨z, hz, rfl⟩ := List.mem_map.mp (List.mem_of_getElem? hm)
          exact hF z hz
      · have eD3 := s3 _ _ eD2
        have pD : p ≠ D := fun e => by rw [e, eD3] at eP; cases eP
        refine ⟨_, rfl, _, rfl, D, _, rfl, DPut.t eD3 (s3 _ _ eT2) (lt3 (by omega)), _, _, _, _, putK kvs' key (.ref p), rfl, fun c o e => ?_, upd_same, ?_, ?_, fun k v hkv => ?_⟩
        · rw [upd_ne (ne_of_none e hD)]
          exact (sC.trans s3) _ _ e
        · rw [putK_old ev, List.length_map]
          exact lk2
        · rw [putK_keys ev]
          exact kk
        · rw [putK_old ev] at hkv
          obtain ⟨kv, hkv2, ekv⟩ := List.mem_map.mp hkv
          by_cases c : kv.1 = key
          · rw [if_pos c] at ekv
            cases ekv
            refine ⟨p, sv', rfl, pD, by rw [upd_ne pD]; exact eP, ?_⟩
            have eb : (as.map (·.2)).map (fun m => bagOf cs js ((rows.map (·.2)).take (i + 1)) kv.1 m) = List.zipWith (fun b m => b ++ [fvK cs pr.2 m]) ((as.map (·.2)).map fun m => bagOf cs js ((rows.map (·.2)).take i) key m) (as.map (·.2)) := by
              rw [List.zipWith_map_left, List.zipWith_self]
              refine List.map_congr_left fun m _ => ?_
              rw [tk, bag_snoc, c, if_pos hkey.symm]
            rw [eb]
            exact StsAt.upd ⟨_, eD3⟩ st3
          · rw [if_neg c] at ekv
            subst ekv
            obtain ⟨sa2, sv2, rfl2, n2, e2, st2⟩ := oth k v hkv2 c
            refine ⟨sa2, sv2, rfl2, n2, by rw [upd_ne n2]; exact s3 _ _ e2, ?_⟩
            have eb : (as.map (·.2)).map (fun m => bagOf cs js ((rows.map (·.2)).take (i + 1)) k m) = (as.map (·.2)).map fun m => bagOf cs js ((rows.map (·.2)).take i) k m := by
              refine List.map_congr_left fun m _ => ?_
              rw [tk, bag_snoc, if_neg (fun e => c (e.symm.trans hkey.symm))]
            rw [eb]
            exact StsAt.upd ⟨_, eD3⟩ (st2.same s3)
  · rintro σ G ⟨y7, y8, y9, y10, kvs, rfl, sm, eD, lk, gr⟩
    rw [List.length_map, ← List.length_map (f := (·.2)) (as := rows), List.take_length] at gr
    exact ⟨_, rfl, q D G kvs (s1.trans sm) nDH eD gr⟩
end
end Kx

namespace Kx
open PySem PySem.Spec PyProof.Rows L2
abbrev s_folded : Stmt := topS 26
/-- what a fold tells, as a key -/
def toldK (kind : Str) (b : List L2.Key) : L2.Key := toK (Kb.toldV kind b)
theorem told_kV {kind : Str} {b : List L2.Key} (h : b ≠ []) : Kb.toldV kind b = kV (toldK kind b) := by
  have key : ∀ v : V, (∃ i, v = .int i) ∨ (∃ z : L2.Key, v = kV z) → v = kV (toK v) := fun v hv => by
    rcases hv with ⟨i, rfl⟩ | ⟨z, rfl⟩
    · rfl
    · cases z <;> rfl
  unfold toldK
  refine key _ ?_
  unfold Kb.toldV
  split
  · exact .inl ⟨_, rfl⟩
  split
  · exact .inl ⟨_, rfl⟩
  split
  · exact .inl ⟨_, rfl⟩
  · obtain ⟨z, l, e⟩ := Kb.sel_ne (kind := kind) h
    rw [e]
    exact .inr ⟨z, rfl⟩
def foldRow (cs : List NC) (js : List Nat) (fs : List FC) (rows : List Row) (k : Row) : Row := k ++ fs.map fun m => toldK m.1 (bagOf cs js rows k m)
def foldS (cs : List NC) (js : List Nat) (fs : List FC) (rows : List Row) : List Row := (firsts (rows.map fun r => pickR r js)).map (foldRow cs js fs rows)
theorem bag_some {cs : List NC} {js : List Nat} {rows : List Row} {k : Row} {m : FC} (h : k ∈ rows.map fun r => pickR r js) : bagOf cs js rows k m ≠ [] := fun e => by
  obtain ⟨r, hr, rfl⟩ := List.mem_map.mp h
  unfold bagOf grp at e
  have := List.map_eq_nil_iff.mp e
  exact List.filter_eq_nil_iff.mp this r hr (decide_eq_true rfl)
section
variable {P : Program} {w : World} {K : PySem.W.Frag} {mg : Str → Option Value} {base : Heap}
def spFolded (K : PySem.W.Frag) : Sp := fun vs H Q _ => ∃ (rsa dt kt ft pl : Addr) (cs : List NC) (rows : List (Addr × Row)) (ks : List Str) (js : List Nat) (as : List (Addr × FC)), vs = [.ref rsa, .ref dt, .ref pl] ∧ SqL K H rsa (rows.map fun p => .ref p.1) ∧ RowsAt H cs rows ∧ rows.length < 63 ∧
  SqT K H dt [.ref kt, .ref ft] ∧ SqT K H kt (ks.map V.str) ∧ FldsAt K H ft as ∧ as ≠ [] ∧ as.length ≤ 3 ∧ (∀ p ∈ as, FOk cs p.2) ∧ PlcAt H pl (cs.map (·.1)) ∧ (cs.map (·.1)).Nodup ∧ PosOf cs ks js ∧ ks.length < 1000 ∧
  ∀ T H' (res : List (Addr × Row)), Same H H' → H T = none → H' T = some (.lst (res.map fun p => .ref p.1)) → (∀ p ∈ res, SqT K H' p.1 (p.2.map kV)) → res.map (·.2) = foldS cs js (as.map (·.2)) (rows.map (·.2)) → Q (.ref T) H'
abbrev N_folded : List Str := ["rows", "details", "places", "kinds", "kind", "_", "told", "key", "states", "state"]
theorem sc_folded : FnScope N_folded ["rows", "details", "places"] (defScope s_folded) := ⟨rfl, rfl, rfl, by decide +kernel, rfl, by decide +kernel, by decide +kernel⟩
theorem ok_folded {f : Addr} {fd : FuncData} {k : Nat} (F : Fun K "folded" "folded" s_folded f fd) (hk : 1 ≤ k) (m_tuple : mg "tuple" = none) (m_zip : mg "zip" = none) (G_states : Ready P w K mg base k "states_by_key" ["rows", "details", "places"] (spStates K)) (G_told : Ready P w K mg base 1 "state_told" ["kind", "state"] (Kb.spTold K)) :
    FnOk P w K mg base CX0 (k + 1) f fd ["rows", "details", "places"] (spFolded K) := by
  refine F.ok sc_folded (fun vs H Q E h => ?_) (fun cdv A outer s0 H vs Q E hr h => ?_)
  · obtain ⟨rsa, dt, kt, ft, pl, cs, rows, ks, js, as, rfl, _⟩ := h
    rfl
  obtain ⟨rsa, dt, kt, ft, pl, cs, rows, ks, js, as, rfl, h1, hR, few, hd, hkt, hfl, ne0, l3, hF, hp, hnd, hpos, kfew, q⟩ := h
  have nd := sc_folded.nd
  have hrk : Room k _ := hr
  have hr1 : Room 1 _ := hrk.mono hk
  refine ⟨_, pss_cons (ps_setLc (i := 3) (own := [("kind", 4), ("_", 5)]) (g := (gTup K 3 (gCons (gName 4) (gCons (gName 5) (gCons (gName 5) gNil))))) (tt := tYes) rfl nd rfl rfl (sw_true rfl rfl rfl (by decide +kernel)) (pi_tup (pe_ix ix_tup (pv 1) pe_int (fun _ _ => rfl))) (blkOk_by (N := N_folded) (sc := defScope s_folded) (by decide +kernel)) (fun _ _ _ _ _ => pg_tup rfl (pgs_cons (pg_name (i := 4) nd rfl (.inl rfl)) (pgs_cons (pg_name (i := 5) nd rfl (.inl rfl)) (pgs_cons (pg_name (i := 5) nd rfl (.inl rfl)) pgs_nil)))) (fun _ _ _ _ _ => pts_nil) (fun _ _ _ _ _ => (pv 4)))
      (pss_cons (ps_set (i := 6) nd rfl (.inl rfl) (pe_lst pa_nil))
      (pss_cons (ps_for PassesOwn.never rfl (Di.pi_itT (pe_fn (G_states) hrk (pa_cons (pv 0) (pa_cons (pv 1) (pa_cons (pv 2) pa_nil))))) (pg_tup rfl (pgs_cons (pg_name (i := 7) nd rfl (.inl rfl)) (pgs_cons (pg_name (i := 8) nd rfl (.inl rfl)) pgs_nil))) (pss_one (ps_expr (pe_bm PySem.F.plainAttrs_list PySem.F.slot_list_append PySem.F.type_list_append mt_append (pv 6) (pa_cons (pe_op op_catA (pv 7) (pe_callTy call_tuple_of (by rfl) m_tuple PyProof.Rows.boot_tuple (pa_cons (pe_lc (own := [("kind", 4), ("state", 9)]) (g := (gTup K 2 (gCons (gName 4) (gCons (gName 9) gNil)))) (tt := tYes) (te := tCall (Kb.spTold K) [] E0 (tCons (tVar 4) (tCons (tVar 9) tNil))) rfl nd (pi_zip rfl m_zip (pa_cons (pv 3) (pa_cons (pv 8) pa_nil))) (blkOk_by (N := N_folded) (sc := defScope s_folded) (by decide +kernel)) (fun _ _ _ _ _ => pg_tup rfl (pgs_cons (pg_name (i := 4) nd rfl (.inl rfl)) (pgs_cons (pg_name (i := 9) nd rfl (.inl rfl)) pgs_nil))) (fun _ _ _ _ _ => pts_nil) (fun _ _ _ _ _ => (pe_fn (G_told) hr1 (pa_cons (pv 4) (pa_cons (pv 9) pa_nil))))) pa_nil))) pa_nil)))))
      (pss_one (ps_ret (pv 6))))), ?_⟩
  have lt3 : ∀ {n : Nat}, n ≤ 100 → n < sizeLine := fun h => Nat.lt_of_le_of_lt h (by decide)
  refine ⟨_, rfl, dt, _, 1, _, rfl, rfl, hd, rfl, ft, rfl, ⟨_, hfl.1⟩, fun L0 hL0 => ?_⟩
  refine lc_valsT (ys := as.map fun p => V.str p.2.1) hfl.1 hL0 (by rw [List.length_map, List.length_map]) (by rw [List.length_map]; exact lt3 (by omega)) (fun i x y G Qi hx hy sm q2 => ?_) fun G0 s0' eL0 => ?_
  · rw [List.getElem?_map] at hx hy
    obtain ⟨z, hz, rfl⟩ := Option.map_eq_some_iff.mp hx
    rw [hz] at hy
    cases hy
    obtain ⟨told, t1, _⟩ := hfl.2 z (List.mem_of_getElem? hz)
    exact ⟨z.1, _, rfl, SqT.of (sm _ _ t1), rfl, _, _, rfl, _, _, rfl, _, _, rfl, rfl, rfl, _, rfl, q2 _ (Same.refl _)⟩
  refine ⟨Nat.zero_le _, fun T hT => ?_⟩
  have sT := same_upd (o := .lst []) hT
  have nTH : H T = none := by
    cases e : H T with
    | none => rfl
    | some o =>
      rw [s0' _ _ e] at hT
      cases hT
  have s1 := s0'.trans sT
  have eT1 : upd G0 T (.lst []) T = some (.lst []) := upd_same
  have eL1 := sT _ _ eL0
  have nLT : L0 ≠ T := fun e => by rw [e, hT] at eL0; cases eL0
  generalize upd G0 T (.lst []) = G1 at s1 eT1 eL1 sT
  refine ⟨_, rfl, _, rfl, _, rfl, rsa, dt, kt, ft, pl, cs, rows, ks, js, as, rfl, seqL_same s1 h1, hR.same s1, few, seqT_same s1 hd, seqT_same s1 hkt, hfl.same s1, l3, hF, hp.same s1, hnd, hpos, kfew, fun D G2 kvs s2 nD eD gr => ?_⟩
  refine ⟨D, kvs, rfl, eD, fun od => ?_⟩
  have nDT : D ≠ T := fun e => by rw [e, eT1] at nD; cases nD
  have nDL : D ≠ L0 := fun e => by rw [e, eL1] at nD; cases nD
  have sL : ∀ b o, b ≠ D → G2 b = some o → upd G2 D (.frz od (.dT kvs)) b = some o := fun b o n e => by rw [upd_ne n]; exact e
  have eT3 := sL _ _ nDT.symm (s2 _ _ eT1)
  have eL3 := sL _ _ nDL.symm (s2 _ _ eL1)
  have s3 : Same H (upd G2 D (.frz od (.dT kvs))) := fun b o e => sL b o (fun z => by rw [z] at e; rw [s1 _ _ e] at nD; cases nD) ((s1.trans s2) _ _ e)
  have gv : ∀ k v, (k, v) ∈ kvs → ∃ sa sv, v = .ref sa ∧ sa ≠ T ∧ upd G2 D (.frz od (.dT kvs)) sa = some (.lst sv) ∧ StsAt K (upd G2 D (.frz od (.dT kvs))) sv (as.map (·.2)) ((as.map (·.2)).map fun m => bagOf cs js (rows.map (·.2)) k m) := fun k v hkv => by
    obtain ⟨sa, sv, rfl, n1, e1, st⟩ := gr.vals k v hkv
    refine ⟨sa, sv, rfl, fun e => ?_, sL _ _ n1 e1, StsAt.upd ⟨_, eD⟩ st⟩
    rw [e, s2 _ _ eT1] at e1
    cases e1
    have := st.1
    rw [List.length_map] at this
    exact ne0 (List.eq_nil_of_length_eq_zero this.symm)
  have eD3 : upd G2 D (.frz od (.dT kvs)) D = some (.frz od (.dT kvs)) := upd_same
  generalize upd G2 D (.frz od (.dT kvs)) = G3 at eT3 eL3 s3 gv eD3
  have gk := gr.keys
  have klen : kvs.length ≤ 63 := by
    have h8 := congrArg List.length gk
    rw [List.length_map] at h8
    have h9 := nodup_len_rows (firsts_nd ((rows.map (·.2)).map fun r => pickR r js)) (fun x hx => mem_firsts.mp hx)
    rw [List.length_map, List.length_map] at h9
    omega
  refine for_it (Di.walk_itT (d := D) (o := od) (kvs := kvs)) (fun i σ G => ∃ y4 y5 y7 y8 y9, ∃ res : List (Addr × Row), σ = [some (.ref rsa), some (.ref dt), some (.ref pl), some (.ref L0), y4, y5, some (.ref T), y7, y8, y9] ∧ But T G3 G ∧ G T = some (.lst (res.map fun p => .ref p.1)) ∧ (∀ p ∈ res, SqT K G p.1 (p.2.map kV)) ∧ res.map (·.2) = ((kvs.take i).map (·.1)).map (foldRow cs js (as.map (·.2)) (rows.map (·.2))))
    ⟨_, _, _, _, _, [], rfl, fun a o _ e => e, eT3, fun p h => (by cases h), rfl⟩ (fun i σ G _ ⟨_, _, _, _, _, _, _, b, _⟩ => b _ _ nDT eD3) ?_ ?_
  · rintro i x σ G G' hi ⟨y4, y5, y7, y8, y9, res, rfl, bT, eT, hres, hrk⟩ ⟨T0, k, v, qa, hkv, rfl, eq, nT0, rfl⟩
    obtain ⟨sa, sv, rfl, n1, e1, st⟩ := gv k v (List.mem_of_getElem? hkv)
    have keyIn : k ∈ (rows.map (·.2)).map fun r => pickR r js := mem_firsts.mp (by
      rw [← gk]
      exact List.mem_map.mpr ⟨(k, .ref sa), List.mem_of_getElem? hkv, rfl⟩)
    have sT0 := same_upd (o := .tup [.ref qa, .ref sa]) nT0
    have eTa := sT0 _ _ eT
    have e1a := sT0 _ _ (bT _ _ n1 e1)
    have eLa := sT0 _ _ (bT _ _ nLT eL3)
    have sta : StsAt K (upd G T0 (.tup [.ref qa, .ref sa])) sv (as.map (·.2)) ((as.map (·.2)).map fun m => bagOf cs js (rows.map (·.2)) k m) :=
      ⟨st.1, st.2.1, fun i v m b a1 a2 a3 => ((st.2.2 i v m b a1 a2 a3).but bT ⟨_, eT3⟩).same sT0⟩
    refine ⟨T0, _, rfl, SqT.of upd_same, rfl, _, _, rfl, _, _, rfl, rfl, ?_⟩
    have eqa := sT0 _ _ eq
    generalize upd G T0 (.tup [.ref qa, .ref sa]) = G4 at eTa e1a eLa sta eqa sT0
    have lsv : sv.length = as.length := by rw [st.1, List.length_map]
    refine ⟨_, rfl, .inl ⟨rfl, _, SqL.of eTa⟩, _, rfl, _, rfl, _, rfl, L0, sa, _, _, rfl, SqL.of eLa, SqL.of e1a, fun L2 hL2 => ?_⟩
    refine lc_vals_it (w := walk_zip (K := K) (a := L0) (b := sa) (xs := as.map fun p => V.str p.2.1) (ys := sv) (n := as.length) (by rw [List.length_map, lsv, Nat.min_self])) (ys := as.map fun p => kV (toldK p.2.1 (bagOf cs js (rows.map (·.2)) k p.2))) (fun H h => ⟨SqL.of (h _ _ eLa), SqL.of (h _ _ e1a)⟩) hL2 (List.length_map ..) (lt3 (by omega)) (fun j x y G5 H' Qi hj hy sm hY q2 => ?_) fun G5 s5 eL5 => ?_
    · obtain ⟨T5, x5, y5', rfl, nT5, rfl, hx5, hy5⟩ := hY
      replace hx5 : (as.map fun p => V.str p.2.1)[j]? = some x5 := hx5
      rw [List.getElem?_map] at hx5 hy
      obtain ⟨z, hz, rfl⟩ := Option.map_eq_some_iff.mp hx5
      rw [hz] at hy
      cases hy
      have s6 := same_upd (o := .tup [.str z.2.1, y5']) nT5
      have hm : (as.map (·.2))[j]? = some z.2 := by rw [List.getElem?_map, hz]; rfl
      have hb : ((as.map (·.2)).map fun m => bagOf cs js (rows.map (·.2)) k m)[j]? = some (bagOf cs js (rows.map (·.2)) k z.2) := by rw [List.getElem?_map, hm]; rfl
      have st5 := ((sta.2.2 j y5' z.2 _ hy5 hm hb).same sm).same s6
      have bl := bag_len cs js (rows.map (·.2)) k z.2
      rw [List.length_map] at bl
      refine ⟨T5, _, rfl, SqT.of upd_same, rfl, _, _, rfl, _, _, rfl, rfl, rfl, ?_⟩
      refine ⟨_, rfl, _, rfl, z.2.1, y5', _, rfl, st5, bag_some keyIn, by omega, fun H6 s7 => ?_⟩
      rw [told_kV (bag_some keyIn)]
      exact q2 _ (s6.trans s7)
    · refine ⟨L2, _, rfl, .inl ⟨SqL.of eL5, fun t ht => ?_⟩⟩
      have s6 := s5.trans (same_upd (o := .tup (as.map fun p => kV (toldK p.2.1 (bagOf cs js (rows.map (·.2)) k p.2)))) ht)
      have et : upd G5 t (.tup (as.map fun p => kV (toldK p.2.1 (bagOf cs js (rows.map (·.2)) k p.2)))) t = some (.tup (as.map fun p => kV (toldK p.2.1 (bagOf cs js (rows.map (·.2)) k p.2)))) := upd_same
      generalize upd G5 t (.tup (as.map fun p => kV (toldK p.2.1 (bagOf cs js (rows.map (·.2)) k p.2)))) = G6 at s6 et
      refine Kb.cat_any (K := K) (SqT.of (s6 _ _ eqa)) (SqT.of et) ?_ fun p G7 s7 ep => ?_
      · rw [List.length_map, List.length_map]
        have kl : k.length = js.length := by
          obtain ⟨r, _, rfl⟩ := List.mem_map.mp keyIn
          exact pick_len _ _
        rw [kl, ← hpos.1]
        exact Nat.le_trans (show _ ≤ 1100 by omega) (by decide)
      · have eT7 := s7 _ _ (s6 _ _ eTa)
        have hl : res.length = i := by
          have h8 := congrArg List.length hrk
          rw [List.length_map, List.length_map, List.length_map, List.length_take] at h8
          omega
        have row : k.map kV ++ (as.map fun p => kV (toldK p.2.1 (bagOf cs js (rows.map (·.2)) k p.2))) = (foldRow cs js (as.map (·.2)) (rows.map (·.2)) k).map kV := by
          unfold foldRow
          rw [List.map_append, List.map_map, List.map_map]
          rfl
        rw [row] at ep
        have b7 : But T G3 G7 := fun a o n e => s7 _ _ (s6 _ _ (sT0 _ _ (bT a o n e)))
        refine ⟨T, _, _, rfl, rfl, eT7, by rw [List.length_map]; exact lt3 (by omega), _, _, _, _, _, res ++ [(p, foldRow cs js (as.map (·.2)) (rows.map (·.2)) k)], rfl, fun a o n e => by rw [upd_ne n]; exact b7 a o n e, by rw [upd_same, List.map_append]; rfl, fun z hz => ?_, ?_⟩
        · refine sqT_but (d := T) (fun a o n e => by rw [upd_ne n]; exact e) ⟨_, eT7⟩ ?_
          rcases List.mem_append.mp hz with hz | hz
          · exact seqT_same s7 (seqT_same s6 (seqT_same sT0 (hres z hz)))
          · rw [List.mem_singleton.mp hz]
            exact ep
        · rw [List.map_append, hrk, List.take_add_one, hkv, List.map_append, List.map_append]
          rfl
  · rintro σ G ⟨y4, y5, y7, y8, y9, res, rfl, bT, eT, hres, hrk⟩
    refine ⟨_, rfl, q T G res (butL_same s3 bT nTH) nTH eT hres ?_⟩
    rw [hrk, List.take_length, gk]
    rfl
end
end Kx

namespace Kx
open PySem PySem.Spec PyProof.Rows L2
theorem lateK_true (op : Str) : lateK op true = true := by
  unfold lateK
  split <;> rfl
def joinOk (c e : List NC) (ks : List NC) : Bool := ks.all fun k => (kfN c k.1).isSome && decide (kfN e k.1 = kfN c k.1)
theorem ndC_good {cs : List NC} (h : (cs.map (·.1)).Nodup) : ndC cs = some cs := if_pos h
theorem kind_some {c : Str → Option Bool} {e : Ex} {b : Bool} (k : Kind c e b) : kindE c e = some b := by
  induction k with
  | num h => rfl
  | quo h => rfl
  | col h => exact h
  | arith h ha hb iha ihb =>
    show twoK _ (kindE c _) (kindE c _) = _
    rw [iha, ihb]
    rfl
  | @text op a b h ha hb iha ihb =>
    show twoK _ (kindE c _) (kindE c _) = _
    rw [iha, ihb]
    show (if false = false then (if (false = true ∨ op ∈ cmps) then some true else none) else none) = _
    rw [if_pos rfl, if_pos (.inr (cmpsT_sub _ h))]
  | nt ha ih =>
    show oneK true (kindE c _) = _
    rw [ih]
    rfl
  | mn ha ih =>
    show oneK true (kindE c _) = _
    rw [ih]
    rfl
  | ln ha ih =>
    show oneK false (kindE c _) = _
    rw [ih]
    rfl
theorem kind_ops {c : Str → Option Bool} {e : Ex} {b : Bool} (k : Kind c e b) : OpsOk e := by
  induction k with
  | num h => trivial
  | quo h => trivial
  | col h => trivial
  | arith h ha hb iha ihb =>
    refine ⟨?_, iha, ihb⟩
    rcases h with h | h | h | h
    · exact .inr (List.mem_append_left _ h)
    · exact .inl h
    · rw [h]
      exact .inr (by decide +kernel)
    · rw [h]
      exact .inr (by decide +kernel)
  | text h ha hb iha ihb => exact ⟨.inl (cmpsT_sub _ h), iha, ihb⟩
  | nt ha ih => exact ih
  | mn ha ih => exact ih
  | ln ha ih => exact ih
theorem known_mem : ∀ {kn : List (Str × List NC)}, (kn.map (·.1)).Nodup → ∀ {e : Str × List NC}, e ∈ kn → known kn e.1 = e.2
  | [], _, e, h => absurd h List.not_mem_nil
  | x :: kn, hn, e, h => by
    unfold known
    rw [List.find?_cons]
    by_cases hx : x.1 = e.1
    · have hxe : x = e := by
        rcases List.mem_cons.mp h with rfl | h
        · rfl
        · exact absurd (by show x.1 ∈ _; rw [hx]; exact List.mem_map.mpr ⟨e, h, rfl⟩) (List.nodup_cons.mp hn).1
      rw [decide_eq_true hx, hxe]
      rfl
    · rw [decide_eq_false hx]
      have hl : e ∈ kn := by
        rcases List.mem_cons.mp h with rfl | h
        · exact absurd rfl hx
        · exact h
      exact known_mem (List.nodup_cons.mp hn).2 hl
theorem all_big : ∀ x ∈ allNames, x ∈ bigN := fun x h => List.mem_append_left _ h
theorem nms_big : ∀ x ∈ stepNms, x ∈ bigN := by decide +kernel
theorem nodup_inj {cs : List NC} (h : (cs.map (·.1)).Nodup) {a b : NC} (ha : a ∈ cs) (hb : b ∈ cs) (e : a.1 = b.1) : a = b := by
  have h1 := kfN_of h ha
  have h2 := kfN_of h hb
  rw [e, h2] at h1
  obtain ⟨a1, a2⟩ := a
  obtain ⟨b1, b2⟩ := b
  cases Option.some.inj h1
  cases e
  rfl
theorem filt_names {f k : List NC} (hf : (f.map (·.1)).Nodup) (hk : ∀ x ∈ k, x ∈ f) : f.filter (fun c => decide (c ∉ k)) = f.filter fun c => decide (c.1 ∉ k.map (·.1)) := by
  refine List.filter_congr fun c hc => ?_
  refine decide_eq_decide.mpr (not_congr ⟨fun h => List.mem_map.mpr ⟨c, h, rfl⟩, fun h => ?_⟩)
  obtain ⟨x, hx, e⟩ := List.mem_map.mp h
  rw [← nodup_inj hf (hk x hx) hc e]
  exact hx
theorem step_ok {kn : List (Str × List NC)} {ins : List Str} {det : Det} {cs : List NC} {nm : Str} (hn : (kn.map (·.1)).Nodup) (hcs : ∀ e ∈ kn, (e.2.map (·.1)).Nodup) (O : StepOk kn ins det cs) (nd : (cs.map (·.1)).Nodup) (hnm : nm ∉ kn.map (·.1)) : stepC kn ⟨nm, ins, det⟩ = some cs := by
  have mem : ∀ {x : Str} {c : List NC}, (x, c) ∈ kn → x ∈ kn.map (·.1) := fun h => List.mem_map.mpr ⟨_, h, rfl⟩
  have kno : ∀ {x : Str} {c : List NC}, (x, c) ∈ kn → known kn x = c := fun h => known_mem hn h
  have go : ∀ {r : Option (List NC)}, (∀ x ∈ ins, x ∈ kn.map (·.1)) → colsD (ins.map (known kn)) det = r → stepC kn ⟨nm, ins, det⟩ = r := fun h1 h2 => by
    unfold stepC
    rw [if_neg hnm, if_neg (fun z => by
      obtain ⟨x, hx, hy⟩ := z
      exact hy (h1 x hx))]
    exact h2
  have one : ∀ {x : Str} {c : List NC}, (x, c) ∈ kn → ∀ y ∈ [x], y ∈ kn.map (·.1) := fun h y hy => by
    rw [List.mem_singleton.mp hy]
    exact mem h
  have two : ∀ {x y : Str} {c e : List NC}, (x, c) ∈ kn → (y, e) ∈ kn → ∀ z ∈ [x, y], z ∈ kn.map (·.1) := fun h h' z hz => by
    rcases List.mem_cons.mp hz with rfl | hz
    · exact mem h
    · rw [List.mem_singleton.mp hz]
      exact mem h'
  cases O with
  | @filter one' _ e h k d =>
    refine go (one h) ?_
    show (if kindE (kfN (known kn one')) e = some true then some (known kn one') else none) = _
    rw [kno h, if_pos (kind_some k)]
  | @map one' c ms h k nd' ne l =>
    refine go (one h) ?_
    show (if ms.all (fun m => (kindE (kfN (known kn one')) m.1).isSome) = true then ndC (ms.map fun m => (m.2.2, (kindE (kfN (known kn one')) m.1).getD true)) else none) = _
    rw [kno h, if_pos (List.all_eq_true.mpr fun m hm => by rw [kind_some (k m hm).1]; rfl)]
    have e : (ms.map fun m => (m.2.2, (kindE (kfN c) m.1).getD true)) = ms.map fun m => (m.2.2, m.2.1) := List.map_congr_left fun m hm => by
      rw [kind_some (k m hm).1]
      rfl
    rw [e]
    exact ndC_good nd
  | @fold one' c ks fs h hk hf nd' ne l =>
    refine go (one h) ?_
    show (if (ks.all (fun k => (kfN (known kn one') k.1).isSome) && fs.all fun m => (foldK (kfN (known kn one')) m).isSome) = true then ndC ((ks.map fun k => (k.1, (kfN (known kn one') k.1).getD true)) ++ fs.map fun m => (m.2.2.2, (foldK (kfN (known kn one')) m).getD true)) else none) = _
    rw [kno h]
    have ek : ∀ k ∈ ks, kfN c k.1 = some k.2 := fun k hk' => kfN_of (hcs _ h) (hk k hk')
    have ef : ∀ m ∈ fs, foldK (kfN c) m = some (lateK m.1 m.2.2.1) := fun m hm => by
      obtain ⟨h6, ho⟩ := hf m hm
      obtain ⟨m1, m2, m3, m4⟩ := m
      unfold foldK
      cases m2 with
      | none =>
        obtain ⟨a, b⟩ := ho
        rw [if_pos a]
        dsimp only at a b ⊢
        rw [b, lateK_true]
      | some e =>
        obtain ⟨a, b, _, g⟩ := ho
        rw [if_neg a]
        dsimp only at a b g ⊢
        rw [kind_some b]
        dsimp only
        refine if_neg fun z => ?_
        have : m3 = true := g fun y => by
          have hs := z.1
          simp only [List.mem_cons, List.not_mem_nil, or_false] at hs y
          rcases hs with rfl | rfl
          · rcases y with y | y | y <;> exact absurd y (by decide +kernel)
          · rcases y with y | y | y <;> exact absurd y (by decide +kernel)
        rw [z.2] at this
        cases this
    rw [if_pos (Bool.and_eq_true_iff.mpr ⟨List.all_eq_true.mpr fun k hk' => by rw [ek k hk']; rfl, List.all_eq_true.mpr fun m hm => by rw [ef m hm]; rfl⟩)]
    have e1 : (ks.map fun k => (k.1, (kfN c k.1).getD true)) = ks := by
      conv => rhs; rw [← List.map_id ks]
      exact List.map_congr_left fun k hk' => by rw [ek k hk']; rfl
    have e2 : (fs.map fun m => (m.2.2.2, (foldK (kfN c) m).getD true)) = fs.map fun m => (m.2.2.2, lateK m.1 m.2.2.1) := List.map_congr_left fun m hm => by rw [ef m hm]; rfl
    rw [e1, e2]
    exact ndC_good nd
  | @join one' other f s ks h1 h2 ne hk nd' =>
    refine go (two h1 h2) ?_
    show (if joinOk (known kn one') (known kn other) ks = true then ndC ((ks.map fun k => (k.1, (kfN (known kn one') k.1).getD true)) ++ ((known kn one').filter (fun c => decide (c.1 ∉ ks.map (·.1))) ++ (known kn other).filter fun c => decide (c.1 ∉ ks.map (·.1)))) else none) = _
    rw [kno h1, kno h2]
    have ek : ∀ k ∈ ks, kfN f k.1 = some k.2 := fun k hk' => kfN_of (hcs _ h1) (hk k hk').1
    have ek2 : ∀ k ∈ ks, kfN s k.1 = some k.2 := fun k hk' => kfN_of (hcs _ h2) (hk k hk').2
    rw [if_pos (show joinOk f s ks = true from List.all_eq_true.mpr fun k hk' => by
      show ((kfN f k.1).isSome && decide (kfN s k.1 = kfN f k.1)) = true
      rw [ek k hk', ek2 k hk', decide_eq_true rfl]
      rfl)]
    have e1 : (ks.map fun k => (k.1, (kfN f k.1).getD true)) = ks := by
      conv => rhs; rw [← List.map_id ks]
      exact List.map_congr_left fun k hk' => by rw [ek k hk']; rfl
    rw [e1, ← filt_names (hcs _ h1) fun x hx => (hk x hx).1, ← filt_names (hcs _ h2) fun x hx => (hk x hx).2]
    exact ndC_good nd
  | @union one' other c h1 h2 =>
    refine go (two h1 h2) ?_
    show (if known kn one' = known kn other then some (known kn one') else none) = _
    rw [kno h1, kno h2, if_pos rfl]
  | @unlike one' c h =>
    refine go (one h) ?_
    show some (known kn one') = _
    rw [kno h]
  | @sort one' c ws m h ne hw l m1 m5 =>
    refine go (one h) ?_
    show (if ws.all (fun x => (kfN (known kn one') x.1).isSome) = true then some (known kn one') else none) = _
    rw [kno h, if_pos (List.all_eq_true.mpr fun x hx => by
      obtain ⟨k, hk⟩ := (hw x hx).1
      rw [show kfN cs x.1 = some k from kfN_of (hcs _ h) hk]
      rfl)]
def LawOk (s : Stp) : Prop := StpOk s ∧ ∀ ks fs, s.det = .fold ks fs → ∀ m ∈ fs, m.1 = "count" → m.2.1 = none
def SmallS (s : Stp) : Prop := (∀ x ∈ s.ins, x ∈ bigN) ∧ match s.det with
  | .filter e => e.dep ≤ 11
  | .map ms => ms.length ≤ 99
  | .fold _ fs => fs.length ≤ 99
  | _ => True

theorem law_step {kn : List (Str × List NC)} {ins : List Str} {det : Det} {cs : List NC} {nm : Str} (hb : ∀ x ∈ kn.map (·.1), x ∈ bigN) (O : StepOk kn ins det cs) (inn : ∀ c ∈ cs, c.1 ∈ allNames) : LawOk ⟨nm, ins, det⟩ ∧ SmallS ⟨nm, ins, det⟩ := by
  have mem : ∀ {x : Str} {c : List NC}, (x, c) ∈ kn → x ∈ bigN := fun h => hb _ (List.mem_map.mpr ⟨_, h, rfl⟩)
  have one : ∀ {x : Str} {c : List NC}, (x, c) ∈ kn → ∀ y ∈ [x], y ∈ bigN := fun h y hy => by
    rw [List.mem_singleton.mp hy]
    exact mem h
  have two : ∀ {x y : Str} {c e : List NC}, (x, c) ∈ kn → (y, e) ∈ kn → ∀ z ∈ [x, y], z ∈ bigN := fun h h' z hz => by
    rcases List.mem_cons.mp hz with rfl | hz
    · exact mem h
    · rw [List.mem_singleton.mp hz]
      exact mem h'
  cases O with
  | filter h k d => exact ⟨⟨⟨⟨kind_ops k, by omega⟩, trivial, rfl⟩, fun ks fs z => by cases z⟩, one h, by show _ ≤ 11; omega⟩
  | @map one' c ms h k nd' ne l =>
    refine ⟨⟨⟨⟨by omega, fun m hm => ⟨kind_ops (k m hm).1, by have := (k m hm).2; omega⟩⟩, fun m hm => all_big _ (inn _ (List.mem_map.mpr ⟨m, hm, rfl⟩)), rfl⟩, fun ks fs z => by cases z⟩, one h, by show _ ≤ 99; omega⟩
  | @fold one' c ks fs h hk hf nd' ne l =>
    have lk : ks.length ≤ 24 := by
      have h := few_names (List.nodup_append.mp nd').1 fun x hx => by
        obtain ⟨k, hk', rfl⟩ := List.mem_map.mp hx
        exact inn _ (List.mem_append_left _ hk')
      rw [List.length_map] at h
      exact h
    refine ⟨⟨⟨⟨by omega, by omega, fun m hm hn => ?_⟩, fun m hm => all_big _ (inn (m.2.2.2, lateK m.1 m.2.2.1) (List.mem_append_right _ (List.mem_map.mpr ⟨m, hm, rfl⟩))), rfl⟩, fun ks2 fs2 z m hm hn => ?_⟩, one h, by show _ ≤ 99; omega⟩
    · obtain ⟨_, ho⟩ := hf m hm
      obtain ⟨m1, m2, m3, m4⟩ := m
      cases m2 with
      | none => exact absurd ho.1 hn
      | some e => exact ⟨e, rfl, kind_ops ho.2.1, by have := ho.2.2.1; omega⟩
    · cases z
      obtain ⟨_, ho⟩ := hf m hm
      obtain ⟨m1, m2, m3, m4⟩ := m
      cases m2 with
      | none => rfl
      | some e => exact absurd hn ho.1
  | @join one' other f s ks h1 h2 ne hk nd' =>
    have lk : ks.length ≤ 24 := by
      have hh : (ks.map (·.1)).Nodup := by
        unfold joinC at nd'
        rw [List.map_append] at nd'
        exact (List.nodup_append.mp nd').1
      have h := few_names hh fun x hx => by
        obtain ⟨k, hk', rfl⟩ := List.mem_map.mp hx
        exact inn _ (List.mem_append_left _ hk')
      rw [List.length_map] at h
      exact h
    exact ⟨⟨⟨by show _ ≤ 100; omega, trivial, rfl⟩, fun ks fs z => by cases z⟩, two h1 h2, trivial⟩
  | union h1 h2 => exact ⟨⟨⟨trivial, trivial, rfl⟩, fun ks fs z => by cases z⟩, two h1 h2, trivial⟩
  | unlike h => exact ⟨⟨⟨trivial, trivial, rfl⟩, fun ks fs z => by cases z⟩, one h, trivial⟩
  | sort h ne hw l m1 m5 => exact ⟨⟨⟨by show _ ≤ 100; omega, trivial, rfl⟩, fun ks fs z => by cases z⟩, one h, trivial⟩
end Kx

/-! Sets of tuples of ints and texts, of any size up to a thousand. P1: the tables. -/
namespace Tz
open PySem PySem.Spec PyProof.Rows L2
/-! ### from each place each place is met -/
def five : Nat → Nat
  | 0 => 0
  | n + 1 => five n * 5 + 1
theorem pow_five : ∀ d, 5 ^ d = 4 * five d + 1
  | 0 => rfl
  | d + 1 => by
    rw [Nat.pow_succ, pow_five d]
    show _ = 4 * (five d * 5 + 1) + 1
    omega
theorem five_add (d : Nat) : ∀ a, five (d + a) = five d * 5 ^ a + five a
  | 0 => by simp [five]
  | a + 1 => by
    show five (d + a) * 5 + 1 = five d * 5 ^ (a + 1) + (five a * 5 + 1)
    rw [five_add d a, Nat.pow_succ, Nat.add_mul, Nat.mul_assoc]
    omega
theorem five_odd : ∀ n, five n % 2 = n % 2
  | 0 => rfl
  | n + 1 => by
    have := five_odd n
    show (five n * 5 + 1) % 2 = (n + 1) % 2
    omega
theorem dvd_half {k x : Nat} (h : 2 ^ (k + 1) ∣ 2 * x) : 2 ^ k ∣ x := by
  obtain ⟨c, e⟩ := h
  refine ⟨c, ?_⟩
  rw [Nat.pow_succ, Nat.mul_comm (2 ^ k) 2, Nat.mul_assoc] at e
  omega
theorem even_of {k x : Nat} (h : 2 ^ (k + 1) ∣ x) : x % 2 = 0 := by
  obtain ⟨c, e⟩ := h
  rw [Nat.pow_succ, Nat.mul_comm (2 ^ k) 2, Nat.mul_assoc] at e
  omega
theorem two_odd : ∀ (k x y : Nat), y % 2 = 1 → 2 ^ k ∣ x * y → 2 ^ k ∣ x
  | 0, x, _, _, _ => by rw [Nat.pow_zero]; exact Nat.one_dvd x
  | k + 1, x, y, hy, h => by
    have h2 := even_of h
    have hx : x % 2 = 0 := by
      rw [Nat.mul_mod, hy] at h2
      omega
    obtain ⟨z, rfl⟩ : ∃ z, x = 2 * z := ⟨x / 2, by omega⟩
    rw [Nat.mul_assoc] at h
    obtain ⟨c, e⟩ := two_odd k z y hy (dvd_half h)
    exact ⟨c, by rw [e, Nat.pow_succ, Nat.mul_comm (2 ^ k) 2, Nat.mul_assoc]⟩
theorem five_div : ∀ (k n : Nat), 2 ^ k ∣ five n → 2 ^ k ∣ n
  | 0, n, _ => by rw [Nat.pow_zero]; exact Nat.one_dvd n
  | k + 1, n, h => by
    have h2 := even_of h
    rw [five_odd] at h2
    obtain ⟨m, rfl⟩ : ∃ m, n = m + m := ⟨n / 2, by omega⟩
    have e : five (m + m) = 2 * (five m * (2 * five m + 1)) := by
      rw [five_add, pow_five, ← Nat.mul_succ, show (4 * five m + 1).succ = 2 * (2 * five m + 1) by omega, Nat.mul_left_comm]
    rw [e] at h
    obtain ⟨c, ec⟩ := five_div k m (two_odd k _ _ (by omega) (dvd_half h))
    exact ⟨c, by rw [Nat.pow_succ, Nat.mul_comm (2 ^ k) 2, Nat.mul_assoc, ← ec]; omega⟩
theorem at_step {m i : Nat} (hi : i ≤ m) : ∀ c, lcgI m i c = (i * 5 ^ c + five c) % (m + 1)
  | 0 => by
    show i = (i * 5 ^ 0 + 0) % (m + 1)
    rw [Nat.pow_zero, Nat.mul_one, Nat.add_zero, Nat.mod_eq_of_lt (Nat.lt_succ_of_le hi)]
  | c + 1 => by
    show (lcgI m i c * 5 + 1) % (m + 1) = (i * 5 ^ (c + 1) + (five c * 5 + 1)) % (m + 1)
    rw [at_step hi c, show i * 5 ^ (c + 1) + (five c * 5 + 1) = (i * 5 ^ c + five c) * 5 + 1 by rw [Nat.pow_succ, ← Nat.mul_assoc]; omega]
    simp [Nat.add_mod, Nat.mul_mod]
theorem same_mod {N x y : Nat} (h : (x + y) % N = x % N) : N ∣ y := by
  refine ⟨(x + y) / N - x / N, ?_⟩
  have a := Nat.div_add_mod (x + y) N
  have b := Nat.div_add_mod x N
  rw [Nat.mul_sub]
  omega
theorem apart {m k i a b : Nat} (hm : m + 1 = 2 ^ k) (hi : i ≤ m) (hab : a < b) (hb : b ≤ m) : lcgI m i a ≠ lcgI m i b := by
  intro e
  rw [at_step hi, at_step hi] at e
  obtain ⟨d, rfl⟩ : ∃ d, b = d + a := ⟨b - a, by omega⟩
  have e2 : i * 5 ^ (d + a) + five (d + a) = (i * 5 ^ a + five a) + five d * (5 ^ a * (4 * i + 1)) := by
    have h1 : i * 5 ^ (d + a) = i * 5 ^ a * (4 * five d + 1) := by
      rw [Nat.pow_add, Nat.mul_comm (5 ^ d), ← Nat.mul_assoc, pow_five d]
    have h2 : i * 5 ^ a * (4 * five d) = five d * (5 ^ a * (4 * i)) := by
      generalize 5 ^ a = u
      generalize five d = v
      rw [Nat.mul_comm v, Nat.mul_comm i u, Nat.mul_assoc, Nat.mul_assoc, Nat.mul_left_comm i 4 v, Nat.mul_assoc 4 i v]
    rw [five_add, h1, Nat.mul_add, Nat.mul_one, h2, Nat.mul_add (5 ^ a), Nat.mul_one, Nat.mul_add (five d)]
    omega
  rw [e2] at e
  have hd := same_mod e.symm
  rw [hm] at hd
  have h4 : 5 ^ a * (4 * i + 1) % 2 = 1 := by
    rw [Nat.mul_mod, pow_five a, show (4 * five a + 1) % 2 = 1 by omega, show (4 * i + 1) % 2 = 1 by omega]
  have := Nat.le_of_dvd (by omega) (five_div k d (two_odd k _ _ h4 hd))
  omega
theorem all_met {m k i : Nat} (hm : m + 1 = 2 ^ k) (hi : i ≤ m) {j : Nat} (hj : j ≤ m) : ∃ c, c ≤ m ∧ lcgI m i c = j := by
  rcases Classical.em (∃ c, c ≤ m ∧ lcgI m i c = j) with h | h
  · exact h
  · exfalso
    have le : ∀ c, lcgI m i c ≤ m := fun c => by
      rw [at_step hi]
      exact Nat.le_of_lt_succ (Nat.mod_lt _ (Nat.succ_pos _))
    have nd : ((List.range (m + 1)).map (lcgI m i)).Nodup := by
      refine List.pairwise_map.mpr (List.Pairwise.imp_of_mem (fun {a b} ha hb hab => ?_) List.pairwise_lt_range)
      exact apart hm hi hab (Nat.le_of_lt_succ (List.mem_range.mp hb))
    have := nat_nodup_len _ ((List.range (m + 1)).erase j) nd fun x hx => by
      obtain ⟨c, hc, rfl⟩ := List.mem_map.mp hx
      refine (List.mem_erase_of_ne fun e => h ⟨c, Nat.le_of_lt_succ (List.mem_range.mp hc), e⟩).mpr (List.mem_range.mpr (Nat.lt_succ_of_le (le c)))
    rw [List.length_map, List.length_erase_of_mem (List.mem_range.mpr (Nat.lt_succ_of_le hj)), List.length_range] at this
    omega
/-- a mask of ones -/
def Ones (m : Nat) : Prop := ∃ k, m + 1 = 2 ^ (k + 3) ∧ k ≤ 9
theorem Ones.odd {m : Nat} : Ones m → m % 2 = 1 := fun ⟨k, e, _⟩ => by
  rw [Nat.pow_succ] at e
  omega
theorem Ones.le {m : Nat} : Ones m → m < 4096 := fun ⟨k, e, h⟩ => by
  have := Nat.pow_le_pow_right (show 0 < 2 by decide) (show k + 3 ≤ 12 by omega)
  omega
theorem Ones.ge {m : Nat} : Ones m → 7 ≤ m := fun ⟨k, e, h⟩ => by
  have := Nat.pow_le_pow_right (show 0 < 2 by decide) (show 3 ≤ k + 3 by omega)
  omega
theorem go_pow (n : Nat) : ∀ (f j : Nat), n < 2 ^ (j + f) → ∃ i, SetTable.sizeAbove.go n f (2 ^ j) = 2 ^ i ∧ n < 2 ^ i ∧ j ≤ i ∧ (i = j ∨ 2 ^ (i - 1) ≤ n)
  | 0, j, h => ⟨j, rfl, h, Nat.le_refl _, .inl rfl⟩
  | f + 1, j, h => by
    unfold SetTable.sizeAbove.go
    by_cases c : 2 ^ j ≤ n
    · rw [if_pos c, ← Nat.pow_succ]
      obtain ⟨i, e, a, b, d⟩ := go_pow n f (j + 1) (by rw [show j + 1 + f = j + (f + 1) by omega]; exact h)
      refine ⟨i, e, a, by omega, .inr ?_⟩
      rcases d with rfl | d
      · exact c
      · exact d
    · rw [if_neg c]
      exact ⟨j, rfl, by omega, Nat.le_refl _, .inl rfl⟩
/-- the table that is laid for so many -/
theorem wide_enough {n : Nat} (h : n ≤ 1000) : Ones (SetTable.sizeAbove (SetTable.grown n) - 1) ∧ n * 4 ≤ SetTable.sizeAbove (SetTable.grown n) - 1 ∧ SetTable.sizeAbove (SetTable.grown n) ≤ 4096 := by
  have eg : SetTable.grown n = n * 4 := by
    unfold SetTable.grown
    rw [if_neg (by omega)]
  have hp : n * 4 < 2 ^ (3 + 64) := Nat.lt_of_le_of_lt (show n * 4 ≤ 4000 by omega) (by decide)
  obtain ⟨i, e, a, b, d⟩ := go_pow (n * 4) 64 3 hp
  have e' : SetTable.sizeAbove (SetTable.grown n) = 2 ^ i := by rw [eg]; exact e
  have hi : i ≤ 12 := by
    rcases d with rfl | d
    · decide
    · rcases Nat.lt_or_ge 12 i with z | z
      · have := Nat.pow_le_pow_right (show 0 < 2 by decide) (show 12 ≤ i - 1 by omega)
        omega
      · exact z
  have h12 := Nat.pow_le_pow_right (show 0 < 2 by decide) hi
  rw [e']
  refine ⟨⟨i - 3, ?_, by omega⟩, by omega, h12⟩
  rw [show i - 3 + 3 = i by omega]
  omega
theorem run_at {m : Nat} (hm : Ones m) (h : Int) {j : Nat} (hj : j ≤ m) : ∃ n, n ≤ m + 12 ∧ runI m (SetTable.bits h) n = j := by
  obtain ⟨k, e, _⟩ := hm
  obtain ⟨c, hc, ec⟩ := all_met e (runI_le m (SetTable.bits h) 12) hj
  exact ⟨12 + c, by omega, (runI_tail (bits_lt h) c).trans ec⟩
theorem way_at {m : Nat} (hm : Ones m) (h : Int) {j : Nat} (hj : j ≤ m) : ∃ c, c < 10 * SetTable.turns m ∧ way m h c = j := by
  obtain ⟨n, hn, e⟩ := run_at hm h hj
  obtain ⟨c, hc, e2⟩ := run_nth m (SetTable.bits h) n
  refine ⟨c, by unfold SetTable.turns; omega, ?_⟩
  show (nth m _ c).j = j
  rw [e2]
  exact e
theorem way_in (m : Nat) (h : Int) (c : Nat) : way m h c ≤ m := by
  have hi : SetTable.bits h % (m + 1) ≤ m := Nat.le_of_lt_succ (Nat.mod_lt _ (Nat.succ_pos _))
  have r := runEnd_bd hi
  have q := nth_in (m := m) c (runAt m (SetTable.bits h % (m + 1)) (SetTable.bits h)) (by
    show SetTable.bits h % (m + 1) + (SetTable.runEnd m (SetTable.bits h % (m + 1)) - SetTable.bits h % (m + 1)) ≤ m
    omega)
  exact Nat.le_trans (Nat.le_add_right _ _) q
/-- the first place of the way at which something does not stand -/
theorem way_out {m : Nat} (hm : Ones m) (h : Int) {p : List Nat} (hp : p.length ≤ m) : ∃ c, c < 10 * SetTable.turns m ∧ way m h c ∉ p ∧ ∀ b, b < c → way m h b ∈ p := by
  obtain ⟨j, hj, hn⟩ := st_missing p (m + 1) (by omega)
  obtain ⟨c, hc, e⟩ := way_at hm h (Nat.le_of_lt_succ hj)
  obtain ⟨d, d1, d2, d3⟩ := st_least (p := fun b => way m h b ∉ p) c (by rw [e]; exact hn)
  exact ⟨d, Nat.lt_of_le_of_lt d1 hc, d2, fun b hb => Classical.not_not.mp (d3 b hb)⟩
end Tz

/-! P2: the members in their places; one more; all laid anew. -/
namespace Tz
open PySem PySem.Spec PyProof.Rows L2
/-- a member: its place in the table, its address, its items -/
structure Ent where
  j : Nat
  a : Addr
  k : List L2.Key
abbrev hsh (P : Program) (w : World) (k : List L2.Key) : Int := tupleKeyHash (mixKind P w) k
abbrev Ent.row (P : Program) (w : World) (e : Ent) : Int × Value := (hsh P w e.k, .ref e.a)
abbrev Ent.ak (e : Ent) : Addr × List L2.Key := (e.a, e.k)
/-- it stands at a place of its way ahead of which all places are taken -/
def Found (P : Program) (w : World) (m : Nat) (js : List Nat) (e : Ent) : Prop := e.j ≤ m ∧ ∃ c, way m (hsh P w e.k) c = e.j ∧ ∀ b, b < c → way m (hsh P w e.k) b ∈ js
theorem Found.mono {P : Program} {w : World} {m : Nat} {js ks : List Nat} {e : Ent} (h : ∀ x ∈ js, x ∈ ks) : Found P w m js e → Found P w m ks e := fun ⟨l, c, e1, f⟩ => ⟨l, c, e1, fun b hb => h _ (f b hb)⟩
structure Tab (P : Program) (w : World) (t : SetTable) (M : List Ent) : Prop where
  places : t.place.toList = M.map (·.j)
  asc : Ris (M.map (·.j))
  clean : t.dummies = #[]
  ones : Ones t.mask
  met : ∀ e ∈ M, Found P w t.mask (M.map (·.j)) e
variable {P : Program} {w : World}
theorem in_put {A B : Type} {f : A → B} {M : List A} {p : Nat} {x : A} {y : B} : y ∈ (M.take p ++ x :: M.drop p).map f ↔ y = f x ∨ y ∈ M.map f := by
  rw [((put_perm M p x).map f).mem_iff, List.map_cons, List.mem_cons]
theorem Tab.put {t : SetTable} {M : List Ent} (T : Tab P w t M) {x : Addr} {k : List L2.Key} {c : Nat} (hc : way t.mask (hsh P w k) c ∉ M.map (·.j)) (hb : ∀ b, b < c → way t.mask (hsh P w k) b ∈ M.map (·.j)) :
    ∃ t' p, t.put (way t.mask (hsh P w k) c) = (t', p) ∧ Tab P w t' (M.take p ++ ⟨way t.mask (hsh P w k) c, x, k⟩ :: M.drop p) ∧ t'.mask = t.mask ∧ t'.led = t.led ∧ t'.plain = t.plain ∧ t'.moves = t.moves := by
  obtain ⟨j, hj⟩ : ∃ j, j = way t.mask (hsh P w k) c := ⟨_, rfl⟩
  rw [← hj] at hc ⊢
  have r : Ris t.place.toList := by rw [T.places]; exact T.asc
  have hn : t.place[SetTable.below t.place j]? ≠ some j := fun e => by
    rw [← Array.getElem?_toList, T.places] at e
    exact hc (List.mem_of_getElem? e)
  have e1 : (SetTable.insertAt t.place (SetTable.below t.place j) j).toList = (M.take (SetTable.below t.place j) ++ (⟨j, x, k⟩ : Ent) :: M.drop (SetTable.below t.place j)).map (·.j) := by
    rw [SetTable.toList_insertAt, T.places, List.map_append, List.map_cons, List.map_take, List.map_drop]
  refine ⟨_, SetTable.below t.place j, rfl, ⟨e1, by rw [← e1]; exact ris_insert r hn, put_dm T.clean j, T.ones, fun e he => ?_⟩, rfl, rfl, rfl, rfl⟩
  have up : ∀ y ∈ M.map (·.j), y ∈ (M.take (SetTable.below t.place j) ++ (⟨j, x, k⟩ : Ent) :: M.drop (SetTable.below t.place j)).map (·.j) := fun y hy => in_put.mpr (.inr hy)
  rcases List.mem_cons.mp ((put_perm M _ _).mem_iff.mp he) with rfl | he
  · refine ⟨?_, c, hj.symm, fun b hb' => up _ (hb b hb')⟩
    show j ≤ t.mask
    rw [hj]
    exact way_in _ _ _
  · exact (T.met e he).mono up
/-! ### all laid anew -/
structure Sits (P : Program) (w : World) (m : Nat) (M : List Ent) (owner : Array (Option Nat)) : Prop where
  sz : owner.size = m + 1
  who : ∀ j i, j ≤ m → (oAt owner j = some i ↔ ∃ e, M[i]? = some e ∧ e.j = j)
  nd : (M.map (·.j)).Nodup
  met : ∀ e ∈ M, Found P w m (M.map (·.j)) e
theorem Sits.new (m : Nat) : Sits P w m [] (Array.replicate (m + 1) none) :=
  ⟨by simp, fun j i hj => ⟨fun e => (by rw [oAt_init hj] at e; cases e), fun ⟨e, h, _⟩ => (by cases h)⟩, List.nodup_nil, fun e he => (by cases he)⟩
theorem Sits.free {m : Nat} {M : List Ent} {owner : Array (Option Nat)} (S : Sits P w m M owner) {j : Nat} (hj : j ≤ m) : oAt owner j = none ↔ j ∉ M.map (·.j) := by
  constructor
  · intro e h
    obtain ⟨x, hx, ex⟩ := List.mem_map.mp h
    obtain ⟨i, hi, ei⟩ := List.getElem_of_mem hx
    rw [(S.who j i hj).mpr ⟨x, by rw [List.getElem?_eq_getElem hi, ei], ex⟩] at e
    cases e
  · intro h
    cases e : oAt owner j with
    | none => rfl
    | some i =>
      obtain ⟨x, hx, ex⟩ := (S.who j i hj).mp e
      exact absurd (List.mem_map.mpr ⟨x, List.mem_of_getElem? hx, ex⟩) h
/-- the first free place, and that the search for it ends there -/
theorem Sits.step {m : Nat} (hm : Ones m) {M : List Ent} {owner : Array (Option Nat)} (S : Sits P w m M owner) (hl : M.length ≤ m) (x : Addr) (k : List L2.Key) :
    ∃ j, SetTable.layClean.free m owner (SetTable.turns m) (SetTable.bits (hsh P w k) % (m + 1)) (SetTable.bits (hsh P w k)) = some j ∧ Sits P w m (M ++ [⟨j, x, k⟩]) (owner.setIfInBounds j (some M.length)) := by
  have hp : (M.map (·.j)).length ≤ m := by rw [List.length_map]; exact hl
  obtain ⟨g, hg, hgn⟩ := st_missing (M.map (·.j)) (m + 1) (by omega)
  obtain ⟨n, hn, en⟩ := run_at hm (hsh P w k) (Nat.le_of_lt_succ hg)
  have ew : way m (hsh P w k) (off m (SetTable.bits (hsh P w k) % (m + 1)) (SetTable.bits (hsh P w k)) n) = g := by
    show (nth m _ _).j = g
    rw [nth_off, itL_run]
    exact en
  obtain ⟨c, c1, c2, c3⟩ := st_least (p := fun b => way m (hsh P w k) b ∉ M.map (·.j)) _ (by rw [ew]; exact hgn)
  have c3' : ∀ b, b < c → way m (hsh P w k) b ∈ M.map (·.j) := fun b hb => Classical.not_not.mp (c3 b hb)
  have hle := way_in m (hsh P w k) c
  have hfr := (S.free hle).mpr c2
  refine ⟨way m (hsh P w k) c, free_spec m owner (SetTable.turns m) n _ _ c (by unfold SetTable.turns; omega) c1 (fun b hb => ?_) (by rw [show oAt owner (nth m _ c).j = none from hfr]; rfl), ?_⟩
  · cases z : oAt owner (nth m (runAt m (SetTable.bits (hsh P w k) % (m + 1)) (SetTable.bits (hsh P w k))) b).j with
    | none => exact absurd (c3' b hb) ((S.free (way_in m (hsh P w k) b)).mp z)
    | some _ => rfl
  · have hs : way m (hsh P w k) c < owner.size := by rw [S.sz]; exact Nat.lt_succ_of_le hle
    obtain ⟨j, hj⟩ : ∃ j, j = way m (hsh P w k) c := ⟨_, rfl⟩
    rw [← hj] at c2 hle hfr hs ⊢
    have up : ∀ y ∈ M.map (·.j), y ∈ (M ++ [(⟨j, x, k⟩ : Ent)]).map (·.j) := fun y hy => by
      rw [List.map_append]
      exact List.mem_append_left _ hy
    refine ⟨by rw [Array.size_setIfInBounds]; exact S.sz, fun y i hy => ?_, ?_, fun e he => ?_⟩
    · by_cases z : y = j
      · rw [z, oAt_set_self _ hs]
        constructor
        · intro e
          cases e
          exact ⟨⟨j, x, k⟩, by rw [List.getElem?_append_right (Nat.le_refl _), Nat.sub_self]; rfl, rfl⟩
        · rintro ⟨e, h, ej⟩
          by_cases hi : i < M.length
          · rw [List.getElem?_append_left hi] at h
            exact absurd (List.mem_map.mpr ⟨e, List.mem_of_getElem? h, ej⟩) c2
          · have := (List.getElem?_eq_some_iff.mp h).1
            rw [List.length_append, List.length_singleton] at this
            rw [show i = M.length by omega]
      · rw [oAt_set_ne _ z, S.who y i hy]
        constructor
        · rintro ⟨e, h, ej⟩
          exact ⟨e, by rw [List.getElem?_append_left (List.getElem?_eq_some_iff.mp h).1]; exact h, ej⟩
        · rintro ⟨e, h, ej⟩
          by_cases hi : i < M.length
          · rw [List.getElem?_append_left hi] at h
            exact ⟨e, h, ej⟩
          · rw [List.getElem?_append_right (by omega)] at h
            have := List.mem_singleton.mp (List.mem_of_getElem? h)
            rw [this] at ej
            exact absurd ej.symm z
    · rw [List.map_append]
      refine List.nodup_append.mpr ⟨S.nd, List.nodup_cons.mpr ⟨List.not_mem_nil, List.nodup_nil⟩, fun y hy z hz e => ?_⟩
      have e' : y = j := e.trans (List.mem_singleton.mp hz)
      exact c2 (e' ▸ hy)
    · rcases List.mem_append.mp he with he | he
      · exact (S.met e he).mono up
      · rw [List.mem_singleton.mp he]
        exact ⟨hle, c, hj.symm, fun b hb => up _ (c3' b hb)⟩
theorem Sits.all {m : Nat} (hm : Ones m) : ∀ (rest : List (Addr × List L2.Key)) (M : List Ent) (owner : Array (Option Nat)), Sits P w m M owner → M.length + rest.length ≤ m →
    ∃ owner' N, (rest.map fun q => hsh P w q.2).foldl (stepF m) (some (owner, M.length)) = some (owner', (M ++ N).length) ∧ Sits P w m (M ++ N) owner' ∧ N.map Ent.ak = rest
  | [], M, owner, S, _ => ⟨owner, [], by rw [List.append_nil]; rfl, by rw [List.append_nil]; exact S, rfl⟩
  | q :: rest, M, owner, S, hl => by
    rw [List.length_cons] at hl
    obtain ⟨j, e, S2⟩ := S.step hm (by omega) q.1 q.2
    have el : (M ++ [(⟨j, q.1, q.2⟩ : Ent)]).length = M.length + 1 := by rw [List.length_append]; rfl
    obtain ⟨owner', N, f, S3, en⟩ := Sits.all hm rest _ _ S2 (by omega)
    have ea : M ++ [(⟨j, q.1, q.2⟩ : Ent)] ++ N = M ++ ⟨j, q.1, q.2⟩ :: N := by rw [List.append_assoc]; rfl
    rw [ea] at S3
    rw [ea, el] at f
    refine ⟨owner', ⟨j, q.1, q.2⟩ :: N, ?_, S3, by rw [List.map_cons, en]⟩
    rw [List.map_cons, List.foldl_cons, stepF_some e]
    exact f
theorem map_inj_perm {A B : Type} {f : A → B} {l m : List A} (hl : (l.map f).Nodup) (hm : (m.map f).Nodup) (h : ∀ x, x ∈ l ↔ x ∈ m) : l.Perm m :=
  (List.perm_ext_iff_of_nodup (nodup_of_map hl) (nodup_of_map hm)).mpr h
/-- the members by their places -/
theorem Sits.sorted {m : Nat} {M : List Ent} {owner : Array (Option Nat)} (S : Sits P w m M owner) :
    ∃ N, N = ((liveOf m owner).map (·.2)).filterMap (fun i => M[i]?) ∧ N.map (·.j) = (liveOf m owner).map (·.1) ∧ N.Perm M ∧ Ris (N.map (·.j)) := by
  have key : ∀ l : List (Nat × Nat), (∀ q ∈ l, q ∈ liveOf m owner) → ((l.map (·.2)).filterMap fun i => M[i]?).map (·.j) = l.map (·.1) := by
    intro l
    induction l with
    | nil => intro _; rfl
    | cons q l ih =>
      intro h
      obtain ⟨a, b⟩ := (mem_live S.sz).mp (h q List.mem_cons_self)
      obtain ⟨e, e1, e2⟩ := (S.who _ _ a).mp b
      rw [List.map_cons, List.filterMap_cons_some e1, List.map_cons, List.map_cons, ih fun x hx => h x (List.mem_cons_of_mem _ hx), e2]
  have r : Ris ((liveOf m owner).map (·.1)) := (ris_live (fun j => owner.getD j none) (List.range (m + 1)) List.pairwise_lt_range).1
  have ej := key _ fun q h => h
  refine ⟨_, rfl, ej, ?_, by rw [ej]; exact r⟩
  refine map_inj_perm (f := (·.j)) (by rw [ej]; exact List.Pairwise.imp (fun h => Nat.ne_of_lt h) r) S.nd fun x => ?_
  rw [List.mem_filterMap]
  constructor
  · rintro ⟨i, _, e⟩
    exact List.mem_of_getElem? e
  · intro hx
    obtain ⟨i, hi, ei⟩ := List.getElem_of_mem hx
    have e : M[i]? = some x := by rw [List.getElem?_eq_getElem hi, ei]
    have hj := (S.met x hx).1
    exact ⟨i, List.mem_map.mpr ⟨(x.j, i), (mem_live S.sz).mpr ⟨hj, (S.who _ _ hj).mpr ⟨x, e, rfl⟩⟩, rfl⟩, e⟩
theorem relaid_tab (t : SetTable) {es : Array (Int × Value)} {M : List Ent} {wanted m : Nat} (he : es.toList = M.map (Ent.row P w)) (hw : SetTable.sizeAbove wanted - 1 = m) (hm : Ones m) (hn : M.length ≤ m) :
    ∃ t' order N, t.relaid (es.map (·.1)) wanted = some (t', order) ∧ (order.filterMap (es[·]?)).toList = N.map (Ent.row P w) ∧ Tab P w t' N ∧ (N.map Ent.ak).Perm (M.map Ent.ak) ∧ t'.mask = m ∧ t'.led = t.led ∧ t'.plain = t.plain := by
  have e0 : (es.map (·.1)).toList = ((M.map Ent.ak).map fun q => hsh P w q.2) := by
    rw [Array.toList_map, he, List.map_map, List.map_map]
    rfl
  obtain ⟨owner, M2, f, S, ea⟩ := Sits.all hm (M.map Ent.ak) [] _ (Sits.new (P := P) (w := w) m) (by rw [List.length_map]; show 0 + _ ≤ m; omega)
  rw [List.nil_append] at S
  obtain ⟨N, eN, ej, pm, r⟩ := S.sorted
  have lay : SetTable.layClean m (es.map (·.1)) = some owner := by
    rw [layClean_eq, e0]
    have f' : (((M.map Ent.ak).map fun q => hsh P w q.2).foldl (stepF m) (some (Array.replicate (m + 1) none, 0))) = some (owner, ([] ++ M2).length) := f
    rw [f']
    rfl
  have hes : ∀ i : Nat, es[i]? = (M2[i]?).map (Ent.row P w) := fun i => by
    have e3 : M.map (Ent.row P w) = M2.map (Ent.row P w) := by
      have h1 : M.map (Ent.row P w) = (M.map Ent.ak).map fun q => ((hsh P w q.2, Value.ref q.1) : Int × Value) := by rw [List.map_map]; rfl
      rw [h1, ← ea, List.map_map]
      rfl
    rw [← Array.getElem?_toList, he, e3, List.getElem?_map]
  refine ⟨tabOf t m owner, ((liveOf m owner).map (·.2)).toArray, N, by rw [relaid_eq, hw, lay]; rfl, ?_, ⟨?_, r, rfl, hm, fun e hx => ?_⟩, ?_, rfl, rfl, rfl⟩
  · rw [eN, Array.toList_filterMap, List.map_filterMap]
    congr 1
    funext i
    exact hes i
  · rw [ej]
    rfl
  · have := S.met e (pm.mem_iff.mp hx)
    exact this.mono fun y hy => ((pm.map (·.j)).mem_iff).mpr hy
  · rw [← ea]
    exact pm.map Ent.ak
end Tz

/-! P3: a member sought, a member put in. -/
namespace Tz
open PySem PySem.Spec PyProof.Rows L2
abbrev IsU (P : Program) (w : World) (h : Heap) (k : List L2.Key) (a : Addr) : Prop := IsTupleKey (mixKind P w) h k a
structure Stands (P : Program) (w : World) (h : Heap) (a : Addr) (M : List Ent) (es : Array (Int × Value)) (ep : Nat) (t : SetTable) : Prop where
  here : ∃ o, h.get? a = some o ∧ o.ExactSet ∧ o.data = .set es ep t
  told : es.toList = M.map (Ent.row P w)
  tab : Tab P w t M
  uniq : (M.map (·.k)).Nodup
  order : w.params.followText "set-order" = true ∨ t.led = true
  sparse : M.length * 5 < t.mask * 3
/-- tuples asked, nothing is seen of it -/
def Plainly (v : Value) : Prop := (∀ n, ofAClassStatement n v = pure false) ∧ ∀ n, ∃ b, hashByValue n v = pure b
section
variable {P : Program} {w : World} {A : Around} {E : Value → Shared → Prop} {s : Shared}
theorem plainly_items {k : List L2.Key} {vs : List Value} (h : ItemsAre (mixKind P w) k vs) : ∀ v ∈ vs, Plainly v := by
  induction h with
  | nil => exact fun v hv => nomatch hv
  | @cons z u ks us h1 _ ih =>
    intro v hv
    rcases List.mem_cons.mp hv with rfl | hv
    · rcases keyIs_shape h1 with ⟨i, t, rfl, rfl⟩ | ⟨x, t, rfl, rfl⟩ <;> exact ⟨fun n => by cases n <;> rfl, fun n => ⟨_, hashByValue_scannable n rfl⟩⟩
    · exact ih v hv
/-- a loop over items that none of them ends -/
theorem each_plain {vs : Array Value} (hv : ∀ v ∈ vs.toList, Plainly v) {f : Value → Option Bool × Unit → Sem (ForInStep (Option Bool × Unit))}
    (hf : ∀ v, Plainly v → ∀ s' : Shared, ∀ R : ForInStep (Option Bool × Unit) → Shared → Prop, R (.yield (none, ())) s' → wpAny (model P w) A (f v (none, ())) R E s') {Q : Option Bool × Unit → Shared → Prop} (q : Q (none, ()) s) :
    wpAny (model P w) A (forIn vs (none, ()) f) Q E s := by
  rw [← Array.forIn_toList]
  refine wpAny_forIn_list _ (fun rest r s' => r = (none, ()) ∧ s' = s ∧ ∀ v ∈ rest, Plainly v) _ ?_ ?_ _ _ ⟨rfl, rfl, hv⟩
  · rintro v rest r s' ⟨rfl, rfl, hall⟩
    exact hf v (hall v List.mem_cons_self) s' _ ⟨rfl, rfl, fun u hu => hall u (List.mem_cons_of_mem _ hu)⟩
  · rintro r s' ⟨rfl, rfl, _⟩
    exact q
theorem no_class {k : List L2.Key} {b : Addr} {Q : Bool → Shared → Prop} (hk : IsU P w s.heap k b) (q : Q false s) : wpAny (model P w) A (ofAClassStatement 8 (.ref b)) Q E s := by
  have tp := hk.typeIs
  obtain ⟨o, items, n, ho, _, hd, hi⟩ := hk
  unfold ofAClassStatement
  refine wpAny_bind (wpAny_typeOf tp ?_)
  dsimp only
  simp only [show (("tuple" : String) == "tuple") = true by decide, if_true, Bool.not_true, Bool.false_eq_true, if_false]
  try refine wpAny_bind (wpAny_pure ?_)
  show wpAny _ _ (seqItems? (.ref b) >>= _) _ _ s
  refine wpAny_bind (wpAny_seqItems ho hd ?_)
  dsimp only
  refine wpAny_bind (each_plain (plainly_items hi) (fun v pv s' R r => ?_) ?_)
  · rw [pv.1]
    refine wpAny_bind (wpAny_pure ?_)
    simp only [Bool.false_eq_true, if_false]
    exact wpAny_pure r
  · exact wpAny_pure q
theorem by_value {k : List L2.Key} {b : Addr} {Q : Bool → Shared → Prop} (hk : IsU P w s.heap k b) (q : ∀ c, Q c s) : wpAny (model P w) A (hashByValue 8 (.ref b)) Q E s := by
  have tp := hk.typeIs
  obtain ⟨o, items, n, ho, _, hd, hi⟩ := hk
  unfold hashByValue
  refine wpAny_bind (wpAny_specialOf tp F.slot_tuple_hash.lookup ?_)
  show wpAny _ _ (seqItems? (.ref b) >>= _) _ _ s
  refine wpAny_bind (wpAny_seqItems ho hd ?_)
  refine wpAny_bind ?_
  show wpAny _ _ (forIn items _ _) _ _ s
  rw [← Array.forIn_toList]
  refine wpAny_forIn_list _ (fun rest r s' => r = (none, ()) ∧ s' = s ∧ ∀ v ∈ rest, Plainly v) _ ?_ ?_ _ _ ⟨rfl, rfl, plainly_items hi⟩
  · rintro v rest r s' ⟨rfl, rfl, hall⟩
    obtain ⟨c, ec⟩ := (hall v List.mem_cons_self).2 7
    rw [ec]
    refine wpAny_bind (wpAny_pure ?_)
    cases c with
    | true =>
      simp only [Bool.not_true, Bool.false_eq_true, if_false]
      exact wpAny_pure ⟨rfl, rfl, fun u hu => hall u (List.mem_cons_of_mem _ hu)⟩
    | false =>
      simp only [Bool.not_false, if_true]
      exact wpAny_pure (wpAny_pure (q false))
  · rintro r s' ⟨rfl, rfl, _⟩
    exact wpAny_pure (q true)
/-- a search among tuples cannot be seen -/
theorem unseen {k : List L2.Key} {b : Addr} {Q : Bool → Shared → Prop} (hk : IsU P w s.heap k b) {ys : List Value} (hy : ∀ y ∈ ys, ∃ z c, y = Value.ref c ∧ IsU P w s.heap z c) (q : Q false s) :
    wpAny (model P w) A (searchCouldBeSeen (.ref b) ys) Q E s := by
  unfold searchCouldBeSeen
  refine wpAny_bind ?_
  refine wpAny_forIn_list _ (fun rest r s' => r = (none, ()) ∧ s' = s ∧ ∀ y ∈ rest, ∃ z c, y = Value.ref c ∧ IsU P w s.heap z c) _ ?_ ?_ _ _ ⟨rfl, rfl, hy⟩
  · rintro v rest r s' ⟨rfl, rfl, hall⟩
    obtain ⟨z, c, rfl, hc⟩ := hall v List.mem_cons_self
    have more := fun u (hu : u ∈ rest) => hall u (List.mem_cons_of_mem _ hu)
    dsimp only
    by_cases same : (b == c || (carriedByValue (.ref b) && carriedByValue (.ref c))) = true
    · exact wp_if_pos same (wpAny_pure ⟨rfl, rfl, more⟩)
    · refine wp_if_neg same (wpAny_bind (wpAny_eqIsQuiet_tuple hk ?_))
      simp only [Bool.not_true, Bool.false_eq_true, if_false]
      refine wpAny_bind (wpAny_eqIsQuiet_tuple hc ?_)
      simp only [Bool.not_true, Bool.false_eq_true, if_false]
      refine wpAny_bind (no_class hk ?_)
      simp only [Bool.false_eq_true, if_false]
      refine wpAny_bind (no_class hc ?_)
      simp only [Bool.false_eq_true, if_false]
      exact wpAny_pure ⟨rfl, rfl, more⟩
  · rintro r s' ⟨rfl, rfl, _⟩
    exact wpAny_pure q
variable {a : Addr} {M : List Ent} {es : Array (Int × Value)} {ep : Nat} {t : SetTable}
theorem Stands.size (Z : Stands P w s.heap a M es ep t) : es.size = M.length := by
  rw [← Array.length_toList, Z.told, List.length_map]
theorem fits_of (hp : t.place.size = es.size) (hd : t.dummies = #[]) (hm : es.size ≤ t.mask) : t.fits es.size = true := by
  unfold SetTable.fits SetTable.fill
  rw [hd, Bool.and_eq_true, beq_iff_eq, decide_eq_true_eq]
  exact ⟨hp, by rw [hp]; exact hm⟩
theorem Tab.size {P : Program} {w : World} {t : SetTable} {M : List Ent} (T : Tab P w t M) : t.place.size = M.length := by
  rw [← Array.length_toList, T.places, List.length_map]
theorem Stands.fits (Z : Stands P w s.heap a M es ep t) : t.fits es.size = true :=
  fits_of (by rw [Z.tab.size, Z.size]) Z.tab.clean (by have := Z.sparse; rw [Z.size]; omega)
theorem Stands.row (Z : Stands P w s.heap a M es ep t) (i : Nat) : es[i]? = (M[i]?).map (Ent.row P w) := by
  rw [← Array.getElem?_toList, Z.told, List.getElem?_map]
theorem no_dummy (m : Nat) : ∀ (n : Nat) (p : SetTable.Probe), p.dummy = none → (nth m p n).dummy = none
  | 0, _, h => h
  | n + 1, p, h => no_dummy m n (adv m p) (by
    unfold adv
    split <;> exact h)
abbrev pr (m : Nat) (h : Int) (c : Nat) : SetTable.Probe := nth m (runAt m (SetTable.bits h % (m + 1)) (SetTable.bits h)) c
/-- the search, from a step of the way on -/
theorem look (Z : Stands P w s.heap a M es ep t) (tup : ∀ e ∈ M, IsU P w s.heap e.k e.a) {x : Addr} {k : List L2.Key} (hx : IsU P w s.heap k x) (hu : A.units < cLine) {d : Nat} (d0 : d < 10 * SetTable.turns t.mask)
    (d1 : way t.mask (hsh P w k) d ∉ t.place.toList) (d2 : ∀ b, b < d → way t.mask (hsh P w k) b ∈ t.place.toList) {Q : SetFound → Shared → Prop} (yes : k ∈ M.map (·.k) → Q (.there none) s)
    (no : k ∉ M.map (·.k) → Q (.free (way t.mask (hsh P w k) d) false) s) : ∀ (f c : Nat) (stand : Option SetTable.Probe), stand.getD (t.probeStart (hsh P w k)) = pr t.mask (hsh P w k) c → c ≤ d → d - c < f →
      (∀ e ∈ M, e.k = k → ∃ b, c ≤ b ∧ b < d ∧ way t.mask (hsh P w k) b = e.j) → wpAny (model P w) A (setSearchFrom a (.ref x) (hsh P w k) true f stand) Q E s
  | 0, _, _, _, _, hf, _ => absurd hf (Nat.not_lt_zero _)
  | f + 1, c, stand, st, hc, hf, left => by
    obtain ⟨o, ho, hex, hd⟩ := Z.here
    have r : Ris t.place.toList := by rw [Z.tab.places]; exact Z.tab.asc
    rw [setSearchFrom_succ]
    refine wpAny_bind (wpAny_setState_of ho hd Z.fits ?_)
    dsimp only
    refine wp_if_neg (by
      unfold SetTable.gaveWay
      rw [Z.tab.ones.odd]
      decide) ?_
    try refine wpAny_bind (wpAny_pure ?_)
    have on : ∀ b, nth t.mask (pr t.mask (hsh P w k) c) b = pr t.mask (hsh P w k) (c + b) := fun b => (nth_add t.mask c _ b).symm
    have onj : ∀ b, (nth t.mask (pr t.mask (hsh P w k) c) b).j = way t.mask (hsh P w k) (c + b) := fun b => congrArg SetTable.Probe.j (on b)
    have ec : c + (d - c) = d := by omega
    have hash : ∀ (i : Nat) (e : Ent), M[i]? = some e → ((es[i]?.map (·.1)).getD 0) = hsh P w e.k := fun i e h => by rw [Z.row, h]; rfl
    rcases go_spec t r Z.tab.clean (fun i => (es[i]?.map (·.1)).getD 0) (hsh P w k) (10 * SetTable.turns t.mask) (d - c) _ (no_dummy t.mask c _ rfl) (by omega)
      (fun b hb => by rw [onj]; exact d2 _ (by omega)) (by rw [onj, ec]; exact d1) with ⟨b, i, hb, hi, hh, before, hp⟩ | ⟨before, hp⟩
    · have hp' : t.probe (fun i => (es[i]?.map (·.1)).getD 0) (hsh P w k) (stand.getD (t.probeStart (hsh P w k))) = some (.candidate (way t.mask (hsh P w k) (c + b)) i (pr t.mask (hsh P w k) (c + b + 1))) := by
        rw [st, ← onj, Nat.add_assoc, ← on]
        exact hp
      rw [hp']
      dsimp only
      rw [onj] at hi
      have hij := hi
      rw [Z.tab.places, List.getElem?_map] at hij
      obtain ⟨e, he, ej⟩ := Option.map_eq_some_iff.mp hij
      have hem := List.mem_of_getElem? he
      have her : es[i]? = some (hsh P w e.k, Value.ref e.a) := by rw [Z.row, he]; rfl
      have rest : wpAny (model P w) A (searchRest a (.ref x) (hsh P w k) true f es t (way t.mask (hsh P w k) (c + b)) i (pr t.mask (hsh P w k) (c + b + 1))) Q E s := by
        unfold searchRest
        rw [her]
        dsimp only
        refine wpAny_bind (wpAny_holding (wpAny_eqBool_tuple hu (tup e hem) hx ?_))
        refine wpAny_bind (wpAny_setState_of ho hd Z.fits ?_)
        dsimp only
        by_cases ek : e.k = k
        · exact wp_if_pos (by simp [ek]) (wpAny_pure (yes (List.mem_map.mpr ⟨e, hem, ek⟩)))
        · refine wp_if_neg (by simp [ek]) ?_
          try refine wpAny_bind (wpAny_pure ?_)
          rw [sameMem]
          dsimp only
          have live : t.slot (way t.mask (hsh P w k) (c + b)) = .live i := slot_live r hi
          simp only [if_true, live, her]
          refine wpAny_bind (wpAny_isSame_ref_self (wpAny_bind (wpAny_pure ?_)))
          simp only [if_true]
          refine wp_if_neg (by simp [ek]) ?_
          refine look Z tup hx hu d0 d1 d2 yes no f (c + b + 1) _ rfl (by omega) (by omega) fun e2 h2 k2 => ?_
          obtain ⟨g, g1, g2, g3⟩ := left e2 h2 k2
          obtain ⟨i2, hi2, ei2⟩ := List.getElem_of_mem h2
          have he2 : M[i2]? = some e2 := by rw [List.getElem?_eq_getElem hi2, ei2]
          refine ⟨g, ?_, g2, g3⟩
          rcases Nat.lt_trichotomy g (c + b) with z | z | z
          · exfalso
            have at2 : t.place.toList[i2]? = some (way t.mask (hsh P w k) (c + (g - c))) := by
              rw [show c + (g - c) = g by omega, Z.tab.places, List.getElem?_map, he2, g3]
              rfl
            exact before (g - c) i2 (by omega) (by rw [onj]; exact at2) ((hash i2 e2 he2).trans (by rw [k2]))
          · exfalso
            rw [z] at g3
            have nd : (M.map (·.j)).Nodup := List.Pairwise.imp (fun h => Nat.ne_of_lt h) Z.tab.asc
            have a1 : (M.map (·.j))[i]? = some e.j := by rw [List.getElem?_map, he]; rfl
            have a2 : (M.map (·.j))[i2]? = some e.j := by
              rw [List.getElem?_map, he2]
              show some e2.j = some e.j
              rw [← g3, ← ej]
            have same : i = i2 := (List.getElem?_inj (List.getElem?_eq_some_iff.mp a1).1 nd).mp (a1.trans a2.symm)
            rw [same, he2] at he
            cases he
            exact ek k2
          · omega
      by_cases hl : t.led = true
      · refine wp_if_neg (by simp [hl]) ?_
        try refine wpAny_bind (wpAny_pure ?_)
        exact rest
      · refine wp_if_pos (by simp [hl]) ?_
        refine wpAny_bind (unseen hx (fun y hy => ?_) ?_)
        · obtain ⟨g, hg, rfl⟩ := List.mem_map.mp hy
          have hg1 : g ∈ es ∧ g.1 = hsh P w k := by simpa using hg
          have hg2 : g ∈ es.toList := by simpa using hg1.1
          rw [Z.told] at hg2
          obtain ⟨e2, h2, rfl⟩ := List.mem_map.mp hg2
          exact ⟨e2.k, e2.a, rfl, tup e2 h2⟩
        · refine wp_if_neg (by decide) ?_
          try refine wpAny_bind (wpAny_pure ?_)
          exact rest
    · have hp' : t.probe (fun i => (es[i]?.map (·.1)).getD 0) (hsh P w k) (stand.getD (t.probeStart (hsh P w k))) = some (.empty (way t.mask (hsh P w k) d) none) := by
        have e2 := onj (d - c)
        rw [ec] at e2
        rw [st, ← e2]
        exact hp
      rw [hp']
      dsimp only
      refine wpAny_pure (no fun hm => ?_)
      obtain ⟨e, he, ek⟩ := List.mem_map.mp hm
      obtain ⟨g, g1, g2, g3⟩ := left e he ek
      obtain ⟨i, hi, ei⟩ := List.getElem_of_mem he
      have he2 : M[i]? = some e := by rw [List.getElem?_eq_getElem hi, ei]
      refine before (g - c) i (by omega) ?_ ((hash i e he2).trans (by rw [ek]))
      rw [onj, show c + (g - c) = g by omega, Z.tab.places, List.getElem?_map, he2, g3]
      rfl
/-- the search that adding asks for -/
theorem sought (Z : Stands P w s.heap a M es ep t) (tup : ∀ e ∈ M, IsU P w s.heap e.k e.a) {x : Addr} {k : List L2.Key} (hx : IsU P w s.heap k x) (hu : A.units < cLine) {Q : SetFound → Shared → Prop} (yes : k ∈ M.map (·.k) → Q (.there none) s)
    (no : ∀ d, k ∉ M.map (·.k) → way t.mask (hsh P w k) d ∉ M.map (·.j) → (∀ b, b < d → way t.mask (hsh P w k) b ∈ M.map (·.j)) → Q (.free (way t.mask (hsh P w k) d) false) s) : wpAny (model P w) A (setSearch a (.ref x) (hsh P w k) true) Q E s := by
  have hl : t.place.toList.length ≤ t.mask := by
    have h1 := Z.sparse
    rw [Z.tab.places, List.length_map]
    omega
  obtain ⟨d, d0, d1, d2⟩ := way_out Z.tab.ones (hsh P w k) hl
  have hm := Z.tab.ones.le
  unfold setSearch
  refine look Z tup hx hu d0 d1 d2 yes (fun hn => no d hn (by rw [← Z.tab.places]; exact d1) fun b hb => by rw [← Z.tab.places]; exact d2 b hb) 100000 0 none rfl (Nat.zero_le _) (by unfold SetTable.turns at d0; omega) fun e he ek => ?_
  obtain ⟨_, c, c1, c2⟩ := Z.tab.met e he
  rw [ek] at c1 c2
  refine ⟨c, Nat.zero_le _, ?_, c1⟩
  rcases Nat.lt_trichotomy c d with z | z | z
  · exact z
  · rw [← z, c1, Z.tab.places] at d1
    exact absurd (List.mem_map.mpr ⟨e, he, rfl⟩) d1
  · rw [Z.tab.places] at d1
    exact absurd (c2 d z) d1
end
end Tz

/-! TS4: one put in, with the laying anew that follows; set(xs). -/
namespace Tz
open PySem PySem.Spec PyProof.Rows L2
section
variable {P : Program} {w : World} {A : Around} {E : Value → Shared → Prop} {s : Shared} {a : Addr} {M : List Ent} {es : Array (Int × Value)} {ep : Nat} {t : SetTable}
theorem IsU.but {h h' : Heap} {k : List L2.Key} {b : Addr} {o : Obj} (x : IsU P w h k b) (ho : h.get? a = some o) (hd : o.data = .set es ep t) (sb : Heap.SameBut a h h') : IsU P w h' k b := by
  obtain ⟨y, items, n, hy, hc, hyd, hi⟩ := x
  refine ⟨y, items, n, (sb.2 b fun e => ?_).trans hy, hc, hyd, hi⟩
  rw [e, ho] at hy
  cases hy
  rw [hd] at hyd
  cases hyd
theorem IsU.all {h h' : Heap} {k : List L2.Key} {b : Addr} (x : IsU P w h k b) (keep : ∀ c o, h.get? c = some o → h'.get? c = some o) : IsU P w h' k b := by
  obtain ⟨y, items, n, hy, r⟩ := x
  exact ⟨y, items, n, keep b y hy, r⟩
theorem Stands.moved {h h' : Heap} (Z : Stands P w h a M es ep t) (keep : ∀ o, h.get? a = some o → h'.get? a = some o) : Stands P w h' a M es ep t := by
  obtain ⟨o, ho, r⟩ := Z.here
  exact ⟨⟨o, keep o ho, r⟩, Z.told, Z.tab, Z.uniq, Z.order, Z.sparse⟩
theorem uniq_perm {M N : List Ent} (h : (N.map Ent.ak).Perm (M.map Ent.ak)) (u : (M.map (·.k)).Nodup) : (N.map (·.k)).Nodup := by
  have e : ∀ L : List Ent, L.map (·.k) = (L.map Ent.ak).map (·.2) := fun L => by rw [List.map_map]; rfl
  rw [e] at u ⊢
  exact (h.map (·.2)).nodup_iff.mpr u
/-- the table laid anew for what stands in it -/
theorem anew {o : Obj} (ho : s.heap.get? a = some o) (hex : o.ExactSet) (hd : o.data = .set es ep t) (told : es.toList = M.map (Ent.row P w)) (fit : t.fits es.size = true) (uniq : (M.map (·.k)).Nodup) (led : w.params.followText "set-order" = true ∨ t.led = true)
    (few : M.length ≤ 1000) (some1 : 0 < M.length) {n : Nat} (hn : n = M.length) {Q : Unit → Shared → Prop}
    (q : ∀ h' N es' ep' t', Heap.SameBut a s.heap h' → Stands P w h' a N es' ep' t' → (N.map Ent.ak).Perm (M.map Ent.ak) → Q () { s with heap := h' }) : wpAny (model P w) A (setRelay a (SetTable.grown n)) Q E s := by
  subst hn
  obtain ⟨on, wide, small⟩ := wide_enough few
  have hsz : es.size = M.length := by rw [← Array.length_toList, told, List.length_map]
  obtain ⟨t', order, N, e, e2, T, pm, em, el, epl⟩ := relaid_tab (P := P) (w := w) t told (wanted := SetTable.grown M.length) rfl on (by omega)
  have hlen : N.length = M.length := by
    have := pm.length_eq
    rwa [List.length_map, List.length_map] at this
  have hs2 : (order.filterMap (es[·]?)).size = es.size := by rw [← Array.length_toList, e2, List.length_map, hlen, hsz]
  have big := sizeLine_eq
  rw [setRelay_eq]
  refine wpAny_bind (wpAny_setState_of ho hd fit ?_)
  dsimp only
  refine wp_if_neg (by omega) ?_
  try refine wpAny_bind (wpAny_pure ?_)
  rw [e]
  dsimp only
  refine wpAny_bind ?_
  refine wp_if_neg (by rw [hs2]; simp) ?_
  try refine wpAny_bind (wpAny_pure ?_)
  refine wpAny_pure ?_
  dsimp only
  refine wpAny_storeSet_of ho hd ?_ (by omega)
  have sb : Heap.SameBut a s.heap (s.heap.update a (Obj.putSet (order.filterMap (es[·]?)) t')) := Heap.SameBut.update ..
  refine q _ N _ (ep + 1) t' sb ⟨⟨_, store_at ho hd, ⟨hex.1, hex.2.1, hex.2.2⟩, rfl⟩, e2, T, uniq_perm pm uniq, by rw [el]; exact led, ?_⟩ pm
  rw [hlen, em]
  omega
/-- what is put in once more changes nothing; what is new comes to the rest -/
theorem put_in (Z : Stands P w s.heap a M es ep t) (tup : ∀ e ∈ M, IsU P w s.heap e.k e.a) {x : Addr} {k : List L2.Key} (hx : IsU P w s.heap k x) (hu : A.units < cLine) (few : M.length + 1 ≤ 1000) {Q : Bool → Shared → Prop}
    (q : ∀ b h' N es' ep' t', Heap.SameBut a s.heap h' → Stands P w h' a N es' ep' t' → ((k ∈ M.map (·.k) ∧ N = M) ∨ (k ∉ M.map (·.k) ∧ (N.map Ent.ak).Perm ((x, k) :: M.map Ent.ak))) → Q b { s with heap := h' }) :
    wpAny (model P w) A (setAddHashed a (.ref x) (hsh P w k)) Q E s := by
  obtain ⟨o, ho, hex, hd⟩ := Z.here
  have hsz := Z.size
  have big := sizeLine_eq
  unfold setAddHashed
  refine wpAny_holding ?_
  rw [show (100000 : Nat) = 99999 + 1 from rfl, setAddHashedIn_succ]
  refine wpAny_bind (wpAny_setState_of ho hd Z.fits ?_)
  dsimp only
  refine wp_if_neg (by simp [byScan, Value.scannable]) ?_
  try refine wpAny_bind (wpAny_pure ?_)
  refine wpAny_bind (sought Z tup hx hu (fun hm => ?_) fun d hm hj hb => ?_)
  · dsimp only
    exact wpAny_pure (q false s.heap M es ep t (Heap.SameBut.refl a s.heap) Z (.inl ⟨hm, rfl⟩))
  · dsimp only
    refine wpAny_bind (wpAny_setState_of ho hd Z.fits ?_)
    dsimp only
    obtain ⟨t1, p, ep1, T1, m1, l1, pl1, mv1⟩ := Z.tab.put (x := x) hj hb
    have epl := congrArg Prod.snd ep1
    rw [ep1]
    dsimp only
    have h2 : (SetTable.insertAt es p (hsh P w k, Value.ref x)).toList = (M.take p ++ (⟨way t.mask (hsh P w k) d, x, k⟩ : Ent) :: M.drop p).map (Ent.row P w) := by
      rw [SetTable.toList_insertAt, Z.told, List.map_append, List.map_cons, List.map_take, List.map_drop]
    have pm : ((M.take p ++ (⟨way t.mask (hsh P w k) d, x, k⟩ : Ent) :: M.drop p).map Ent.ak).Perm ((x, k) :: M.map Ent.ak) := (put_perm M p _).map Ent.ak
    have uq : ((M.take p ++ (⟨way t.mask (hsh P w k) d, x, k⟩ : Ent) :: M.drop p).map (·.k)).Nodup := by
      refine ((put_perm M p _).map (·.k)).nodup_iff.mpr ?_
      rw [List.map_cons]
      exact List.nodup_cons.mpr ⟨hm, Z.uniq⟩
    have hlen : (M.take p ++ (⟨way t.mask (hsh P w k) d, x, k⟩ : Ent) :: M.drop p).length = M.length + 1 := (put_perm M p _).length_eq
    generalize SetTable.insertAt es p (hsh P w k, Value.ref x) = fs at h2 ⊢
    generalize M.take p ++ (⟨way t.mask (hsh P w k) d, x, k⟩ : Ent) :: M.drop p = N at h2 pm uq hlen T1
    have hfs : fs.size = N.length := by rw [← Array.length_toList, h2, List.length_map]
    -- whatever is said of the hash, the table is the same but for that word
    have rest : ∀ u : SetTable, u.place = t1.place → u.dummies = t1.dummies → u.mask = t1.mask → u.led = t1.led →
        wpAny (model P w) A (do
          storeSet a fs u
          if (!false && u.tooFull) = true then do
            setRelay a (SetTable.grown (es.size + 1))
            pure true
          else pure true) Q E s := fun u u1 u2 u3 u4 => by
      have TU : Tab P w u N := ⟨by rw [u1]; exact T1.places, T1.asc, by rw [u2]; exact T1.clean, by rw [u3]; exact T1.ones, by rw [u3]; exact T1.met⟩
      have ld : w.params.followText "set-order" = true ∨ u.led = true := by rw [u4, l1]; exact Z.order
      refine wpAny_bind (wpAny_storeSet_of ho hd ?_ (by omega))
      have sb : Heap.SameBut a s.heap (s.heap.update a (Obj.putSet fs u)) := Heap.SameBut.update ..
      have o1 := store_at (es' := fs) (t' := u) ho hd
      generalize s.heap.update a (Obj.putSet fs u) = h1 at sb o1 ⊢
      have hps : u.place.size = fs.size := by rw [TU.size, hfs]
      have hmk : fs.size ≤ u.mask := by
        have := Z.sparse
        rw [hfs, hlen, u3, m1]
        have := Z.tab.ones.ge
        omega
      have fill : u.fill = N.length := by
        unfold SetTable.fill
        rw [hps, TU.clean, hfs]
        rfl
      by_cases full : u.tooFull = true
      · refine wp_if_pos (by rw [full]; rfl) ?_
        refine wpAny_bind (anew (s := { s with heap := h1 }) o1 ⟨hex.1, hex.2.1, hex.2.2⟩ rfl h2 (fits_of hps TU.clean hmk) uq ld (by omega) (by omega) (by omega) fun h' N2 es2 ep2 t2 sb2 Z2 pm2 => ?_)
        exact wpAny_pure (q true h' N2 es2 ep2 t2 (sb.trans sb2) Z2 (.inr ⟨hm, pm2.trans pm⟩))
      · refine wp_if_neg (by rw [Bool.eq_false_iff.mpr full]; simp) ?_
        refine wpAny_pure (q true h1 N fs (ep + 1) u sb ⟨⟨_, o1, ⟨hex.1, hex.2.1, hex.2.2⟩, rfl⟩, h2, TU, uq, ld, ?_⟩ (.inr ⟨hm, pm⟩))
        unfold SetTable.tooFull at full
        rw [decide_eq_true_eq, fill] at full
        omega
    by_cases hp : t1.plain = true
    · first
        | (refine wpAny_bind ?_; refine wp_if_pos hp ?_; refine by_value hx fun c => ?_)
        | refine wp_if_pos hp (wpAny_bind (by_value hx fun c => ?_))
      cases c with
      | true =>
        simp only [if_true]
        exact rest _ rfl rfl rfl rfl
      | false =>
        simp only [Bool.false_eq_true, if_false]
        exact rest _ rfl rfl rfl rfl
    · first
        | (refine wpAny_bind ?_; refine wp_if_neg hp ?_; refine wpAny_pure ?_)
        | refine wp_if_neg hp (wpAny_bind (wpAny_pure ?_))
      simp only [if_true]
      exact rest _ rfl rfl rfl rfl
end
end Tz

set_option maxHeartbeats 8000000
/-! TS5: set(xs) of a list of tuples. -/
namespace Tz
open PySem PySem.Spec PyProof.Rows L2
abbrev emptySet (w : World) : Obj := { cls := .type "set", dict := none, data := .set #[] 0 (.fresh 0 0 (!w.params.followText "set-order")) }
/-- what a set has of a list: tuples of it, each key once -/
structure Has (ks : List (Addr × List L2.Key)) (L : List (Addr × List L2.Key)) : Prop where
  sub : ∀ p ∈ L, p ∈ ks
  all : ∀ p ∈ ks, p.2 ∈ L.map (·.2)
  once : (L.map (·.2)).Nodup
section
variable {P : Program} {w : World} {A : Around} {E : Value → Shared → Prop} {s : Shared}
theorem nothing_in {h : Heap} {a : Addr} (g : h.get? a = some (emptySet w)) : Stands P w h a [] #[] 0 (.fresh 0 0 (!w.params.followText "set-order")) where
  here := ⟨_, g, ⟨rfl, rfl, rfl⟩, rfl⟩
  told := rfl
  tab := ⟨rfl, List.Pairwise.nil, rfl, ⟨0, rfl, by decide⟩, fun e he => nomatch he⟩
  uniq := List.nodup_nil
  order := by
    cases w.params.followText "set-order"
    · exact .inr rfl
    · exact .inl rfl
  sparse := by
    show 0 * 5 < 7 * 3
    decide
/-- the loop of set(xs) -/
theorem fill {R : Result → Shared → Prop} {I : Addr} {fp wr : List Addr} {G : Array GenState → Array GenState → Prop} {n : Nat} {V : Nat → Value → Prop} {St : Nat → Shared → Prop} (W : WalksS P w A.in1 I fp wr G n V St) (S : Addr) (hS : S ∉ fp)
    (ks : List (Addr × List L2.Key)) (hn : ks.length = n) (hb : n < 1000) (hu : A.in1.units < cLine) (hv : ∀ i v, V i v → ∃ p, ks[i]? = some p ∧ v = .ref p.1) (h0 : Heap) (tup : ∀ p ∈ ks, IsU P w h0 p.2 p.1) (S0 : h0.get? S = none) (w0 : ∀ b ∈ wr, h0.get? b = none) :
    ∀ (k i : Nat) (s : Shared) (M : List Ent) es ep t, n - i = k → i ≤ n → St i s → (∀ b o, h0.get? b = some o → s.heap.get? b = some o) → Stands P w s.heap S M es ep t → M.length ≤ i → (∀ e ∈ M, e.ak ∈ ks) → (∀ p ∈ ks.take i, p.2 ∈ M.map (·.k)) →
      (∀ s' M' es' ep' t', Moved (S :: wr) G s s' → Stands P w s'.heap S M' es' ep' t' → (∀ e ∈ M', e.ak ∈ ks) → (∀ p ∈ ks, p.2 ∈ M'.map (·.k)) → R (.ok (.ret .none)) s') → codeAny (model P w) A (.builtin "set.update.loop" ⟨[.ref S, .ref I], []⟩) R s := by
  have hw : S ∉ wr := fun z => hS (W.sub _ z)
  have sub : ∀ b ∈ wr, b ∈ S :: wr := fun b z => List.mem_cons_of_mem _ z
  have go : ∀ {x y : Shared}, Moved wr G x y → (∀ b o, h0.get? b = some o → x.heap.get? b = some o) → ∀ b o, h0.get? b = some o → y.heap.get? b = some o := fun mv kp b o e =>
    mv.heap b o (fun z => by rw [w0 b z] at e; cases e) (kp b o e)
  intro k
  induction k with
  | zero =>
    intro i s M es ep t hk hi st kp Z _ hin hall q
    obtain rfl : i = n := by omega
    refine codeAny_builtin PyProof.Rows.F.entry_set_update_loop ?_
    rw [Around.under_plainId PyProof.Rows.F.plain_set_update_loop _]
    show wpAny _ A.in1 (pyNext (.ref I) >>= _) _ _ s
    refine wpAny_bind (W.done s _ _ st fun s' mv => ?_)
    show wpAny _ A.in1 (ret Value.none) _ _ s'
    refine wpAny_pure (q s' M es ep t (mv.mono sub) (Z.moved fun o e => mv.heap S o hw e) hin fun p hp => hall p ?_)
    rw [← hn, List.take_length]
    exact hp
  | succ k ih =>
    intro i s M es ep t hk hi st kp Z hl hin hall q
    have lt : i < n := by omega
    refine codeAny_builtin PyProof.Rows.F.entry_set_update_loop ?_
    rw [Around.under_plainId PyProof.Rows.F.plain_set_update_loop _]
    show wpAny _ A.in1 (pyNext (.ref I) >>= _) _ _ s
    refine wpAny_bind (W.item i s _ _ lt st fun v s' hP st' mv => ?_)
    obtain ⟨p, hp, rfl⟩ := hv i v hP
    have kp' := go mv kp
    have Z' := Z.moved fun o e => mv.heap S o hw e
    have hx : IsU P w s'.heap p.2 p.1 := (tup p (List.mem_of_getElem? hp)).all kp'
    have tM : ∀ e ∈ M, IsU P w s'.heap e.k e.a := fun e he => (tup _ (hin e he)).all kp'
    show wpAny _ A.in1 (holding [Value.ref p.1] (setAdd S (.ref p.1)) >>= _) _ _ s'
    refine wpAny_bind (wpAny_holding ?_)
    unfold setAdd
    refine wpAny_holding ?_
    refine wpAny_bind (wpAny_pyHash_tuple hu hx ?_)
    refine put_in (s := { s' with toks := s'.toks + (p.2.length + 1) }) Z' tM hx hu (by omega) fun b h' N es2 ep2 t2 sb Z2 hN => ?_
    have tk : ks.take (i + 1) = ks.take i ++ [p] := by
      obtain ⟨hlt, e⟩ := List.getElem?_eq_some_iff.mp hp
      rw [← e]
      exact List.take_succ_eq_append_getElem hlt
    have mk : ∀ L : List Ent, L.map (·.k) = (L.map Ent.ak).map (·.2) := fun L => by rw [List.map_map]; rfl
    have l2 : N.length ≤ i + 1 := by
      rcases hN with ⟨_, rfl⟩ | ⟨_, pm⟩
      · omega
      · have := pm.length_eq
        rw [List.length_cons, List.length_map, List.length_map] at this
        omega
    have in2 : ∀ e ∈ N, e.ak ∈ ks := fun e he => by
      rcases hN with ⟨_, rfl⟩ | ⟨_, pm⟩
      · exact hin e he
      · rcases List.mem_cons.mp (pm.mem_iff.mp (List.mem_map.mpr ⟨e, he, rfl⟩)) with z | z
        · rw [z]
          exact List.mem_of_getElem? hp
        · obtain ⟨e2, h2, z2⟩ := List.mem_map.mp z
          rw [← z2]
          exact hin e2 h2
    have all2 : ∀ y ∈ ks.take (i + 1), y.2 ∈ N.map (·.k) := fun y hy => by
      rw [tk] at hy
      rcases hN with ⟨hm, rfl⟩ | ⟨_, pm⟩
      · rcases List.mem_append.mp hy with z | z
        · exact hall y z
        · rw [List.mem_singleton.mp z]
          exact hm
      · rw [mk, (pm.map (·.2)).mem_iff, List.map_cons]
        rcases List.mem_append.mp hy with z | z
        · refine List.mem_cons_of_mem _ ?_
          rw [← mk]
          exact hall y z
        · rw [List.mem_singleton.mp z]
          exact List.mem_cons_self
    have kp2 : ∀ b o, h0.get? b = some o → h'.get? b = some o := fun b o e => (sb.2 b fun z => by rw [z, S0] at e; cases e).trans (kp' b o e)
    refine wpAny_pure ⟨plainId_quiet PyProof.Rows.F.plain_set_update_loop _, ih (i + 1) _ N es2 ep2 t2 (by omega) lt (W.frame _ s' _ _ st' (Nat.le_add_right _ _) fun c hc o z => ?_) kp2 Z2 l2 in2 all2 fun s2 M2 es3 ep3 t3 mv2 r2 f2 g2 => ?_⟩
    · exact (sb.2 c fun e => hS (e ▸ hc)).trans z
    · refine q s2 M2 es3 ep3 t3 (Moved.trans W.gtrans ((mv.mono sub).then_heap (Nat.le_add_right _ _) fun c o hc z => ?_) mv2) r2 f2 g2
      exact (sb.2 c fun e => hc (e ▸ List.mem_cons_self)).trans z
/-- set(xs) -/
theorem call_setU {l : Addr} {items : Array Value} {ks : List (Addr × List L2.Key)} {Q : Value → Shared → Prop} (hh : A.handled = none) (hu : A.units + 8 < cLine) (hl : s.heap.IsList l items) (hit : items.toList = ks.map fun p => Value.ref p.1) (tup : ∀ p ∈ ks, IsU P w s.heap p.2 p.1) (few : ks.length < 1000)
    (q : ∀ (h' : Heap) (tk : Nat) (M : List Ent) es ep t, Stands P w h' s.heap.objs.size M es ep t → Has ks (M.map Ent.ak) → (∀ b o, s.heap.get? b = some o → h'.get? b = some o) → Q (.ref s.heap.objs.size) { s with heap := h', toks := tk }) :
    wpAny (model P w) A (call (.type "set") [.ref l]) Q E s := by
  have hk : ks.length = items.size := by rw [← Array.length_toList, hit, List.length_map]
  obtain ⟨c, tl, mr⟩ := PySem.F.called_set.mro
  have md := PySem.F.called_set.made
  have sb := PySem.F.called_set.sub
  refine wpAny_call (codeAny_of_tree ?_)
  show wpAny _ _ (callAny (.type "set") _) _ _ _
  refine wpAny_pure ⟨Code.quiet_builtin _ (by decide +kernel), codeAny_builtin PySem.F.entry_type_call ?_⟩
  rw [Around.under_plain (weight_type_call_type "set" [.ref l] []) rfl]
  have t1 := PySem.F.called_set.notType
  have t2 := PySem.F.called_set.canCreate
  have t3 := PySem.F.typeCall_set_1 (.ref l)
  repeat (any_goals (first | assumption | wp_step))
  refine codeAny_mono (code_set_led1 (.ref l) (E := E) (Q₁ := fun ob s₁ => ob = .ref s.heap.objs.size ∧ s₁ = { s with heap := s.heap.push (emptySet w) }) ⟨rfl, rfl⟩) fun r s₁ hr => ?_
  cases r with
  | error e => exact hr
  | ok fl =>
    cases fl with
    | ret ob =>
      obtain ⟨rfl, rfl⟩ := hr
      have gS : (s.heap.push (emptySet w)).get? s.heap.objs.size = some (emptySet w) := Heap.get?_push_size _ rfl
      have ty : Shared.TypeIs { s with heap := s.heap.push (emptySet w) } (.ref s.heap.objs.size) "set" := ⟨_, gS, rfl⟩
      have i1 := PySem.F.called_set.init.lookup
      have i2 := PySem.F.called_set.init.bind (.ref s.heap.objs.size)
      repeat (any_goals (first | assumption | wp_step))
      refine codeAny_mono (codeAny_call_builtin (R := wants (fun r s₂ => r = .none ∧ ∃ h' tk M es ep t, s₂ = { s with heap := h', toks := tk } ∧ Stands P w h' s.heap.objs.size M es ep t ∧ Has ks (M.map Ent.ak) ∧ (∀ b o, s.heap.get? b = some o → h'.get? b = some o)) E)
        PySem.F.called_set.init.plain PySem.F.entry_set_init (check_set_init_1 ty ?_)) fun r₂ s₂ hr₂ => ?_
      · obtain ⟨ol, go, cl, nl, da⟩ := hl
        obtain ⟨oc, od, odt, osl⟩ := ol
        simp only at cl da
        subst cl
        subst da
        have g1 : (s.heap.push (emptySet w)).get? l = some { cls := .type "list", dict := od, data := .seq items nl, slots := osl } := Heap.get?_push_of_some _ go
        have u1 := PySem.F.sub_list_set
        have u2 := PySem.F.sub_list_frozenset
        have u3 : (Value.type "list" == Value.type "dict") = false := by decide
        have l1 : (s.heap.push (emptySet w)).IsList l items := ⟨_, g1, rfl, nl, rfl⟩
        unfold Builtin.«set.__init__» noKeywords Builtin.Frozenset.updateFrom
        generalize hPI : pyIter = PI
        wp_walk
        subst hPI
        refine wpAny_pyIter_list l1 ?_
        refine wpAny_bind (wpAny_runValue ?_)
        have lt : l < s.heap.objs.size := Heap.lt_size go
        have h3 : A.in1.in1.in1.handled = none := by simp [hh]
        have z1 : (s.heap.push (emptySet w)).objs.size = s.heap.objs.size + 1 := Heap.size_push ..
        have n1 : l ≠ (s.heap.push (emptySet w)).objs.size := by
          rw [z1]
          exact Nat.ne_of_lt (Nat.lt_succ_of_lt lt)
        have n2 : s.heap.objs.size ∉ [(s.heap.push (emptySet w)).objs.size, l] := by
          rw [z1]
          simp only [List.mem_cons, List.not_mem_nil, or_false, not_or]
          exact ⟨Nat.ne_of_lt (Nat.lt_succ_self _), Nat.ne_of_gt lt⟩
        have past : ∀ b, s.heap.objs.size ≤ b → s.heap.get? b = none := fun b hb => by
          cases e : s.heap.get? b with
          | none => rfl
          | some o => exact absurd (Heap.lt_size e) (Nat.not_lt.mpr hb)
        refine fill ((Walks.list h3 _ l n1 items).toS) s.heap.objs.size n2 ks hk (by omega) (by show A.units + 3 < cLine; omega) (fun i v hv => ?_) s.heap tup (past _ (Nat.le_refl _)) (fun b hb => past b (by
            rw [List.mem_singleton.mp hb, z1]
            exact Nat.le_succ _)) (items.size - 0) 0 _ [] #[] 0 _ rfl (Nat.zero_le _) ⟨⟨_, Heap.get?_push_size _ rfl, rfl, rfl⟩, l1.push _⟩ (fun b o e => Heap.get?_push_of_some _ (Heap.get?_push_of_some _ e)) (nothing_in (Heap.get?_push_of_some _ gS)) (Nat.le_refl _)
          (fun e he => nomatch he) (fun p hp => by simp at hp) fun s' M es ep t mv r f1 f2 => ?_
        · have e : items.toList[i]? = some v := by rw [Array.getElem?_toList]; exact hv
          rw [hit, List.getElem?_map] at e
          obtain ⟨p, hp, rfl⟩ := Option.map_eq_some_iff.mp e
          exact ⟨p, hp, rfl⟩
        · obtain ⟨h', g2, d', tk', os'⟩ := s'
          have eg : g2 = s.gens := mv.gens
          have ed : d' = s.drawn := mv.drawn
          have eo : os' = s.os := mv.os
          subst eg
          subst ed
          subst eo
          show wpAny _ _ _ _ _ _
          refine wpAny_pure ?_
          show wpAny _ _ (ret Value.none) _ _ _
          have mk : (M.map Ent.ak).map (·.2) = M.map (·.k) := by rw [List.map_map]; rfl
          refine wpAny_pure ⟨rfl, h', tk', M, es, ep, t, rfl, r, ⟨fun p hp => ?_, fun p hp => by rw [mk]; exact f2 p hp, by rw [mk]; exact r.uniq⟩, fun b o e => ?_⟩
          · obtain ⟨x, hx, rfl⟩ := List.mem_map.mp hp
            exact f1 x hx
          · have hb := Heap.lt_size e
            refine mv.heap b o ?_ (Heap.get?_push_of_some _ (Heap.get?_push_of_some _ e))
            rw [z1]
            simp only [List.mem_cons, List.not_mem_nil, or_false, not_or]
            exact ⟨Nat.ne_of_lt hb, Nat.ne_of_lt (Nat.lt_succ_of_lt hb)⟩
      · cases r₂ with
        | error e => exact hr₂
        | ok fl₂ =>
          cases fl₂ with
          | ret r =>
            obtain ⟨rfl, h', tk, M, es, ep, t, rfl, r, f, k⟩ := hr₂
            repeat (any_goals (first | assumption | wp_step))
            exact q _ _ M es ep t r f k
          | _ => exact hr₂.elim
    | _ => exact hr.elim
end
end Tz

/-! TS6: the order of data; sorting of short lists too. -/
namespace Tz
open PySem PySem.Spec PyProof.Rows L2 PySem.W
/-! ### the order -/
def leD (a b : PyData) : Bool := !dataLt b a
theorem leD_trans (a b c : PyData) (h : leD a b = true) (k : leD b c = true) : leD a c = true := by
  unfold leD dataLt at *
  rw [Bool.not_eq_true'] at *
  cases e : PyProof.Rows.lexLt itemOrd (keyToks c) (keyToks a) with
  | false => rfl
  | true =>
    rcases (listOrd itemOrd).negTrans _ (keyToks b) _ e with z | z
    · rw [show PyProof.Rows.lexLt itemOrd (keyToks c) (keyToks b) = true from z] at k
      cases k
    · rw [show PyProof.Rows.lexLt itemOrd (keyToks b) (keyToks a) = true from z] at h
      cases h
theorem leD_total (a b : PyData) : (leD a b || leD b a) = true := by
  unfold leD dataLt
  cases e : PyProof.Rows.lexLt itemOrd (keyToks b) (keyToks a) with
  | false => rfl
  | true =>
    cases e2 : PyProof.Rows.lexLt itemOrd (keyToks a) (keyToks b) with
    | false => rfl
    | true =>
      have := (listOrd itemOrd).trans _ _ _ e e2
      rw [show (listOrd itemOrd).blt (keyToks b) (keyToks b) = false from (listOrd itemOrd).irrefl _] at this
      cases this
theorem leD_anti {a b : PyData} (h : leD a b = true) (k : leD b a = true) : keyToks a = keyToks b := by
  unfold leD dataLt at *
  rw [Bool.not_eq_true'] at *
  exact (listOrd itemOrd).total _ _ k h
/-- two rows in order that have the same things are the same row -/
theorem once_sorted {α : Type} {le : α → α → Bool} : ∀ {l m : List α}, (∀ x ∈ l, ∀ y ∈ l, le x y = true → le y x = true → x = y) → l.Pairwise (fun a b => le a b = true) → m.Pairwise (fun a b => le a b = true) → l.Perm m → l = m
  | [], m, _, _, _, p => by rw [List.nil_perm.mp p]
  | x :: l, [], _, _, _, p => by have := p.length_eq; cases this
  | x :: l, y :: m, anti, hl, hm, p => by
    have ex : x = y := by
      have mx : x ∈ y :: m := p.mem_iff.mp List.mem_cons_self
      have my : y ∈ x :: l := p.mem_iff.mpr List.mem_cons_self
      rcases List.mem_cons.mp mx with e | mx
      · exact e
      rcases List.mem_cons.mp my with e | my
      · exact e.symm
      exact anti x List.mem_cons_self y (List.mem_cons_of_mem _ my) ((List.pairwise_cons.mp hl).1 y my) ((List.pairwise_cons.mp hm).1 x mx)
    subst ex
    rw [once_sorted (fun a ha b hb => anti a (List.mem_cons_of_mem _ ha) b (List.mem_cons_of_mem _ hb)) (List.pairwise_cons.mp hl).2 (List.pairwise_cons.mp hm).2 (List.perm_cons x |>.mp p)]
/-! ### rows of ints and texts -/
def kD1 : L2.Key → PyData
  | .inl i => .int i
  | .inr x => .str x
def kD (k : List L2.Key) : PyData := .tuple (k.map kD1)
theorem tok_inj : ∀ {a b : List L2.Key}, keyToksAll (a.map kD1) = keyToksAll (b.map kD1) → a = b
  | [], [], _ => rfl
  | [], y :: b, h => by
    have := (List.cons.inj (show [Sum.inl 0] = Sum.inl 1 :: (keyToks (kD1 y) ++ keyToksAll (b.map kD1)) from h)).1
    cases this
  | x :: a, [], h => by
    have := (List.cons.inj (show Sum.inl 1 :: (keyToks (kD1 x) ++ keyToksAll (a.map kD1)) = [Sum.inl 0] from h)).1
    cases this
  | x :: a, y :: b, h => by
    have h2 := (List.cons.inj (show (Sum.inl 1 : Int ⊕ List Nat) :: (keyToks (kD1 x) ++ keyToksAll (a.map kD1)) = Sum.inl 1 :: (keyToks (kD1 y) ++ keyToksAll (b.map kD1)) from h)).2
    cases x with
    | inl i =>
      cases y with
      | inl j =>
        have h3 := List.cons.inj (show (Sum.inl i : Int ⊕ List Nat) :: keyToksAll (a.map kD1) = Sum.inl j :: keyToksAll (b.map kD1) from h2)
        rw [Sum.inl.inj h3.1, tok_inj h3.2]
      | inr z => cases (List.cons.inj (show (Sum.inl i : Int ⊕ List Nat) :: keyToksAll (a.map kD1) = Sum.inr z.cps.toList :: keyToksAll (b.map kD1) from h2)).1
    | inr i =>
      cases y with
      | inl j => cases (List.cons.inj (show (Sum.inr i.cps.toList : Int ⊕ List Nat) :: keyToksAll (a.map kD1) = Sum.inl j :: keyToksAll (b.map kD1) from h2)).1
      | inr j =>
        have h3 := List.cons.inj (show (Sum.inr i.cps.toList : Int ⊕ List Nat) :: keyToksAll (a.map kD1) = Sum.inr j.cps.toList :: keyToksAll (b.map kD1) from h2)
        rw [str_of_cps (Sum.inr.inj h3.1), tok_inj h3.2]
def leK (a b : List L2.Key) : Bool := leD (kD a) (kD b)
theorem leK_anti {a b : List L2.Key} (h : leK a b = true) (k : leK b a = true) : a = b := tok_inj (leD_anti h k)
def sortK (l : List (List L2.Key)) : List (List L2.Key) := l.mergeSort leK
theorem sortK_perm (l : List (List L2.Key)) : (sortK l).Perm l := List.mergeSort_perm _ _
theorem sortK_asc (l : List (List L2.Key)) : (sortK l).Pairwise (fun a b => leK a b = true) := List.pairwise_mergeSort (le := leK) (fun a b c => leD_trans (kD a) (kD b) (kD c)) (fun a b => leD_total (kD a) (kD b)) l
theorem sortK_is {l m : List (List L2.Key)} (h : m.Pairwise (fun a b => leK a b = true)) (p : m.Perm l) : m = sortK l :=
  once_sorted (fun x _ y _ => leK_anti) h (sortK_asc l) (p.trans (sortK_perm l).symm)
theorem sortK_eq {l m : List (List L2.Key)} (p : l.Perm m) : sortK l = sortK m := sortK_is (sortK_asc l) ((sortK_perm l).trans p)
/-! ### short lists -/
section
variable {prog : Program} {w : World} {A : Around} {E : Value → Shared → Prop} {s : Shared} {β : Type} {R : Value → β → Prop} {enc : β → PyData} {vs : List Value} {bs : List β}
theorem short_sorts {ds : List PyData} (e : EachIs (fun v d => ∃ as, Reads s.heap v d as) vs ds) (hal : AllAlike ds) (h1 : ds.length ≤ 1) (hn : ∀ d ∈ ds, d ≠ .none) (hu : ∀ d, d ∈ ds → A.units + d.depth < cLine) : SortsAt prog w A s (dataKind s.heap ds) vs := by
  refine ⟨fun v hv => ?_, general', ?_, fun h2 => ?_⟩
  · obtain ⟨d, hd, as, r⟩ := e.left v hv
    exact ⟨_, dataKind_some hal hd r⟩
  · intro E x y a b Q ha hb hq
    obtain ⟨d, as, hd, ra, rfl⟩ := dataKind_inv ha
    obtain ⟨d', as', hd', rb, rfl⟩ := dataKind_inv hb
    show wpAny _ _ (oneLt' false x y) _ _ _
    exact oneLt_alike (fun z => by cases z) ra rb (hal d hd d' hd') (hn d hd) (Nat.lt_of_le_of_lt (Nat.add_le_add_left (Nat.min_le_left _ _) _) (hu d hd)) hq
  · have := e.length
    omega
/-- what can be sorted: tuples with an item, no tuples, or at most one thing -/
def Sorts (ds : List PyData) : Prop := Sortable ds ∨ (ds.length ≤ 1 ∧ ∀ d ∈ ds, d ≠ .none)
theorem sorts_at {ds : List PyData} (e : EachIs (fun v d => ∃ as, Reads s.heap v d as) vs ds) (hal : AllAlike ds) (hk : Sorts ds) (hu : ∀ d, d ∈ ds → A.units + d.depth < cLine) : SortsAt prog w A s (dataKind s.heap ds) vs := by
  rcases hk with hk | ⟨h1, hn⟩
  · exact SortsAt.data e hal hk hu
  · exact short_sorts e hal h1 hn hu
/-- list.sort of data -/
theorem sort_list {a : Addr} {n : Nat} {Q : Value → Shared → Prop} (ho : s.heap.get? a = some (seqObj "list" vs.toArray n)) (e : EachIs R vs bs) (er : EachIs (fun v b => ∃ as, Reads s.heap v (enc b) as ∧ a ∉ as) vs bs) (hal : AllAlike (bs.map enc)) (hk : Sorts (bs.map enc)) (hL : bs.length ≤ sizeLine)
    (hu : ∀ b, b ∈ bs → A.units + 1 + (enc b).depth < cLine) (q : ∀ out, out.length = bs.length → EachIs R out (bs.mergeSort (dataLe false enc)) → Q .none { s with heap := sortedHeap s.heap a vs (List.toArray out) }) :
    wpAny (model prog w) A (call (.builtin "list.sort") [.ref a]) Q E s := by
  have e2 := each_keepBut (h' := sortingHeap s.heap a vs) (fun _ _ hb z => sortingHeap_old hb z) (fun o z => by rw [ho] at z; rw [← Option.some.inj z]) hal er
  have e3 := each_map (R := fun v d => ∃ as, Reads (sortingHeap s.heap a vs) v d as) enc e2
  refine wpAny_call_entry slot_list_sort ⟨_, ho, rfl⟩ entry_list_sort (list_sort_vals (κ := dataKind (sortingHeap s.heap a vs) (bs.map enc)) ho (sorts_at (s := { s with heap := sortingHeap s.heap a vs }) e3 hal hk (bound_map hu)) (by rw [e.length]; exact hL) ⟨.none, rfl, ?_⟩) (args_list_sort _)
  exact q _ (by rw [sortVals_length false rfl]; exact e.length) (sortVals_data false e e2 hal)
/-- sorted of a list of data -/
theorem sorted_list {l : Addr} {Q : Value → Shared → Prop} (hl : s.heap.IsList l vs.toArray) (e : EachIs R vs bs) (er : EachIs (fun v b => ∃ as, Reads s.heap v (enc b) as) vs bs) (hal : AllAlike (bs.map enc)) (hk : Sorts (bs.map enc)) (hL : bs.length ≤ sizeLine)
    (hu : ∀ b, b ∈ bs → A.units + 2 + (enc b).depth < cLine) (q : ∀ out, out.length = bs.length → EachIs R out (bs.mergeSort (dataLe false enc)) → Q (.ref (s.heap.objs.size + 1)) { s with heap := sortedAll s.heap vs (List.toArray out) }) :
    wpAny (model prog w) A (call (.builtin "sorted") [.ref l]) Q E s := by
  have e2 := er.mono fun _ _ ⟨as, r⟩ => (⟨as, PyProof.Rows.Reads.keeps (fun _ _ => sorting_copy_old) r⟩ : ∃ as, Reads (sortingHeap (copyHeap s.heap vs) (s.heap.objs.size + 1) vs) _ _ as)
  have e3 := each_map (R := fun v d => ∃ as, Reads (sortingHeap (copyHeap s.heap vs) (s.heap.objs.size + 1) vs) v d as) enc e2
  exact sorted_vals hl (sorts_at (s := { s with heap := sortingHeap (copyHeap s.heap vs) (s.heap.objs.size + 1) vs }) e3 hal hk (bound_map hu)) (by rw [e.length]; exact hL)
    (q _ (by rw [sortVals_length false rfl]; exact e.length) (sortVals_data false e e2 hal))
end
end Tz

/-! TS7: sorted(set), len(set), and all as rules of the layer. -/
namespace Tz
open PySem PySem.Spec PyProof.Rows L2 PySem.W
theorem unmap {α β : Type} {f : α → β} : ∀ {l : List β} {m : List α}, l.Perm (m.map f) → ∃ n : List α, n.Perm m ∧ l = n.map f
  | [], m, h => by
    have : m = [] := by
      cases m with
      | nil => rfl
      | cons x m => have := h.length_eq; cases this
    rw [this]
    exact ⟨[], .refl _, rfl⟩
  | x :: l, m, h => by
    obtain ⟨y, hy, rfl⟩ := List.mem_map.mp (h.mem_iff.mp List.mem_cons_self)
    obtain ⟨u, t, rfl⟩ := List.append_of_mem hy
    have p : (u ++ y :: t).Perm (y :: (u ++ t)) := List.perm_middle
    have h2 : l.Perm ((u ++ t).map f) := (List.perm_cons (f y)).mp (h.trans (p.map f))
    obtain ⟨n, hn, e⟩ := unmap h2
    exact ⟨y :: n, (hn.cons y).trans p.symm, by rw [List.map_cons, e]⟩
theorem alike_k : ∀ {a b : List L2.Key}, a.map (·.isLeft) = b.map (·.isLeft) → alikeAll (a.map kD1) (b.map kD1) = true
  | [], [], _ => by simp [alikeAll]
  | [], _ :: _, h => by cases h
  | _ :: _, [], h => by cases h
  | x :: a, y :: b, h => by
    obtain ⟨h1, h2⟩ := List.cons.inj h
    show alikeAll (kD1 x :: a.map kD1) (kD1 y :: b.map kD1) = true
    rw [alikeAll, alike_k h2]
    cases x <;> cases y <;> first | (simp [kD1, alike]; done) | cases h1
/-- rows of one form: the same number of items, ints and texts at the same places -/
def Form (bs : List Bool) (k : List L2.Key) : Prop := k.map (·.isLeft) = bs
theorem alike_form {ks : List (List L2.Key)} {bs : List Bool} (h : ∀ k ∈ ks, Form bs k) : AllAlike (ks.map kD) := fun d hd d' hd' => by
  obtain ⟨a, ha, rfl⟩ := List.mem_map.mp hd
  obtain ⟨b, hb, rfl⟩ := List.mem_map.mp hd'
  show alike (.tuple (a.map kD1)) (.tuple (b.map kD1)) = true
  rw [alike]
  exact alike_k ((h a ha).trans (h b hb).symm)
theorem sorts_form {ks : List (List L2.Key)} {bs : List Bool} (h : ∀ k ∈ ks, Form bs k) (h0 : bs ≠ [] ∨ ks.length ≤ 1) : Sorts (ks.map kD) := by
  rcases h0 with h0 | h0
  · refine .inl (.inl fun d hd => ?_)
    obtain ⟨k, hk, rfl⟩ := List.mem_map.mp hd
    cases k with
    | nil => exact absurd (h [] hk).symm h0
    | cons x k => exact ⟨kD1 x, k.map kD1, rfl⟩
  · refine .inr ⟨by rw [List.length_map]; exact h0, fun d hd e => ?_⟩
    obtain ⟨k, hk, rfl⟩ := List.mem_map.mp hd
    cases e
theorem depth_k : ∀ k : List L2.Key, PyData.depthAll (k.map kD1) = 0
  | [] => by simp [PyData.depthAll]
  | x :: k => by
    show PyData.depthAll (kD1 x :: k.map kD1) = 0
    rw [PyData.depthAll, depth_k k]
    cases x <;> simp [kD1, PyData.depth]
theorem depth_kD (k : List L2.Key) : (kD k).depth ≤ 1 := by
  show (PyData.tuple (k.map kD1)).depth ≤ 1
  rw [PyData.depth, depth_k]
  exact Nat.le_refl 1
section
variable {P : Program} {w : World} {A : Around} {E : Value → Shared → Prop} {s : Shared}
theorem reads_items {h : Heap} : ∀ {k : List L2.Key} {vs : List Value}, ItemsAre (mixKind P w) k vs → ReadsAll h vs (k.map kD1) []
  | _, _, .nil => .nil
  | _, _, .cons (k := z) h1 t => by
    rcases keyIs_shape h1 with ⟨i, u, rfl, rfl⟩ | ⟨x, u, rfl, rfl⟩
    · exact ReadsAll.cons (as := []) (.int i u) (reads_items t)
    · exact ReadsAll.cons (as := []) (.str x u) (reads_items t)
theorem reads_k {h : Heap} {k : List L2.Key} {b : Addr} (x : IsU P w h k b) : Reads h (.ref b) (kD k) [] := by
  obtain ⟨o, items, n, ho, hc, hd, hi⟩ := x
  exact .tuple ho hc hd (reads_items hi)
variable {a : Addr} {M : List Ent} {es : Array (Int × Value)} {ep : Nat} {t : SetTable}
theorem each_refs : ∀ {out : List Value} {N : List Ent}, EachIs (fun (v : Value) (e : Ent) => v = .ref e.a) out N → out = N.map fun e => Value.ref e.a
  | _, _, .nil => rfl
  | _, _, .cons h t => by rw [h, each_refs t]; rfl
theorem refs_each : ∀ N : List Ent, EachIs (fun (v : Value) (e : Ent) => v = .ref e.a) (N.map fun e => Value.ref e.a) N
  | [] => .nil
  | _ :: N => .cons rfl (refs_each N)
theorem sorted_setU {Q : Value → Shared → Prop} (Z : Stands P w s.heap a M es ep t) (tup : ∀ e ∈ M, IsU P w s.heap e.k e.a) (hh : A.handled = none) (few : M.length ≤ 1000) (al : AllAlike ((M.map (·.k)).map kD)) (so : Sorts ((M.map (·.k)).map kD)) (hu : A.units + 16 < cLine)
    (q : ∀ (s' : Shared) p (out : Array Value) (c : Nat) (N : List Ent), (∀ b o, s.heap.get? b = some o → s'.heap.get? b = some o) → s'.gens = s.gens → s'.os = s.os → s.heap.objs.size ≤ p → s'.heap.get? p = some (seqObj "list" out c) → out.toList = N.map (fun e => Value.ref e.a) → N.Perm M → N.map (·.k) = sortK (M.map (·.k)) → Q (.ref p) s') :
    wpAny (model P w) A (call (.builtin "sorted") [.ref a]) Q E s := by
  obtain ⟨o, ho, hex, hd⟩ := Z.here
  have hsz := Z.size
  have big := sizeLine_eq
  have asc : Ris t.place.toList := by rw [Z.tab.places]; exact Z.tab.asc
  refine Calls.call_function_entry kind_sorted plain_sorted entry_sorted (args_sorted1 _) ?_
  unfold Builtin.«sorted»
  refine wpAny_bind (m := checkCount "sorted" 1 1 _) (wpAny_pure ?_)
  refine wpAny_bind (collect_set (A := A.in1) hh ⟨o, ho, hex.1, hd⟩ Z.fits (by unfold scanBound; omega) asc Z.order fun s1 vs k1 hz g1 o1 pm => ?_)
  have em : es.toList.map (·.2) = M.map fun e => Value.ref e.a := by
    rw [Z.told, List.map_map]
    rfl
  rw [em] at pm
  obtain ⟨M1, pM, rfl⟩ := unmap pm
  have l1 : M1.length = M.length := pM.length_eq
  refine wpAny_bind (wpAny_newList ?_ (by rw [List.length_map]; omega))
  have gL : (s1.heap.push (seqObj "list" (M1.map fun e => Value.ref e.a).toArray 0)).get? s1.heap.objs.size = some (seqObj "list" (M1.map fun e => Value.ref e.a).toArray 0) := Heap.get?_push_size _ rfl
  have pk : ((M1.map (·.k)).map kD).Perm ((M.map (·.k)).map kD) := (pM.map (·.k)).map kD
  have al1 : AllAlike (M1.map fun e => kD e.k) := by
    have : (M1.map fun e => kD e.k) = (M1.map (·.k)).map kD := by rw [List.map_map]; rfl
    rw [this]
    exact fun d hd d' hd' => al d (pk.mem_iff.mp hd) d' (pk.mem_iff.mp hd')
  have so1 : Sorts (M1.map fun e => kD e.k) := by
    have : (M1.map fun e => kD e.k) = (M1.map (·.k)).map kD := by rw [List.map_map]; rfl
    rw [this]
    rcases so with (h | h) | ⟨h1, h2⟩
    · exact .inl (.inl fun d hd => h d (pk.mem_iff.mp hd))
    · exact .inl (.inr fun d hd => h d (pk.mem_iff.mp hd))
    · exact .inr ⟨by rw [pk.length_eq]; exact h1, fun d hd => h2 d (pk.mem_iff.mp hd)⟩
  have rd : EachIs (fun (v : Value) (e : Ent) => ∃ as, Reads (s1.heap.push (seqObj "list" (M1.map fun e => Value.ref e.a).toArray 0)) v (kD e.k) as ∧ s1.heap.objs.size ∉ as) (M1.map fun e => Value.ref e.a) M1 :=
    (each_mem (refs_each M1)).mono fun v e ⟨hv, he⟩ => ⟨[], by
      rw [hv]
      exact reads_k (P := P) (w := w) ((tup e (pM.mem_iff.mp he)).all fun c y z => Heap.get?_push_of_some _ (k1 c y z)), List.not_mem_nil⟩
  refine wpAny_bind (wpAny_holding (sort_list (s := { s1 with heap := s1.heap.push (seqObj "list" (M1.map fun e => Value.ref e.a).toArray 0) }) gL (refs_each M1) rd al1 so1 (by omega) (fun b _ => by have := depth_kD b.k; show A.units + 1 + 1 + (kD b.k).depth < cLine; omega) fun out ho eo => ?_))
  obtain ⟨c, hc⟩ := sortedHeap_at (vs := M1.map fun e => Value.ref e.a) (out := out.toArray) gL
  refine wpAny_pure ⟨_, rfl, q _ s1.heap.objs.size out.toArray c (M1.mergeSort (dataLe false fun e => kD e.k)) (fun b u e => ?_) g1 o1 hz hc (by simpa using each_refs eo) ((List.mergeSort_perm _ _).trans pM) ?_⟩
  · have e1 := k1 b u e
    have lt := Heap.lt_size e1
    show (sortedHeap (s1.heap.push (seqObj "list" (M1.map fun e => Value.ref e.a).toArray 0)) s1.heap.objs.size _ _).get? b = some u
    rw [sortedHeap_old (Nat.ne_of_lt lt) (by rw [size_push']; exact Nat.lt_succ_of_lt lt)]
    exact Heap.get?_push_of_some _ e1
  · have e2 : (M1.mergeSort (dataLe false fun e => kD e.k)).map (·.k) = (M1.map (·.k)).mergeSort leK := List.map_mergeSort (fun x _ y _ => rfl)
    rw [e2]
    exact sortK_eq (pM.map (·.k))
end
/-! ### the layer -/
/-- at a: a set of tuples, each with its address -/
def SetUO (P : Program) (w : World) (a : Addr) (L : List (Addr × List L2.Key)) : HO := .ext fun h => ∃ M es ep t, Stands P w h a M es ep t ∧ M.map Ent.ak = L
theorem setUO_new {P : Program} {w : World} {H : Hp} {h : Heap} {a : Addr} {M : List Ent} {es : Array (Int × Value)} {ep : Nat} {t : SetTable} (Z : Stands P w h a M es ep t) : ObjOk P w H h a (SetUO P w a (M.map Ent.ak)) :=
  ⟨⟨M, es, ep, t, Z, rfl⟩, let ⟨o, ho, _⟩ := Z.here; ⟨o, ho⟩, fun h1 h2 ⟨M', es', ep', t', Z', e⟩ k => ⟨M', es', ep', t', Z'.moved k, e⟩⟩
theorem refs_are : ∀ {ks : List (Addr × List L2.Key)} {us : List Value}, Vals (ks.map fun p => V.ref p.1) us → us = ks.map fun p => Value.ref p.1
  | [], _, .nil => rfl
  | _ :: _, _, .cons r t => by
    cases r
    rw [refs_are t]
    rfl
theorem are_refs : ∀ ks : List (Addr × List L2.Key), Vals (ks.map fun p => V.ref p.1) (ks.map fun p => Value.ref p.1)
  | [] => .nil
  | _ :: ks => .cons rfl (are_refs ks)
theorem items_kV {P : Program} {w : World} : ∀ {k : List L2.Key} {us : List Value}, Vals (k.map kV) us → ItemsAre (mixKind P w) k us
  | [], _, .nil => .nil
  | _ :: _, _, .cons r t => .cons (kV_is r) (items_kV t)
section
variable {X : Cx} {pins : List (Addr × Obj)} {σ : L2.St} {H : Hp} {s : Shared}
theorem row_raw (I : Inv X pins σ H s) {b : Addr} {k : List L2.Key} (h : SqT X.K H b (k.map kV)) : IsU X.prog X.w s.heap k b := by
  obtain ⟨its, r, ⟨o, ho, hc, n, hd⟩, _⟩ := I.tuple h
  exact ⟨o, its.toArray, n, ho, hc, hd, by simpa using items_kV r⟩
end
section
variable {X : Cx}
def rSetU (K : PySem.W.Frag) (P : Program) (w : World) : List V → Hp → VK → Prop := fun xs H Q => ∃ (l : Addr) (ks : List (Addr × List L2.Key)), xs = [V.ref l] ∧ SqL K H l (ks.map fun p => V.ref p.1) ∧ (∀ p ∈ ks, SqT K H p.1 (p.2.map kV)) ∧ ks.length < 1000 ∧
  ∀ a L, Has ks L → H a = none → Q (.ref a) (upd H a (SetUO P w a L))
theorem cr_setU (hc : X.calm = true) (hu : X.A.units + 64 < cLine) : CallR X (.type "set") (rSetU X.K X.prog X.w) := by
  intro pins s σ H xs us Q I r h
  obtain ⟨l, ks, rfl, hl, hk, few, q⟩ := h
  rw [Vals.ref1 r]
  obtain ⟨its, rv, pl, _⟩ := I.list hl
  refine call_setU (P := X.prog) (w := X.w) (ks := ks) (I.ok.hd hc) (by omega) pl.isList (by simpa using refs_are rv) (fun p hp => row_raw I (hk p hp)) few fun h' tk M es ep t Z hs keep => ?_
  exact ⟨.ref _, upd H s.heap.objs.size (SetUO X.prog X.w s.heap.objs.size (M.map Ent.ak)), I.laid (t' := tk) keep (Nat.le_refl _) (setUO_new Z), rfl, q _ _ hs (I.hok.fresh (Nat.le_refl _))⟩
def rLenU (P : Program) (w : World) : List V → Hp → VK → Prop := fun vs H Q => ∃ (a : Addr) (L : List (Addr × List L2.Key)), vs = [.ref a] ∧ H a = some (SetUO P w a L) ∧ Q (.int (L.length : Nat)) H
theorem cr_lenU : CallR X (.builtin "len") (rLenU X.prog X.w) := by
  intro pins s σ H vs us Q I r h
  obtain ⟨a, L, rfl, ha, q⟩ := h
  rw [Vals.ref1 r]
  obtain ⟨M, es, ep, t, Z, rfl⟩ := (I.hok a _ ha).1
  obtain ⟨o, ho, hex, hd⟩ := Z.here
  have hs := Z.size
  have hz := Z.sparse
  have hm := Z.tab.ones.le
  exact call_len_set ho hex hd Z.fits (by omega) ⟨.int ((M.map Ent.ak).length : Nat), H, I.tok _, ⟨_, by rw [List.length_map, hs]⟩, q⟩
def rSortedU (K : PySem.W.Frag) (P : Program) (w : World) : List V → Hp → VK → Prop := fun vs H Q => ∃ (a : Addr) (L : List (Addr × List L2.Key)) (bs : List Bool), vs = [.ref a] ∧ H a = some (SetUO P w a L) ∧ (∀ p ∈ L, SqT K H p.1 (p.2.map kV)) ∧ (∀ p ∈ L, Form bs p.2) ∧ (bs ≠ [] ∨ L.length ≤ 1) ∧ L.length ≤ 1000 ∧
  ∀ (N : List (Addr × List L2.Key)) (p : Addr), N.Perm L → N.map (·.2) = sortK (L.map (·.2)) → H p = none → Q (.ref p) (upd H p (.lst (N.map fun q => V.ref q.1)))
theorem cr_sortedU (hc : X.calm = true) (hu : X.A.units + 64 < cLine) : CallR X (.builtin "sorted") (rSortedU X.K X.prog X.w) := by
  intro pins s σ H vs us Q I r h
  obtain ⟨a, L, bs, rfl, ha, hk, hf, h0, few, q⟩ := h
  rw [Vals.ref1 r]
  obtain ⟨M, es, ep, t, Z, rfl⟩ := (I.hok a _ ha).1
  have mk : (M.map Ent.ak).map (·.2) = M.map (·.k) := by rw [List.map_map]; rfl
  have hf' : ∀ k ∈ M.map (·.k), Form bs k := fun k hk' => by
    obtain ⟨e, he, rfl⟩ := List.mem_map.mp hk'
    exact hf _ (List.mem_map.mpr ⟨e, he, rfl⟩)
  refine sorted_setU Z (fun e he => row_raw I (hk _ (List.mem_map.mpr ⟨e, he, rfl⟩))) (I.ok.hd hc) (by rwa [List.length_map] at few) (alike_form hf') (sorts_form hf' (h0.imp id fun z => by rw [List.length_map] at z ⊢; exact z)) (by omega) fun s' p out c N k g o hp hg hout pm ek => ?_
  have l1 : N.length ≤ 1000 := by
    rw [pm.length_eq]
    rwa [List.length_map] at few
  have big := sizeLine_eq
  have el : (N.map Ent.ak).map (fun q => V.ref q.1) = N.map fun e => V.ref e.a := by rw [List.map_map]; rfl
  have hv : Vals ((N.map Ent.ak).map fun q => V.ref q.1) out.toList := by
    have : (N.map fun e => Value.ref e.a) = (N.map Ent.ak).map fun q => Value.ref q.1 := by rw [List.map_map]; rfl
    rw [hout, this]
    exact are_refs _
  have hlen : ((N.map Ent.ak).map fun q => V.ref q.1).length ≤ sizeLine := by rw [List.length_map, List.length_map]; omega
  have hn : H p = none := I.hok.fresh hp
  have J : Inv X pins σ (upd H p (.lst ((N.map Ent.ak).map fun q => V.ref q.1))) { s with heap := s'.heap, gens := s'.gens, drawn := s'.drawn, toks := s'.toks } :=
    I.call (ch := []) (Un.laid k hp hn) (I.hok.laid k hp ⟨hlen, out.toList, c, hv, hg⟩) (by rw [g]; exact I.bare) (fun _ z => nomatch z)
  have e : s' = { s with heap := s'.heap, gens := s'.gens, drawn := s'.drawn, toks := s'.toks } := by
    cases s'
    cases s
    cases o
    rfl
  rw [e]
  exact ⟨.ref p, _, J, rfl, q _ p (pm.map Ent.ak) (by rw [mk, ← ek, List.map_map]; rfl) hn⟩
end
end Tz

/-! TS8: sorted of lists of rows, and of any data, as rules. -/
namespace Tz
open PySem PySem.Spec PyProof.Rows L2 PySem.W
theorem each_vals : ∀ {L : List (V × PyData)} {us : List Value}, Vals (L.map (·.1)) us → EachIs (fun (v : Value) (b : V × PyData) => RelV b.1 v) us L
  | [], _, .nil => .nil
  | _ :: _, _, .cons r t => .cons r (each_vals t)
theorem vals_each : ∀ {L : List (V × PyData)} {us : List Value}, EachIs (fun (v : Value) (b : V × PyData) => RelV b.1 v) us L → Vals (L.map (·.1)) us
  | [], _, .nil => .nil
  | _ :: _, _, .cons r t => .cons r (vals_each t)
section
variable {X : Cx}
/-- sorted(xs), xs a list of data -/
def rSortedD (K : PySem.W.Frag) : List V → Hp → VK → Prop := fun vs H Q => ∃ (a : Addr) (L : List (V × PyData)), vs = [V.ref a] ∧ SqL K H a (L.map (·.1)) ∧ (∀ p ∈ L, Dp K H p.1 p.2) ∧ AllAlike (L.map (·.2)) ∧ Sorts (L.map (·.2)) ∧ (∀ p ∈ L, p.2.depth ≤ 40) ∧
  ∀ (N : List (V × PyData)) p, N.Perm L → N.Pairwise (fun a b => leD a.2 b.2 = true) → H p = none → Q (.ref p) (upd H p (.lst (N.map (·.1))))
theorem cr_sortedD (hu : X.A.units + 64 < cLine) : CallR X (.builtin "sorted") (rSortedD X.K) := by
  intro pins s σ H vs us Q I r h
  obtain ⟨a, L, rfl, hs, hd, hal, hso, hdp, q⟩ := h
  obtain ⟨its, rv, hl, hz⟩ := I.list hs
  rw [Vals.ref1 r]
  have e := each_vals rv
  have er : EachIs (fun (v : Value) (b : V × PyData) => ∃ as, Reads s.heap v b.2 as) its L := (each_mem e).mono fun v b ⟨h1, h2⟩ => Dp.reads I b.2 b.1 v (hd b h2) h1
  have hlen : (L.map (·.1)).length = its.length := rv.length
  have hL : L.length ≤ sizeLine := by
    rw [List.length_map] at hlen
    rw [hlen, ← rv.length] at *
    exact hz
  refine sorted_list (bs := L) (enc := (·.2)) hl.isList e er hal hso hL (fun b hb => ?_) fun out ho eo => ?_
  · have := hdp b hb
    omega
  · obtain ⟨c, hc⟩ := sortedAll_at s.heap its out.toArray
    have pm := List.mergeSort_perm L (dataLe false (·.2))
    refine ⟨.ref (s.heap.objs.size + 1), upd H (s.heap.objs.size + 1) (.lst ((L.mergeSort (dataLe false (·.2))).map (·.1))), I.laid (t' := s.toks) (fun b o e => sortedAll_old e) (Nat.le_succ _) ⟨by rw [List.length_map, pm.length_eq]; exact hL, out, c, vals_each eo, hc⟩, rfl, q _ _ pm ?_ (I.hok.fresh (Nat.le_succ _))⟩
    exact List.pairwise_mergeSort (le := dataLe false fun b : V × PyData => b.2) (fun a b c => leD_trans a.2 b.2 c.2) (fun a b => leD_total a.2 b.2) L
/-- sorted(xs), xs a list of rows of one form -/
def rSortedRows (K : PySem.W.Frag) : List V → Hp → VK → Prop := fun vs H Q => ∃ (a : Addr) (L : List (Addr × List L2.Key)) (bs : List Bool), vs = [V.ref a] ∧ SqL K H a (L.map fun p => V.ref p.1) ∧ (∀ p ∈ L, SqT K H p.1 (p.2.map kV)) ∧ (∀ p ∈ L, Form bs p.2) ∧ (bs ≠ [] ∨ L.length ≤ 1) ∧
  ∀ (N : List (Addr × List L2.Key)) p, N.Perm L → N.map (·.2) = sortK (L.map (·.2)) → H p = none → Q (.ref p) (upd H p (.lst (N.map fun q => V.ref q.1)))
theorem dp_k {K : PySem.W.Frag} {H : Hp} : ∀ k : List L2.Key, DpAll K H (k.map kV) (k.map kD1)
  | [] => .nil
  | .inl i :: k => .cons (.int i) (dp_k k)
  | .inr x :: k => .cons (.str x) (dp_k k)
theorem cr_sortedRows (hu : X.A.units + 64 < cLine) : CallR X (.builtin "sorted") (rSortedRows X.K) := by
  intro pins s σ H vs us Q I r h
  obtain ⟨a, L, bs, rfl, hs, hd, hf, h0, q⟩ := h
  have hf' : ∀ k ∈ L.map (·.2), Form bs k := fun k hk => by
    obtain ⟨p, hp, rfl⟩ := List.mem_map.mp hk
    exact hf p hp
  let en : Addr × List L2.Key → V × PyData := fun p => (.ref p.1, kD p.2)
  have m1 : (L.map en).map (·.1) = L.map fun p => V.ref p.1 := by rw [List.map_map]; rfl
  have m2 : (L.map en).map (·.2) = (L.map (·.2)).map kD := by rw [List.map_map, List.map_map]; rfl
  refine cr_sortedD hu pins s σ H _ us Q I r ⟨a, L.map en, rfl, by rw [m1]; exact hs, fun p hp => ?_, by rw [m2]; exact alike_form hf', by rw [m2]; exact sorts_form hf' (h0.imp id fun z => by rw [List.length_map]; exact z), fun p hp => ?_, fun N p pm pw hn => ?_⟩
  · obtain ⟨x, hx, rfl⟩ := List.mem_map.mp hp
    exact .tup (hd x hx) (dp_k _)
  · obtain ⟨x, hx, rfl⟩ := List.mem_map.mp hp
    have := depth_kD x.2
    show (kD x.2).depth ≤ 40
    omega
  · obtain ⟨N', pN, rfl⟩ := unmap pm
    have e1 : (N'.map en).map (·.1) = N'.map fun p => V.ref p.1 := by rw [List.map_map]; rfl
    rw [e1]
    refine q N' p pN (sortK_is ?_ (pN.map _)) hn
    rw [List.pairwise_map] at pw ⊢
    exact pw
end
end Tz

set_option maxHeartbeats 8000000
namespace Kx
open PySem PySem.Spec PyProof.Rows L2
abbrev s_step_rows : Stmt := topS 35
abbrev s_check_tables : Stmt := topS 77
abbrev s_meaning : Stmt := topS 78
theorem pe_fnN {X : Cx} {k : Nat} {x : Str} {ps : List Str} {sp : Sp} {p pos : Pos} {e : Expr} {es : List Expr} {t : TA} (G : ReadyX X.prog X.w X.K X.mg X.base k x ps sp) (hr : Room k X.A) (ha : PA X (e :: es) t) (hg : Gl X x := by rfl)
    (hdb : (x == ("__debug__" : Str)) = false := by decide) (he : starEach (e :: es) X.env = (false, eval e X.env) :: starEach es X.env := by rfl) (hpl : (backTo pos (starEach es X.env)).any (·.1) = false := by rfl) :
    PE X (.Call (.Name x p) (e :: es) [] pos) (tCall sp [] E0 t) := by
  obtain ⟨f, fd, h, hb, hm, hk⟩ := G.ex
  exact pe_call h hr hg hm hk hb .nil (fun _ _ _ _ _ _ _ ⟨_, _, _, _, _, _, _, _, _, _, _, _, z⟩ => z.elim) ha hdb he hpl
theorem strNe {x y : Str} (h : x ≠ y) : ¬ V.str x = V.str y := fun e => h (by injection e)
theorem ff_n : decide (V.str "fold" = V.str "filter") = false ∧ decide (V.str "fold" = V.str "map") = false ∧ decide (V.str "fold" = V.str "read") = false ∧ decide (V.str "a" = V.str "s") = false ∧ decide (V.str "fold" = V.str "sort") = false := by decide +kernel
theorem okV_fits {b : Bool} {k : L2.Key} (h : Fits b (kV k)) : Kc.okV (kW b) (kV k) = true := by
  cases b with
  | true =>
    obtain ⟨i, e, lo, hi⟩ := h
    rw [e]
    show (!decide (V.str "int" = .str "text") && decide (Kc.In64 i)) = true
    rw [decide_eq_true (show Kc.In64 i from ⟨lo, by omega⟩)]
    decide +kernel
  | false =>
    obtain ⟨z, e, _⟩ := h
    rw [e]
    show decide (V.str "text" = .str "text") = true
    exact decide_eq_true rfl
theorem rowT_ok {cs : List NC} {r : Row} (h : RowT cs r) : Kc.rowB (cs.map fun c => kW c.2) (.tup (r.map kV)) = true := by
  rw [Kc.rowB_all (by rw [List.length_map, List.length_map, h.1]), List.all_eq_true]
  intro b hb
  obtain ⟨p, hp, rfl⟩ := List.mem_map.mp hb
  obtain ⟨i, hi, ei⟩ := List.getElem_of_mem hp
  rw [List.getElem_zip] at ei
  rw [List.length_zip, List.length_map, List.length_map] at hi
  have h1 : i < r.length := by omega
  have h2 : i < cs.length := by omega
  rw [← ei]
  show Kc.okV ((cs.map fun c => kW c.2)[i]'(by rw [List.length_map]; exact h2)) ((r.map kV)[i]'(by rw [List.length_map]; exact h1)) = true
  rw [List.getElem_map, List.getElem_map]
  exact okV_fits (h.2 i _ _ (List.getElem?_eq_getElem h2) (List.getElem?_eq_getElem h1))
theorem flat_k (k : L2.Key) : Kc.Flat (kV k) := by
  cases k with
  | inl i => exact .int i
  | inr x => exact .str x
/-- the columns of a table, as a tuple of pairs -/
def ColsIn (K : PySem.W.Frag) (H : Hp) (cols : Addr) (cas : List Col) : Prop := SqT K H cols (cas.map fun c => .ref c.1) ∧ PairsAt H cas
theorem ColsIn.same {K : PySem.W.Frag} {H H' : Hp} (s : Same H H') {cols : Addr} {cas : List Col} (h : ColsIn K H cols cas) : ColsIn K H' cols cas := ⟨seqT_same s h.1, fun c hc => s _ _ (h.2 c hc)⟩
theorem names_of (cas : List Col) : (cas.map (·.2)).map (·.1) = cas.map fun c => c.2.1 := by rw [List.map_map]; rfl
/-- a fold's detail in the heap -/
structure FoldIn (K : PySem.W.Frag) (H : Hp) (dt : Addr) (ks : List Str) (as : List (Addr × FC)) : Prop where
  ex : ∃ kt ft, SqT K H dt [.ref kt, .ref ft] ∧ SqT K H kt (ks.map V.str) ∧ FldsAt K H ft as
theorem FoldIn.same {K : PySem.W.Frag} {H H' : Hp} (s : Same H H') {dt : Addr} {ks : List Str} {as : List (Addr × FC)} (h : FoldIn K H dt ks as) : FoldIn K H' dt ks as :=
  let ⟨kt, ft, a, b, c⟩ := h.ex; ⟨⟨kt, ft, seqT_same s a, seqT_same s b, c.same s⟩⟩
section
variable {P : Program} {w : World} {K : PySem.W.Frag} {mg : Str → Option Value} {base : Heap}
/-- rows that were told: a new list of them -/
abbrev Told (K : PySem.W.Frag) (H : Hp) (Q : VK) (rs : List Row) : Prop := ∀ T H' (res : List (Addr × Row)), Same H H' → H T = none → H' T = some (.lst (res.map fun p => .ref p.1)) → (∀ p ∈ res, SqT K H' p.1 (p.2.map kV)) → res.map (·.2) = rs → Q (.ref T) H'
def spStepF (K : PySem.W.Frag) : Sp := fun vs H Q _ => ∃ (dt L CL rsa cols : Addr) (cas : List Col) (rows : List (Addr × Row)) (ks : List Str) (js : List Nat) (as : List (Addr × FC)), vs = [.str "fold", .ref dt, .ref L, .ref CL] ∧ H L = some (.lst [.ref rsa]) ∧ H CL = some (.lst [.ref cols]) ∧ ColsIn K H cols cas ∧ (cas.map fun c => c.2.1).Nodup ∧ cas.length < 1000 ∧
  SqL K H rsa (rows.map fun p => .ref p.1) ∧ RowsAt H (cas.map (·.2)) rows ∧ rows.length < 63 ∧ FoldIn K H dt ks as ∧ as ≠ [] ∧ as.length ≤ 3 ∧ (∀ p ∈ as, FOk (cas.map (·.2)) p.2) ∧ PosOf (cas.map (·.2)) ks js ∧ ks.length < 1000 ∧ Told K H Q (foldS (cas.map (·.2)) js (as.map (·.2)) (rows.map (·.2)))
abbrev N_step_rows : List Str := ["what", "details", "lists", "columns", "rows", "places"]
theorem sc_step_rows : FnScope N_step_rows ["what", "details", "lists", "columns"] (defScope s_step_rows) := ⟨rfl, rfl, rfl, by decide +kernel, rfl, by decide +kernel, by decide +kernel⟩
theorem ok_stepF {f : Addr} {fd : FuncData} {k : Nat} (F : Fun K "step_rows" "step_rows" s_step_rows f fd) (hk : 1 ≤ k) (G_places : Ready P w K mg base 1 "places_of" ["columns"] (spPlaces K)) (G_folded : Ready P w K mg base k "folded" ["rows", "details", "places"] (spFolded K)) :
    FnOk P w K mg base CX0 (k + 1) f fd ["what", "details", "lists", "columns"] (spStepF K) := by
  refine F.ok sc_step_rows (fun vs H Q E h => ?_) (fun cdv A outer s0 H vs Q E hr h => ?_)
  · obtain ⟨dt, L, CL, rsa, cols, cas, rows, ks, js, as, rfl, _⟩ := h
    rfl
  obtain ⟨dt, L, CL, rsa, cols, cas, rows, ks, js, as, rfl, eL, eCL, hC, hnd, cfew, h1, hR, few, hFo, ne0, l3, hF, hpos, kfew, q⟩ := h
  have nd := sc_step_rows.nd
  have hrk : Room k _ := hr
  have hr1 : Room 1 _ := hrk.mono hk
  refine ⟨_, pss_cons (ps_set (i := 4) nd rfl (.inl rfl) (pe_ix ix_list (pv 2) pe_int (fun _ _ => rfl)))
      (pss_cons (ps_set (i := 5) nd rfl (.inl rfl) (pe_fn (G_places) hr1 (pa_cons (pe_ix ix_list (pv 3) pe_int (fun _ _ => rfl)) pa_nil)))
      (pss_cons (ps_if (pt_cmpR op_eq (pv 0) pe_str (nomark _)) (pss_one ps_never) (pss_nil))
      (pss_cons (ps_if (pt_cmpR op_eq (pv 0) pe_str (nomark _)) (pss_one ps_never) (pss_nil))
      (pss_cons (ps_if (pt_cmpR op_eq (pv 0) pe_str (nomark _)) (pss_one (ps_ret (pe_fn (G_folded) hrk (pa_cons (pv 4) (pa_cons (pv 1) (pa_cons (pv 5) pa_nil)))))) (pss_nil))
      (pss_cons ps_never (pss_cons ps_never (pss_cons ps_never (pss_one ps_never)))))))), ?_⟩
  refine ⟨_, rfl, L, _, 0, _, rfl, rfl, SqL.of eL, at0w, ?_⟩
  refine ⟨_, rfl, CL, _, 0, _, rfl, rfl, SqL.of eCL, at0w, cols, cas, rfl, hC.1, hC.2, hnd, cfew, fun D H1 s1 eD => ?_⟩
  refine ⟨_, rfl, rfl, _, rfl, ifF' ff_n.1 ?_⟩
  refine ⟨_, rfl, rfl, _, rfl, ifF' ff_n.2.1 ?_⟩
  refine ⟨_, rfl, rfl, _, rfl, ifT' (decide_eq_true rfl) ?_⟩
  obtain ⟨kt, ft, f1, f2, f3⟩ := hFo.ex
  have nH : ∀ T, H1 T = none → H T = none := fun T h => by
    cases e : H T with
    | none => rfl
    | some o =>
      rw [s1 _ _ e] at h
      cases h
  have pD : PlcAt H1 D ((cas.map (·.2)).map (·.1)) := by rw [names_of]; exact plc_at eD hnd
  have hn2 : ((cas.map (·.2)).map (·.1)).Nodup := by rw [names_of]; exact hnd
  refine ⟨_, rfl, _, rfl, _, rfl, ?_⟩
  refine ⟨rsa, dt, kt, ft, D, cas.map (·.2), rows, ks, js, as, rfl, seqL_same s1 h1, hR.same s1, few, seqT_same s1 f1, seqT_same s1 f2, f3.same s1, ne0, l3, hF, pD, hn2, hpos, kfew, ?_⟩
  intro T H2 res s2 nT eT hres er
  have h0 := q T H2 res (s1.trans s2) (nH T nT) eT hres er
  show Q (.ref T) H2
  exact h0
/-! ### a job of two steps: a table, a fold of it -/
structure TwoAt (K : PySem.W.Frag) (H : Hp) (job st s1 s2 e1 i2 dt cols : Addr) (cas : List Col) (ks : List Str) (as : List (Addr × FC)) : Prop where
  job_ : SqT K H job [.ref st, .str "s"]
  st_ : SqT K H st [.ref s1, .ref s2]
  s1_ : SqT K H s1 [.str "a", .str "read", .ref e1, .ref cols]
  s2_ : SqT K H s2 [.str "s", .str "fold", .ref i2, .ref dt]
  i2_ : SqT K H i2 [.str "a"]
  cols_ : ColsIn K H cols cas
  fold_ : FoldIn K H dt ks as
theorem TwoAt.same {K : PySem.W.Frag} {H H' : Hp} (s : Same H H') {job st s1 s2 e1 i2 dt cols : Addr} {cas : List Col} {ks : List Str} {as : List (Addr × FC)} (h : TwoAt K H job st s1 s2 e1 i2 dt cols cas ks as) : TwoAt K H' job st s1 s2 e1 i2 dt cols cas ks as :=
  ⟨seqT_same s h.job_, seqT_same s h.st_, seqT_same s h.s1_, seqT_same s h.s2_, seqT_same s h.i2_, h.cols_.same s, h.fold_.same s⟩
def spCheck2 (K : PySem.W.Frag) : Sp := fun vs H Q _ => ∃ (job data st s1 s2 e1 i2 dt cols rsa : Addr) (cas : List Col) (ks : List Str) (as : List (Addr × FC)) (rows : List (Addr × Row)), vs = [.ref job, .ref data] ∧ TwoAt K H job st s1 s2 e1 i2 dt cols cas ks as ∧ H data = some (.dK [(.inr "a", .ref rsa)]) ∧
  SqL K H rsa (rows.map fun p => .ref p.1) ∧ RowsAt H (cas.map (·.2)) rows ∧ rows.length < 63 ∧ cas.length < 64 ∧ ∀ H', Same H H' → Q .non H'
abbrev N_check_tables : List Str := ["job", "data", "name", "what", "_", "columns"]
theorem sc_check_tables : FnScope N_check_tables ["job", "data"] (defScope s_check_tables) := ⟨rfl, rfl, rfl, by decide +kernel, rfl, by decide +kernel, by decide +kernel⟩
theorem val1 (x : Str) (v : V) : valV [((.inr x : L2.Key), v)] (.inr x) = some v := by simp [valV]
theorem ok_check2 {f : Addr} {fd : FuncData} (F : Fun K "check_tables" "check_tables" s_check_tables f fd) (G_are_rows : Ready P w K mg base 3 "are_rows" ["thing", "columns"] (Kc.spAreRows K)) : FnOk P w K mg base CX0 4 f fd ["job", "data"] (spCheck2 K) := by
  refine F.ok sc_check_tables (fun vs H Q E h => ?_) (fun cdv A outer s0 H vs Q E hr h => ?_)
  · obtain ⟨job, data, st, s1, s2, e1, i2, dt, cols, rsa, cas, ks, as, rows, rfl, _⟩ := h
    rfl
  obtain ⟨job, data, st, s1, s2, e1, i2, dt, cols, rsa, cas, ks, as, rows, rfl, J, hD, h1, hR, few, cfew, q⟩ := h
  have nd := sc_check_tables.nd
  have hu := hu_of hr
  refine ⟨_, pss_one (ps_for PassesOwn.never rfl (pi_tup (pe_ix ix_tup (pv 0) pe_int (fun _ _ => rfl))) (pg_tup rfl (pgs_cons (pg_name (i := 2) nd rfl (.inl rfl)) (pgs_cons (pg_name (i := 3) nd rfl (.inl rfl)) (pgs_cons (pg_name (i := 4) nd rfl (.inl rfl)) (pgs_cons (pg_name (i := 5) nd rfl (.inl rfl)) pgs_nil))))) (pss_one (ps_if (PW.pt (pw_and (pt_cmpR op_eq (pv 3) pe_str (nomark _)) (pw_and1 (pt_not (pt_val (pe_fn (G_are_rows) hr (pa_cons (pe_dget2 hu (pv 1) (pv 2) (pe_lst pa_nil) ⟨rfl, rfl, rfl, rfl⟩) (pa_cons (pv 5) pa_nil)))))))) (pss_one ps_never) (pss_nil)))), ?_⟩
  refine ⟨_, rfl, job, _, 0, _, rfl, rfl, J.job_, at0w, st, rfl, ⟨_, J.st_⟩, for_tup (K := K) (xs := [.ref s1, .ref s2]) (fun i σ H' => ∃ y2 y3 y4 y5, σ = [some (.ref job), some (.ref data), y2, y3, y4, y5] ∧ Same H H')
    ⟨none, none, none, none, rfl, Same.refl _⟩ (fun i σ H' _ ⟨_, _, _, _, _, sm⟩ => seqT_same sm J.st_) ?_ ?_⟩
  · rintro i x σ H' hx ⟨y2, y3, y4, y5, rfl, sm⟩
    match i, hx with
    | 0, hx =>
      cases hx
      refine ⟨s1, _, rfl, seqT_same sm J.s1_, rfl, _, _, rfl, _, _, rfl, _, _, rfl, _, _, rfl, rfl, ?_⟩
      refine ⟨_, rfl, rfl, _, rfl, ifT' (decide_eq_true rfl) ?_⟩
      refine ⟨_, rfl, data, rfl, .inl ⟨_, .inl (sm _ _ hD)⟩, _, rfl, Nat.zero_le _, fun l nl => ?_⟩
      have s4 := same_upd (o := .lst []) nl
      have g := DGet.k (k := Sum.inr "a") (s4 _ _ (sm _ _ hD))
      rw [val1] at g
      have S4 := sm.trans s4
      have J4 := J.cols_.same S4
      refine ⟨_, g, _, rfl, rsa, rows.map fun p => Kc.Th.tup (p.2.map kV), cols, cas.map fun c => (c.2.1, kW c.2.2), rfl, ⟨rows.map fun p => .ref p.1, .inl (seqL_same S4 h1), by rw [List.length_map, List.length_map], fun j x t hx ht => ?_⟩, by rw [List.length_map]; omega, ⟨cas.map (·.1), ?_, by rw [List.length_map, List.length_map], fun j a c ha hc => ?_⟩, by rw [List.length_map]; exact cfew, fun H5 s5 => ⟨_, rfl, ?_⟩⟩
      · rw [List.getElem?_map] at hx ht
        obtain ⟨p, hp, rfl⟩ := Option.map_eq_some_iff.mp hx
        rw [hp] at ht
        cases ht
        exact ⟨p.1, rfl, SqT.of (S4 _ _ (hR p (List.mem_of_getElem? hp)).1), fun z hz => by
          obtain ⟨k, _, rfl⟩ := List.mem_map.mp hz
          exact flat_k k⟩
      · have := J4.1
        rw [List.map_map]
        exact this
      · rw [List.getElem?_map] at ha hc
        obtain ⟨z, hz, rfl⟩ := Option.map_eq_some_iff.mp ha
        rw [hz] at hc
        cases hc
        exact SqT.of (J4.2 z (List.mem_of_getElem? hz))
      · have all : (rows.map fun p => Kc.Th.tup (p.2.map kV)).all (Kc.rowB ((cas.map fun c => (c.2.1, kW c.2.2)).map (·.2))) = true := by
          rw [List.all_eq_true]
          intro t ht
          obtain ⟨p, hp, rfl⟩ := List.mem_map.mp ht
          have := rowT_ok (hR p hp).2
          rw [List.map_map] at this
          rw [List.map_map]
          exact this
        rw [all]
        exact ifF' rfl ⟨_, _, _, _, rfl, (S4.trans s5)⟩
    | 1, hx =>
      cases hx
      refine ⟨s2, _, rfl, seqT_same sm J.s2_, rfl, _, _, rfl, _, _, rfl, _, _, rfl, _, _, rfl, rfl, ?_⟩
      refine ⟨_, rfl, rfl, _, rfl, ifF' ff_n.2.2.1 ?_⟩
      exact ifF' rfl ⟨_, _, _, _, rfl, sm⟩
    | i + 2, hx => cases hx
  · rintro σ H' ⟨y2, y3, y4, y5, rfl, sm⟩
    exact q H' sm
end
end Kx

set_option maxHeartbeats 8000000
namespace Kx
open PySem PySem.Spec PyProof.Rows L2
/-! ### folded rows are of one form -/
theorem told_left {kind : Str} {b : List L2.Key} {k : Bool} (h6 : kind ∈ folds6) (h0 : b ≠ []) (hk : ∀ z ∈ b, KindIs k z) : (toldK kind b).isLeft = lateK kind k := by
  have late : ∀ {z : Str}, z ∉ (["least", "greatest"] : List Str) → lateK z k = true := fun h => if_neg h
  unfold toldK Kb.toldV
  by_cases c1 : kind ∈ (["count", "sum"] : List Str)
  · rw [if_pos c1, late (fun h => by revert c1 h; revert kind; decide +kernel)]
    rfl
  rw [if_neg c1]
  by_cases c2 : V.str kind = .str "mean"
  · rw [if_pos c2]
    have e : kind = "mean" := by injection c2
    rw [e, late (by decide +kernel)]
    rfl
  rw [if_neg c2]
  by_cases c3 : V.str kind = .str "unlike"
  · rw [if_pos c3]
    have e : kind = "unlike" := by injection c3
    rw [e, late (by decide +kernel)]
    rfl
  rw [if_neg c3]
  have lg : kind ∈ (["least", "greatest"] : List Str) := by
    have n2 : kind ≠ "mean" := fun e => c2 (by rw [e])
    have n3 : kind ≠ "unlike" := fun e => c3 (by rw [e])
    clear c2 c3 late
    revert c1 n2 n3
    clear h0 hk
    revert h6
    revert kind
    decide +kernel
  obtain ⟨z, l, e⟩ := Kb.sel_ne (kind := kind) h0
  have hz : z ∈ b := Kb.sel_sd_sub (kind := kind) (by rw [e]; exact List.mem_cons_self)
  rw [e]
  have hk2 := hk z hz
  show (toK (kV z)).isLeft = lateK kind k
  rw [show lateK kind k = k from if_pos lg]
  cases z <;> exact hk2
def keyForm (cs : List NC) (js : List Nat) : List Bool := js.map fun j => (cs.getD j ("", true)).2
theorem pick_form {cs : List NC} {js : List Nat} {r : Row} (h : RowT cs r) (hj : ∀ j ∈ js, j < cs.length) : Tz.Form (keyForm cs js) (pickR r js) := by
  unfold Tz.Form keyForm pickR
  rw [List.map_map]
  refine List.map_congr_left fun j hj2 => ?_
  have h1 := hj j hj2
  have h2 : j < r.length := by rw [h.1]; exact h1
  show (r.getD j (.inl 0)).isLeft = (cs.getD j ("", true)).2
  rw [List.getD_eq_getElem?_getD, List.getD_eq_getElem?_getD, List.getElem?_eq_getElem h1, List.getElem?_eq_getElem h2]
  exact fits_kind (h.2 j _ _ (List.getElem?_eq_getElem h1) (List.getElem?_eq_getElem h2))
theorem fold_form {cs : List NC} {js : List Nat} {fs : List FC} {rows : List Row} (nd : (cs.map (·.1)).Nodup) (hr : ∀ r ∈ rows, RowT cs r) (hf : ∀ m ∈ fs, FOk cs m) (hj : ∀ j ∈ js, j < cs.length) : ∀ x ∈ foldS cs js fs rows, Tz.Form (keyForm cs js ++ fs.map fun m => lateK m.1 m.2.2.1) x := fun x hx => by
  unfold foldS at hx
  obtain ⟨k, hk, rfl⟩ := List.mem_map.mp hx
  have hk2 := mem_firsts.mp hk
  obtain ⟨r, hr2, rfl⟩ := List.mem_map.mp hk2
  unfold foldRow Tz.Form
  rw [List.map_append, show (pickR r js).map (·.isLeft) = keyForm cs js from pick_form (hr r hr2) hj, List.map_map]
  congr 1
  refine List.map_congr_left fun m hm => ?_
  exact told_left (hf m hm).1 (bag_some hk2) (bag_kind nd hr (hf m hm))
section
variable {P : Program} {w : World} {K : PySem.W.Frag} {mg : Str → Option Value} {base : Heap}
theorem tg_two {tg : Tg} {x y : Str} {c d : List NC} (h : absT tg = [(x, c), (y, d)]) : ∃ A1 A2, tg = [(x, A1, c), (y, A2, d)] := by
  match tg, h with
  | [], h => cases h
  | [_], h => cases h
  | [(n1, A1, c1), (n2, A2, c2)], h =>
    cases h
    exact ⟨A1, A2, rfl⟩
  | _ :: _ :: _ :: _, h => cases h
def spMean2 (K : PySem.W.Frag) : Sp := fun vs H Q _ => ∃ (job data st s1 s2 rsa : Addr) (cs kcs : List NC) (outs : List NC) (fs : List FC) (js : List Nat) (rows : List (Addr × Row)), vs = [.ref job, .ref data] ∧ H job = some (.tup [.ref st, .str "s"]) ∧ H st = some (.tup [.ref s1, .ref s2]) ∧
  StpAt H s1 ⟨"a", [], .read cs⟩ ∧ StpAt H s2 ⟨"s", ["a"], .fold kcs fs⟩ ∧ StpOk ⟨"a", [], .read cs⟩ ∧ StpOk ⟨"s", ["a"], .fold kcs fs⟩ ∧ runC [] [⟨"a", [], .read cs⟩, ⟨"s", ["a"], .fold kcs fs⟩] = .ok [("a", cs), ("s", outs)] ∧
  H data = some (.dK [(.inr "a", .ref rsa)]) ∧ SqL K H rsa (rows.map fun p => .ref p.1) ∧ RowsAt H cs rows ∧ rows.length < 63 ∧ cs.length < 64 ∧ (cs.map (·.1)).Nodup ∧ fs ≠ [] ∧ fs.length ≤ 3 ∧ (∀ m ∈ fs, FOk cs m) ∧ PosOf cs (kcs.map (·.1)) js ∧ kcs.length < 1000 ∧
  Told K H Q (Tz.sortK (foldS cs js fs (rows.map (·.2))))
abbrev N_meaning : List Str := ["job", "data", "steps", "answer", "columns", "found", "answer_what", "name", "what", "inputs", "details", "lists", "source"]
theorem sc_meaning : FnScope N_meaning ["job", "data"] (defScope s_meaning) := ⟨rfl, rfl, rfl, by decide +kernel, rfl, by decide +kernel, by decide +kernel⟩
theorem pa0 (v : V) : putK ([] : List (L2.Key × V)) (.inr "a") v = [(.inr "a", v)] := rfl
theorem as_ne : ("a" : Str) ≠ "s" := by decide +kernel
theorem pa1 (v u : V) : putK ([(.inr "a", v)] : List (L2.Key × V)) (.inr "s") u = [(.inr "a", v), (.inr "s", u)] := by simp [putK, as_ne]
theorem va2 (v u : V) : valV ([(.inr "a", v), (.inr "s", u)] : List (L2.Key × V)) (.inr "s") = some u := by simp [valV, as_ne]
theorem va2a (v u : V) : valV ([(.inr "a", v), (.inr "s", u)] : List (L2.Key × V)) (.inr "a") = some v := by simp [valV]
theorem ok_mean2 {f : Addr} {fd : FuncData} {C : Addr} {k kc ks : Nat} (F : Fun K "meaning" "meaning" s_meaning f fd) (hk : 4 ≤ k) (hkc : kc ≤ k) (hks : ks ≤ k) (m_sorted : mg "sorted" = none) (G_cols : ReadyX P w K mg base kc "columns_of" ["job"] (spColsJ K C)) (G_check : Ready P w K mg base 4 "check_tables" ["job", "data"] (spCheck2 K)) (G_step : Ready P w K mg base ks "step_rows" ["what", "details", "lists", "columns"] (spStepF K)) :
    FnOk P w K mg base CX0 (k + 1) f fd ["job", "data"] (spMean2 K) := by
  refine F.ok sc_meaning (fun vs H Q E h => ?_) (fun cdv A outer s0 H vs Q E hr h => ?_)
  · obtain ⟨job, data, st, s1, s2, rsa, cs, kcs, outs, fs, js, rows, rfl, _⟩ := h
    rfl
  obtain ⟨job, data, st, s1, s2, rsa, cs, kcs, outs, fs, js, rows, rfl, ej, est, S1, S2, O1, O2, hrun, hD, h1, hR, few, cfew, hnd, ne0, l3, hF, hpos, kfew, q⟩ := h
  have nd := sc_meaning.nd
  have hu := hu_of hr
  have hu64 : _ + 64 < cLine := hr.units
  have hrk : Room k _ := hr
  have hrc : Room kc _ := hrk.mono hkc
  have hr4 : Room 4 _ := hrk.mono hk
  have hrs : Room ks _ := hrk.mono hks
  refine ⟨_, pss_cons (ps_asg (pv 0) (pg_tup rfl (pgs_cons (pg_name (i := 2) nd rfl (.inl rfl)) (pgs_cons (pg_name (i := 3) nd rfl (.inl rfl)) pgs_nil))))
      (pss_cons (ps_set (i := 4) nd rfl (.inr rfl) (pe_fnN G_cols hrc (pa_cons (pv 0) pa_nil)))
      (pss_cons (ps_expr (pe_fn G_check hr4 (pa_cons (pv 0) (pa_cons (pv 1) pa_nil))))
      (pss_cons (ps_set (i := 5) nd rfl (.inr rfl) pe_dnewK)
      (pss_cons (ps_set (i := 6) nd rfl (.inl rfl) pe_non)
      (pss_cons (ps_for PassesOwn.never rfl (pi_tup (pv 2)) (pg_tup rfl (pgs_cons (pg_name (i := 7) nd rfl (.inl rfl)) (pgs_cons (pg_name (i := 8) nd rfl (.inl rfl)) (pgs_cons (pg_name (i := 9) nd rfl (.inl rfl)) (pgs_cons (pg_name (i := 10) nd rfl (.inl rfl)) pgs_nil))))) (pss_cons (ps_if (pt_cmpR op_eq (pv 8) pe_str (nomark _)) (pss_one (ps_dput hu (pv 5) (pv 7) (pe_dget2 hu (pv 1) (pv 7) (pe_lst pa_nil) ⟨rfl, rfl, rfl, rfl⟩) rfl)) (pss_cons (ps_setLc (i := 11) (own := [("source", 12)]) (g := gName 12) (tt := tYes) rfl nd rfl rfl (sw_true rfl rfl rfl (by decide +kernel)) (pi_tup (pv 9)) (blkOk_by (N := N_meaning) (sc := defScope s_meaning) (by decide +kernel)) (fun _ _ _ _ _ => pg_name (i := 12) nd rfl (Or.inl rfl)) (fun _ _ _ _ _ => pts_nil) (fun _ _ _ _ _ => (pe_dget hu (pv 5) (pv 12) (fun _ _ => rfl))))
      (pss_one (ps_dput hu (pv 5) (pv 7) (pe_fn (G_step) hrs (pa_cons (pv 8) (pa_cons (pv 10) (pa_cons (pv 11) (pa_cons (pe_lc (own := [("source", 12)]) (g := gName 12) (tt := tYes) rfl nd (pi_tup (pv 9)) (blkOk_by (N := N_meaning) (sc := defScope s_meaning) (by decide +kernel)) (fun _ _ _ _ _ => pg_name (i := 12) nd rfl (Or.inl rfl)) (fun _ _ _ _ _ => pts_nil) (fun _ _ _ _ _ => (pe_dget hu (pv 4) (pv 12) (fun _ _ => rfl)))) pa_nil))))) rfl))))
      (pss_one (ps_if (pt_cmpR op_eq (pv 7) (pv 3) (nomark _)) (pss_one (ps_set (i := 6) nd rfl (.inl rfl) (pv 8))) (pss_nil)))))
      (pss_cons (ps_if (pt_cmpR op_eq (pv 6) pe_str (nomark _)) (pss_one ps_never) (pss_nil))
      (pss_one (ps_ret (pe_callB (Tz.cr_sortedRows hu64) (by rfl) m_sorted boot_sorted (pa_cons (pe_dget hu (pv 5) (pv 3) (fun _ _ => rfl)) pa_nil)))))))))), ?_⟩
  obtain ⟨in1, dv1, a1, a2, t1, cas, rfl, a3, a4, a5⟩ := id S1
  obtain ⟨in2, dv2, b1, b2, t2, kt, ft, as, rfl, b3, b4, b5, b6, b7⟩ := id S2
  subst a5
  subst b7
  have J : TwoAt K H job st s1 s2 in1 in2 t2 t1 cas (kcs.map (·.1)) as := ⟨SqT.of ej, SqT.of est, SqT.of a1, SqT.of b1, SqT.of b2, ⟨TupF.sq a3, a4⟩, ⟨⟨kt, ft, SqT.of b3, by
    rw [List.map_map]
    exact SqT.of b4, SqT.of b5, b6⟩⟩⟩
  refine ⟨_, rfl, job, _, rfl, SqT.of ej, rfl, _, _, rfl, _, _, rfl, rfl, ?_⟩
  refine ⟨_, rfl, job, st, "s", [(s1, ⟨"a", [], .read (cas.map (·.2))⟩), (s2, ⟨"s", ["a"], .fold kcs (as.map (·.2))⟩)], rfl, ej, est, fun p hp => ?_, by show 2 ≤ 100; decide, fun kn hkn hin T tg H1 sm1 eT ab hCF => ?_, fun kn hkn hno => ?_, fun nm hno => ?_⟩
  · rcases List.mem_cons.mp hp with rfl | hp
    · exact ⟨S1, O1⟩
    · rw [List.mem_singleton.mp hp]
      exact ⟨S2, O2⟩
  · replace hkn : runC [] [⟨"a", [], .read (cas.map (·.2))⟩, ⟨"s", ["a"], .fold kcs (as.map (·.2))⟩] = .ok kn := hkn
    rw [hrun] at hkn
    cases hkn
    obtain ⟨A1, A2, rfl⟩ := tg_two ab
    obtain ⟨cas1, k1, k2, k3⟩ := hCF ("a", A1, cas.map (·.2)) List.mem_cons_self
    have J1 := J.same sm1
    refine ⟨_, rfl, _, rfl, job, data, st, s1, s2, in1, in2, t2, t1, rsa, cas, kcs.map (·.1), as, rows, rfl, J1, sm1 _ _ hD, seqL_same sm1 h1, hR.same sm1, few, by rwa [List.length_map] at cfew, fun H2 sm2 => ?_⟩
    have S2' := sm1.trans sm2
    have J2 := J.same S2'
    have eT2 := sm2 _ _ eT
    have C1 : ColsIn K H2 A1 cas1 := ⟨seqT_same sm2 (TupF.sq k1), fun c hc => sm2 _ _ (k2 c hc)⟩
    have hD2 := S2' _ _ hD
    clear J J1 S1 S2 O1 O2
    intro F nF
    have s0' := same_upd (o := .dK []) nF
    have nFH : H F = none := by
      cases e : H F with
      | none => rfl
      | some o =>
        rw [S2' _ _ e] at nF
        cases nF
    have keepF : ∀ {H3 : Hp} {o : HO}, Same H2 H3 → Same H2 (upd H3 F o) := fun sm b o e => by
      rw [upd_ne (ne_of_none e nF)]
      exact sm _ _ e
    have vT : DGet H2 T (.str "a") (some (.ref A1)) := by
      rw [← va2a (.ref A1) (.ref A2)]
      exact DGet.k (k := Sum.inr "a") eT2
    have z1 : (1 : Nat) < sizeLine := by decide
    have z0 : (0 : Nat) < sizeLine := by decide
    refine ⟨_, rfl, st, rfl, ⟨_, seqT_same s0' J2.st_⟩, for_tup (K := K) (xs := [.ref s1, .ref s2]) (fun i σ G => ∃ y6 y7 y8 y9 y10 y11 y12, σ = [some (.ref job), some (.ref data), some (.ref st), some (.str "s"), some (.ref T), some (.ref F), y6, y7, y8, y9, y10, y11, y12] ∧ Same H2 G ∧
      ((i = 0 ∧ G F = some (.dK []) ∧ y6 = some .non) ∨ (i = 1 ∧ G F = some (.dK [(.inr "a", .ref rsa)]) ∧ y6 = some .non) ∨ (i = 2 ∧ ∃ (TR : Addr) (res : List (Addr × Row)), G F = some (.dK [(.inr "a", .ref rsa), (.inr "s", .ref TR)]) ∧ G TR = some (.lst (res.map fun p => .ref p.1)) ∧ (∀ p ∈ res, SqT K G p.1 (p.2.map kV)) ∧ res.map (·.2) = foldS (cas.map (·.2)) js (as.map (·.2)) (rows.map (·.2)) ∧ y6 = some (.str "fold"))))
      ⟨_, none, none, none, none, none, none, rfl, s0', .inl ⟨rfl, upd_same, rfl⟩⟩ (fun i σ G _ ⟨_, _, _, _, _, _, _, _, sm, _⟩ => seqT_same sm J2.st_) ?_ ?_⟩
    · rintro i x σ G hx ⟨y6, y7, y8, y9, y10, y11, y12, rfl, sm, w⟩
      match i, hx, w with
      | 0, hx, w =>
        cases hx
        obtain ⟨_, eF, rfl⟩ := w.resolve_right fun z => z.elim (fun z => absurd z.1 (by decide)) fun z => absurd z.1 (by decide)
        refine ⟨s1, _, rfl, seqT_same sm J2.s1_, rfl, _, _, rfl, _, _, rfl, _, _, rfl, _, _, rfl, rfl, ?_⟩
        refine ⟨_, rfl, rfl, _, rfl, ifT' (decide_eq_true rfl) ?_⟩
        refine ⟨_, rfl, data, rfl, .inl ⟨_, .inl (sm _ _ hD2)⟩, _, rfl, Nat.zero_le _, fun l nl => ?_⟩
        have s4 := same_upd (o := .lst []) nl
        have g := DGet.k (k := Sum.inr "a") (s4 _ _ (sm _ _ hD2))
        rw [val1] at g
        have dp := DPut.k (k := Sum.inr "a") (v := .ref rsa) (s4 _ _ eF) z0
        rw [pa0] at dp
        refine ⟨_, g, _, rfl, _, rfl, F, _, rfl, dp, ?_⟩
        refine ⟨_, rfl, _, rfl, rfl, _, rfl, ifF' ff_n.2.2.2.1 ?_⟩
        exact ⟨_, _, _, _, _, _, _, rfl, keepF (sm.trans s4), .inr (.inl ⟨rfl, upd_same, rfl⟩)⟩
      | 1, hx, w =>
        cases hx
        obtain ⟨_, eF, rfl⟩ := (w.resolve_left fun z => absurd z.1 (by decide)).resolve_right fun z => absurd z.1 (by decide)
        refine ⟨s2, _, rfl, seqT_same sm J2.s2_, rfl, _, _, rfl, _, _, rfl, _, _, rfl, _, _, rfl, rfl, ?_⟩
        refine ⟨_, rfl, rfl, _, rfl, ifF' ff_n.2.2.1 ?_⟩
        have i2a := seqT_same sm J2.i2_
        refine ⟨_, rfl, in2, rfl, ⟨_, i2a⟩, fun D nD => ?_⟩
        refine lc_valsT (ys := [.ref rsa]) i2a nD rfl z1 (fun j x y G3 Qi hx hy s3 q2 => ?_) fun G3 s3 eD => ?_
        · match j, hx, hy with
          | 0, hx, hy =>
            cases hx
            cases hy
            have g := DGet.k (k := Sum.inr "a") (s3 _ _ eF)
            rw [val1] at g
            exact ⟨rfl, _, rfl, _, rfl, F, _, rfl, g, q2 _ (Same.refl _)⟩
          | j + 1, hx, _ => cases hx
        have i2b := seqT_same s3 i2a
        refine ⟨_, rfl, _, rfl, _, rfl, _, rfl, in2, rfl, ⟨_, i2b⟩, fun D2 nD2 => ?_⟩
        refine lc_valsT (ys := [.ref A1]) i2b nD2 rfl z1 (fun j x y G4 Qi hx hy s4 q2 => ?_) fun G4 s4 eD2 => ?_
        · match j, hx, hy with
          | 0, hx, hy =>
            cases hx
            cases hy
            have g : DGet G4 T (.str "a") (some (.ref A1)) := by
              rw [← va2a (.ref A1) (.ref A2)]
              exact DGet.k (k := Sum.inr "a") (s4 _ _ (s3 _ _ (sm _ _ eT2)))
            exact ⟨rfl, _, rfl, _, rfl, T, _, rfl, g, q2 _ (Same.refl _)⟩
          | j + 1, hx, _ => cases hx
        have s34 := sm.trans (s3.trans s4)
        have sAll := S2'.trans s34
        have c1 := C1.same s34
        have nm : (cas1.map fun c => c.2.1) = (cas.map (·.2)).map (·.1) := by rw [← names_of, k3]
        have len1 : cas1.length < 1000 := by
          have h8 := congrArg List.length k3
          rw [List.length_map, List.length_map] at h8
          rw [List.length_map] at cfew
          omega
        have hR1 : RowsAt G4 (cas1.map (·.2)) rows := by
          rw [k3]
          exact hR.same sAll
        have hF1 : ∀ p ∈ as, FOk (cas1.map (·.2)) p.2 := fun p hp => by
          rw [k3]
          exact hF _ (List.mem_map.mpr ⟨p, hp, rfl⟩)
        have hp1 : PosOf (cas1.map (·.2)) (kcs.map (·.1)) js := by
          rw [k3]
          exact hpos
        have nn : as ≠ [] := fun e => ne0 (by rw [e]; rfl)
        have hn1 : (cas1.map fun c => c.2.1).Nodup := by
          rw [nm]
          exact hnd
        refine ⟨t2, D, D2, rsa, A1, cas1, rows, kcs.map (·.1), js, as, rfl, s4 _ _ eD, eD2, c1, hn1, len1, seqL_same sAll h1, hR1, few, J2.fold_.same s34, nn, by rwa [List.length_map] at l3, hF1, hp1, by rw [List.length_map]; exact kfew, ?_⟩
        intro TR G5 res s5 nTR eTR hres er
        have eF5 := s5 _ _ (s4 _ _ (s3 _ _ eF))
        have dp := DPut.k (k := Sum.inr "s") (v := .ref TR) eF5 z1
        rw [pa1] at dp
        have nTF : TR ≠ F := fun e => by rw [e, eF5] at eTR; cases eTR
        refine ⟨_, rfl, _, rfl, F, _, rfl, dp, ?_⟩
        refine ⟨_, rfl, _, rfl, rfl, _, rfl, ifT' (decide_eq_true rfl) ?_⟩
        rw [k3] at er
        have sqF : ∀ {a : Addr} {xs : List V} {o : HO}, SqT K G5 a xs → SqT K (upd G5 F o) a xs := fun {a xs o} h => by
          rcases h with (h | ⟨o2, h⟩) | h
          · exact .inl (.inl (by rw [upd_ne (fun e => by rw [e, eF5] at h; cases h)]; exact h))
          · exact .inl (.inr ⟨o2, by rw [upd_ne (fun e => by rw [e, eF5] at h; cases h)]; exact h⟩)
          · exact .inr h
        refine ⟨_, rfl, ?_⟩
        exact ⟨_, _, _, _, _, _, _, rfl, keepF (s34.trans s5), .inr (.inr ⟨rfl, TR, res, upd_same, by rw [upd_ne nTF]; exact eTR, fun p hp => sqF (hres p hp), er, rfl⟩)⟩
      | i + 2, hx, w => cases hx
    · rintro σ G ⟨y6, y7, y8, y9, y10, y11, y12, rfl, sm, w⟩
      obtain ⟨_, TR, res, eF, eTR, hres, er, rfl⟩ := (w.resolve_left fun z => absurd z.1 (show ¬ (2 : Nat) = 0 by decide)).resolve_left fun z => absurd z.1 (show ¬ (2 : Nat) = 1 by decide)
      refine ⟨_, rfl, rfl, _, rfl, ifF' ff_n.2.2.2.2 ?_⟩
      have g := DGet.k (k := Sum.inr "s") eF
      rw [va2] at g
      have lr : ∀ p ∈ res, Tz.Form (keyForm (cas.map (·.2)) js ++ (as.map (·.2)).map fun m => lateK m.1 m.2.2.1) p.2 := fun p hp =>
        fold_form hnd (fun r hr => by
          obtain ⟨z, hz, rfl⟩ := List.mem_map.mp hr
          exact (hR z hz).2) hF (fun j hj => hpos.lt j hj) p.2 (by rw [← er]; exact List.mem_map.mpr ⟨p, hp, rfl⟩)
      have nb : keyForm (cas.map (·.2)) js ++ ((as.map (·.2)).map fun m => lateK m.1 m.2.2.1) ≠ [] := fun e => by
        have h8 := (List.append_eq_nil_iff.mp e).2
        exact ne0 (List.map_eq_nil_iff.mp h8)
      refine ⟨_, rfl, _, rfl, F, _, rfl, g, TR, res, _, rfl, SqL.of eTR, hres, lr, .inl nb, fun N p pm ek np => ?_⟩
      have sp := same_upd (o := .lst (N.map fun q => V.ref q.1)) np
      have nH : H p = none := by
        cases e : H p with
        | none => rfl
        | some o =>
          rw [sm _ _ (S2' _ _ e)] at np
          cases np
      have h0 := q p _ N ((S2'.trans sm).trans sp) nH upd_same (fun z hz => seqT_same sp (hres z (pm.mem_iff.mp hz))) (by rw [ek, er])
      exact h0
  · replace hkn : runC [] [⟨"a", [], .read (cas.map (·.2))⟩, ⟨"s", ["a"], .fold kcs (as.map (·.2))⟩] = .ok kn := hkn
    rw [hrun] at hkn
    cases hkn
    exact absurd (List.mem_cons_of_mem _ List.mem_cons_self) hno
  · replace hno : runC [] [⟨"a", [], .read (cas.map (·.2))⟩, ⟨"s", ["a"], .fold kcs (as.map (·.2))⟩] = .error nm := hno
    rw [hrun] at hno
    cases hno
end
end Kx

/-! KB: rows_by_key, hot_keys (k21) -/
namespace Kx
open PySem PySem.Spec PyProof.Rows L2
abbrev s_rows_by_key : Stmt := topS 27
abbrev s_hot_keys : Stmt := topS 50
theorem grp_snoc (js : List Nat) (rows : List Row) (r k : Row) : grp js (rows ++ [r]) k = if pickR r js = k then grp js rows k ++ [r] else grp js rows k := by
  unfold grp
  rw [List.filter_append]
  by_cases h : pickR r js = k
  · rw [if_pos h, List.filter_cons, decide_eq_true h]
    rfl
  · rw [if_neg h, List.filter_cons, decide_eq_false h]
    show _ ++ [] = _
    rw [List.append_nil]
theorem grp_none (js : List Nat) (rows : List Row) (k : Row) (h : k ∉ rows.map fun r => pickR r js) : grp js rows k = [] :=
  List.filter_eq_nil_iff.mpr fun r hr e => h (List.mem_map.mpr ⟨r, hr, of_decide_eq_true e⟩)
theorem grp_le (js : List Nat) (rows : List Row) (k : Row) : (grp js rows k).length ≤ rows.length := List.length_filter_le _ _
/-- a dict of keys with the rows of each in a list of its own -/
structure RbK (H0 G : Hp) (D : Addr) (js : List Nat) (rows : List Row) (kvs : List (List L2.Key × V)) : Prop where
  keys : kvs.map (·.1) = firsts (rows.map fun r => pickR r js)
  vals : ∀ k v, (k, v) ∈ kvs → ∃ (l : Addr) (xs : List V), v = .ref l ∧ l ≠ D ∧ H0 l = none ∧ G l = some (.lst xs) ∧ xs.length = (grp js rows k).length
  own : ∀ k k' l, (k, V.ref l) ∈ kvs → (k', V.ref l) ∈ kvs → k = k'
section
variable {P : Program} {w : World} {K : PySem.W.Frag} {mg : Str → Option Value} {base : Heap}
def spRByKey (K : PySem.W.Frag) : Sp := fun vs H Q _ => ∃ (rsa ja : Addr) (cs : List NC) (rows : List (Addr × Row)) (js : List Nat), vs = [.ref rsa, .ref ja] ∧ SqL K H rsa (rows.map fun p => .ref p.1) ∧ RowsAt H cs rows ∧ rows.length < 63 ∧ SqL K H ja (js.map fun j => V.int (j : Nat)) ∧ (∀ j ∈ js, j < cs.length) ∧ js.length < 1000 ∧
  ∀ D G kvs, Same H G → H D = none → G D = some (.dT kvs) → RbK H G D js (rows.map (·.2)) kvs → Q (.ref D) G
abbrev N_rows_by_key : List Str := ["rows", "ats", "found", "row"]
theorem sc_rows_by_key : FnScope N_rows_by_key ["rows", "ats"] (defScope s_rows_by_key) := ⟨rfl, rfl, rfl, by decide +kernel, rfl, by decide +kernel, by decide +kernel⟩
theorem ok_rbykey {f : Addr} {fd : FuncData} (F : Fun K "rows_by_key" "rows_by_key" s_rows_by_key f fd) (G_vals : Ready P w K mg base 1 "values_at" ["row", "ats"] (spVals K)) : FnOk P w K mg base CX0 2 f fd ["rows", "ats"] (spRByKey K) := by
  refine F.ok sc_rows_by_key (fun vs H Q E h => ?_) (fun cdv A outer s0 H vs Q E hr h => ?_)
  · obtain ⟨rsa, ja, cs, rows, js, rfl, _⟩ := h
    rfl
  obtain ⟨rsa, ja, cs, rows, js, rfl, h1, hR, few, hj, hlt, jl, q⟩ := h
  have nd := sc_rows_by_key.nd
  have hu64 : _ + 64 < cLine := hr.units
  refine ⟨_, pss_cons (ps_set (i := 2) nd rfl (.inl rfl) pe_dnewT)
      (pss_cons (ps_for PassesOwn.never rfl (pi_list (pv 0)) (pg_name (i := 3) nd rfl (.inl rfl)) (pss_one (ps_expr (pe_bm PySem.F.plainAttrs_list PySem.F.slot_list_append PySem.F.type_list_append mt_append (Di.pe_setdT (Nat.lt_of_le_of_lt (Nat.add_le_add_left (show 1 ≤ 64 by decide) _) hu64) (pv 2) (pe_fn (G_vals) (hr.mono (by decide)) (pa_cons (pv 3) (pa_cons (pv 1) pa_nil))) (pe_lst pa_nil) ⟨rfl, rfl, rfl, rfl⟩) (pa_cons (pv 3) pa_nil)))))
      (pss_one (ps_ret (pv 2)))), ?_⟩
  have z63 : ∀ {n : Nat}, n ≤ 100 → n < sizeLine := fun h => Nat.lt_of_le_of_lt h (by decide)
  refine fun D nD => ?_
  refine ⟨_, rfl, rsa, rfl, ⟨_, seqL_same (same_upd nD) h1⟩, ?_⟩
  refine for_list (K := K) (a := rsa) (xs := rows.map fun p => .ref p.1) (fun i σ G => ∃ y3, ∃ kvs : List (List L2.Key × V), σ = [some (.ref rsa), some (.ref ja), some (.ref D), y3] ∧ Same H G ∧ G D = some (.dT kvs) ∧ kvs.length ≤ i ∧ RbK H G D js ((rows.map (·.2)).take i) kvs)
    ⟨_, [], rfl, same_upd nD, upd_same, Nat.le_refl _, rfl, fun k v h => (by cases h), fun k k' l h => (by cases h)⟩ (fun i σ G _ ⟨_, _, _, sm, _⟩ => seqL_same sm h1) ?_ ?_
  · rintro i x σ G hx ⟨y3, kvs, rfl, sm, eD, lk, gr⟩
    rw [List.getElem?_map] at hx
    obtain ⟨pr, hpr, rfl⟩ := Option.map_eq_some_iff.mp hx
    have pm := List.mem_of_getElem? hpr
    have hi : i < rows.length := (List.getElem?_eq_some_iff.mp hpr).1
    obtain ⟨r1, rT⟩ := hR pr pm
    have hr2 : (rows.map (·.2))[i]? = some pr.2 := by rw [List.getElem?_map, hpr]; rfl
    have tk : (rows.map (·.2)).take (i + 1) = (rows.map (·.2)).take i ++ [pr.2] := by
      rw [List.take_add_one, hr2]
      rfl
    obtain ⟨key, hkey⟩ : ∃ key, key = pickR pr.2 js := ⟨_, rfl⟩
    have fk : firsts (((rows.map (·.2)).take (i + 1)).map fun r => pickR r js) = if memR key (firsts (((rows.map (·.2)).take i).map fun r => pickR r js)) = true then firsts (((rows.map (·.2)).take i).map fun r => pickR r js) else firsts (((rows.map (·.2)).take i).map fun r => pickR r js) ++ [key] := by
      rw [tk, List.map_append, List.map_singleton, firsts_snoc, hkey]
    have knd : (kvs.map (·.1)).Nodup := by rw [gr.keys]; exact firsts_nd _
    refine ⟨_, rfl, D, rfl, .inr ⟨_, .inl eD⟩, ?_⟩
    refine ⟨_, rfl, _, rfl, pr.1, ja, pr.2, js, rfl, SqT.of (sm _ _ r1), seqL_same sm hj, fun j h => by rw [rT.1]; exact hlt j h, jl, fun t G1 s2 ht eT => ?_⟩
    rw [← hkey] at eT
    refine ⟨Nat.zero_le _, fun l nl => ?_⟩
    have s3 := same_upd (o := .lst []) nl
    have eD1 := s2 _ _ eD
    have eD2 := s3 _ _ eD1
    have sA := sm.trans (s2.trans s3)
    have nlD : l ≠ D := fun e => by rw [e, eD1] at nl; cases nl
    have nlH : H l = none := by
      cases e : H l with
      | none => rfl
      | some o => rw [s2 _ _ (sm _ _ e)] at nl; cases nl
    refine ⟨kvs, key, t, eD2, rfl, s3 _ _ eT, z63 (by omega), fun v0 ev => ?_, fun ev => ?_⟩
    · obtain ⟨l0, xs, rfl, n1, n2, e1, c1⟩ := gr.vals key v0 (valV_mem ev)
      have mk : key ∈ firsts (((rows.map (·.2)).take i).map fun r => pickR r js) := by
        rw [← gr.keys]
        exact List.mem_map.mpr ⟨_, valV_mem ev, rfl⟩
      have e2 := s3 _ _ (s2 _ _ e1)
      have gl := grp_le js ((rows.map (·.2)).take i) key
      rw [List.length_take, List.length_map] at gl
      refine ⟨.inl ⟨rfl, _, SqL.of e2⟩, _, rfl, l0, _, _, rfl, rfl, e2, z63 (by omega), _, kvs, rfl, fun a o e => ?_, ?_, by omega, ?_, fun k v hkv => ?_, gr.own⟩
      · rw [upd_ne (ne_of_none e n2)]
        exact sA _ _ e
      · rw [upd_ne n1.symm]
        exact eD2
      · rw [gr.keys, fk, if_pos (memR_iff.mpr mk)]
      · obtain ⟨l', xs', rfl, m1, m2, f1, d1⟩ := gr.vals k v hkv
        by_cases c : k = key
        · subst c
          have := val_nodup knd _ hkv
          rw [ev] at this
          cases this
          rw [e1] at f1
          cases f1
          refine ⟨l0, _, rfl, n1, n2, upd_same, ?_⟩
          rw [tk, grp_snoc, if_pos hkey.symm, List.length_append, List.length_append, d1]
          rfl
        · have nl2 : l' ≠ l0 := fun e => c (gr.own k key l0 (e ▸ hkv) (valV_mem ev))
          refine ⟨l', xs', rfl, m1, m2, by rw [upd_ne nl2]; exact s3 _ _ (s2 _ _ f1), ?_⟩
          rw [tk, grp_snoc, if_neg (fun e => c (e.symm.trans hkey.symm)), d1]
    · have nk : key ∉ firsts (((rows.map (·.2)).take i).map fun r => pickR r js) := fun hm => by
        rw [← gr.keys] at hm
        obtain ⟨p, hp2, e⟩ := List.mem_map.mp hm
        have h8 := valV_any key kvs
        rw [ev] at h8
        have h3 : (kvs.any fun kv => decide (kv.1 = key)) = true := List.any_eq_true.mpr ⟨p, hp2, decide_eq_true e⟩
        rw [h3] at h8
        cases h8
      have pk : putK kvs key (.ref l) = kvs ++ [(key, .ref l)] := putK_new _ ev
      have el : upd (upd G1 l (.lst [])) D (.dT (putK kvs key (.ref l))) l = some (.lst []) := by
        rw [upd_ne nlD]
        exact upd_same
      refine ⟨.inl ⟨rfl, _, SqL.of el⟩, _, rfl, l, _, _, rfl, rfl, el, z63 (Nat.zero_le _), _, putK kvs key (.ref l), rfl, fun a o e => ?_, ?_, ?_, ?_, fun k v hkv => ?_, fun k k' l2 h3 h4 => ?_⟩
      · rw [upd_ne (ne_of_none e nlH), upd_ne (ne_of_none e nD)]
        exact sA _ _ e
      · rw [upd_ne nlD.symm]
        exact upd_same
      · rw [pk, List.length_append, List.length_singleton]
        omega
      · rw [pk, List.map_append, gr.keys, fk, if_neg (fun h => nk (memR_iff.mp h))]
        rfl
      · rw [pk] at hkv
        rcases List.mem_append.mp hkv with hkv | hkv
        · obtain ⟨l', xs', rfl, m1, m2, f1, d1⟩ := gr.vals k v hkv
          have c : k ≠ key := fun e => nk (by rw [← gr.keys, ← e]; exact List.mem_map.mpr ⟨_, hkv, rfl⟩)
          have f2 := s2 _ _ f1
          have nl2 : l' ≠ l := fun e => by rw [e, nl] at f2; cases f2
          refine ⟨l', xs', rfl, m1, m2, by rw [upd_ne nl2, upd_ne m1]; exact s3 _ _ f2, ?_⟩
          rw [tk, grp_snoc, if_neg (fun e => c (e.symm.trans hkey.symm)), d1]
        · cases List.mem_singleton.mp hkv
          refine ⟨l, _, rfl, nlD, nlH, upd_same, ?_⟩
          rw [tk, grp_snoc, if_pos hkey.symm, grp_none js _ key (fun h => nk (mem_firsts.mpr h))]
          rfl
      · rw [pk] at h3 h4
        have old : ∀ {k : Row} {l2 : Addr}, (k, V.ref l2) ∈ kvs → l2 ≠ l := fun {k l2} h e => by
          obtain ⟨l', xs', e', _, _, f1, _⟩ := gr.vals k _ h
          cases e'
          have f2 := s2 _ _ f1
          rw [e, nl] at f2
          cases f2
        rcases List.mem_append.mp h3 with h3 | h3 <;> rcases List.mem_append.mp h4 with h4 | h4
        · exact gr.own k k' l2 h3 h4
        · cases List.mem_singleton.mp h4
          exact absurd rfl (old h3)
        · cases List.mem_singleton.mp h3
          exact absurd rfl (old h4)
        · cases List.mem_singleton.mp h3
          cases List.mem_singleton.mp h4
          rfl
  · rintro σ G ⟨y3, kvs, rfl, sm, eD, lk, gr⟩
    rw [List.length_map, ← List.length_map (f := (·.2)) (as := rows), List.take_length] at gr
    exact ⟨_, rfl, q D G kvs sm nD eD gr⟩
end
end Kx

/-! KC: hot_keys (k21) -/
namespace Kx
open PySem PySem.Spec PyProof.Rows L2
abbrev s_hot_keys2 : Stmt := topS 50
def isHot (js : List Nat) (rows : List Row) (most : Int) (k : Row) : Bool := decide (most < ((grp js rows k).length : Int))
theorem firsts_few {js : List Nat} {rows : List Row} (h : js = []) : (firsts (rows.map fun r => pickR r js)).length ≤ 1 := by
  have h9 := nodup_len_rows (ks := [([] : Row)]) (firsts_nd (rows.map fun r => pickR r js)) fun x hx => by
    obtain ⟨r, _, rfl⟩ := List.mem_map.mp (mem_firsts.mp hx)
    rw [h]
    exact List.mem_cons_self
  exact h9
theorem keyForm_ne {cs : List NC} {js : List Nat} : js = [] ∨ keyForm cs js ≠ [] := by
  by_cases h : js = []
  · exact .inl h
  · exact .inr fun e => h (List.map_eq_nil_iff.mp e)
theorem key_few (js : List Nat) (rows : List Row) : (firsts (rows.map fun r => pickR r js)).length ≤ rows.length := by
  have h9 := nodup_len_rows (firsts_nd (rows.map fun r => pickR r js)) (fun x hx => mem_firsts.mp hx)
  rw [List.length_map] at h9
  exact h9
/-- len of a list or a tuple, as a rule over K -/
def rLenS (K : PySem.W.Frag) : List V → Hp → VK → Prop := fun xs H Q => ∃ p ys, xs = [V.ref p] ∧ (SqL K H p ys ∨ SqT K H p ys) ∧ Q (.int ys.length) H
section
variable {P : Program} {w : World} {K : PySem.W.Frag} {mg : Str → Option Value} {base : Heap}
/-- a list of rows, told by a property -/
def ToldL (K : PySem.W.Frag) (H : Hp) (Q : VK) (res : List Row) : Prop := ∀ (p : Addr) (G : Hp) (N : List (Addr × Row)), Same H G → H p = none → G p = some (.lst (N.map fun q => V.ref q.1)) → (∀ q ∈ N, G q.1 = some (.tup (q.2.map kV))) → N.map (·.2) = res → Q (.ref p) G
def spHot (K : PySem.W.Frag) : Sp := fun vs H Q _ => ∃ (rsa kt nt : Addr) (cs : List NC) (rows : List (Addr × Row)) (ks : List Str) (js : List Nat) (most : Int), vs = [.ref rsa, .ref kt, .ref nt, .int most] ∧ SqL K H rsa (rows.map fun p => .ref p.1) ∧ RowsAt H cs rows ∧ rows.length < 63 ∧ SqT K H kt (ks.map V.str) ∧ SqT K H nt ((cs.map (·.1)).map V.str) ∧ (cs.map (·.1)).Nodup ∧ cs.length < 1000 ∧ PosOf cs ks js ∧ ks.length < 1000 ∧
  ToldL K H Q (Tz.sortK ((firsts ((rows.map (·.2)).map fun r => pickR r js)).filter (isHot js (rows.map (·.2)) most)))
abbrev N_hot_keys : List Str := ["rows", "keys", "names", "most", "found", "key", "its"]
theorem sc_hot_keys : FnScope N_hot_keys ["rows", "keys", "names", "most"] (defScope s_hot_keys) := ⟨rfl, rfl, rfl, by decide +kernel, rfl, by decide +kernel, by decide +kernel⟩
theorem ok_hot {f : Addr} {fd : FuncData} (F : Fun K "hot_keys" "hot_keys" s_hot_keys f fd) (m_sorted : mg "sorted" = none) (m_len : mg "len" = none) (G_np : Ready P w K mg base 1 "name_places" ["names"] (spNPlaces K)) (G_ats : Ready P w K mg base 1 "ats_of" ["names", "places"] (spAts K)) (G_rbk : Ready P w K mg base 2 "rows_by_key" ["rows", "ats"] (spRByKey K)) : FnOk P w K mg base CX0 3 f fd ["rows", "keys", "names", "most"] (spHot K) := by
  refine F.ok sc_hot_keys (fun vs H Q E h => ?_) (fun cdv A outer s0 H vs Q E hr h => ?_)
  · obtain ⟨rsa, kt, nt, cs, rows, ks, js, most, rfl, _⟩ := h
    rfl
  obtain ⟨rsa, kt, nt, cs, rows, ks, js, most, rfl, h1, hR, few, hkt, hnt, hnd, cfew, hpos, kfew, q⟩ := h
  have nd := sc_hot_keys.nd
  have hu64 : _ + 64 < cLine := hr.units
  have hr1 : Room 1 _ := hr.mono (by decide)
  have hr2 : Room 2 _ := hr.mono (by decide)
  refine ⟨_, pss_cons (ps_set (i := 4) nd rfl (.inl rfl) (pe_fn (G_rbk) hr2 (pa_cons (pv 0) (pa_cons (pe_fn (G_ats) hr1 (pa_cons (pv 1) (pa_cons (pe_fn (G_np) hr1 (pa_cons (pv 2) pa_nil)) pa_nil))) pa_nil))))
      (pss_one (ps_ret (pe_callB (Tz.cr_sortedRows hu64) (by rfl) m_sorted boot_sorted (pa_cons (pe_lc (own := [("key", 5), ("its", 6)]) (g := (gTup K 2 (gCons (gName 5) (gCons (gName 6) gNil)))) (tt := tTest (tOp (rI0 fun i j => .bl (decide (j < i))) (tCB (rLenS K) (tCons (tVar 6) tNil)) (tVar 3))) (te := tVar 5) rfl nd (Di.pi_itT (pv 4)) (blkOk_by (N := N_hot_keys) (sc := defScope s_hot_keys) (by decide +kernel)) (fun _ _ _ _ _ => pg_tup rfl (pgs_cons (pg_name (i := 5) nd rfl (.inl rfl)) (pgs_cons (pg_name (i := 6) nd rfl (.inl rfl)) pgs_nil))) (fun _ _ _ _ _ => pts_one (pt_cmpR op_gt (pe_callB call_len_seq (by rfl) m_len PySem.boot_len (pa_cons (pv 6) pa_nil)) (pv 3) (nomark _))) (fun _ _ _ _ _ => (pv 5))) pa_nil)))), ?_⟩
  have z63 : ∀ {n : Nat}, n ≤ 100 → n < sizeLine := fun h => Nat.lt_of_le_of_lt h (by decide)
  have jl : js.length < 1000 := by rw [← hpos.1]; exact kfew
  refine ⟨_, rfl, _, rfl, _, rfl, nt, cs.map (·.1), rfl, hnt, hnd, by rw [List.length_map]; exact cfew, fun pl G1 s1 e1 => ?_⟩
  refine ⟨kt, pl, ks, cs.map (·.1), js, rfl, seqT_same s1 hkt, plc_at e1 hnd, hpos.1, hpos.2, kfew, fun ja G2 s2 e2 => ?_⟩
  have s12 := s1.trans s2
  refine ⟨rsa, ja, cs, rows, js, rfl, seqL_same s12 h1, hR.same s12, few, SqL.of e2, hpos.lt, jl, fun D G3 kvs s3 nD eD gr => ?_⟩
  have s13 := s12.trans s3
  refine ⟨_, rfl, D, kvs, rfl, eD, fun od => ?_⟩
  have nDH : H D = none := by
    cases e : H D with
    | none => rfl
    | some o => rw [s12 _ _ e] at nD; cases nD
  have sL : ∀ b o, b ≠ D → G3 b = some o → upd G3 D (.frz od (.dT kvs)) b = some o := fun b o n e => by rw [upd_ne n]; exact e
  have s4 : Same H (upd G3 D (.frz od (.dT kvs))) := fun b o e => sL b o (fun z => by rw [z] at e; rw [e] at nDH; cases nDH) (s13 _ _ e)
  have eD4 : upd G3 D (.frz od (.dT kvs)) D = some (.frz od (.dT kvs)) := upd_same
  have gv : ∀ k v, (k, v) ∈ kvs → ∃ (l : Addr) (xs : List V), v = .ref l ∧ upd G3 D (.frz od (.dT kvs)) l = some (.lst xs) ∧ xs.length = (grp js (rows.map (·.2)) k).length := fun k v hkv => by
    obtain ⟨l, xs, rfl, n1, _, f1, d1⟩ := gr.vals k v hkv
    exact ⟨l, xs, rfl, sL _ _ n1 f1, d1⟩
  generalize upd G3 D (.frz od (.dT kvs)) = G4 at s4 eD4 gv
  have gk := gr.keys
  have klen : kvs.length ≤ 63 := by
    have h8 := congrArg List.length gk
    have h9 := key_few js (rows.map (·.2))
    rw [List.length_map] at h8 h9
    omega
  refine fun L nL => ?_
  have nLH : H L = none := by
    cases e : H L with
    | none => rfl
    | some o => rw [s4 _ _ e] at nL; cases nL
  have hotF : ∀ k, isHot js (rows.map (·.2)) most k = decide (most < ((grp js (rows.map (·.2)) k).length : Int)) := fun k => rfl
  refine lc_it (Di.walk_itT (d := D) (o := od) (kvs := kvs)) (fun i G => Same G4 G ∧ ∃ res : List (Addr × Row), G L = some (.lst (res.map fun p => .ref p.1)) ∧ (∀ p ∈ res, G p.1 = some (.tup (p.2.map kV))) ∧ res.map (·.2) = ((kvs.take i).map (·.1)).filter (isHot js (rows.map (·.2)) most)) ⟨same_upd nL, [], upd_same, fun p h => (by cases h), rfl⟩ (fun i G _ h => h.1 _ _ eD4) ?_ ?_
  · rintro i x G G' hi ⟨sm, res, eL, hres, hk⟩ ⟨T0, k, v, qa, hkv, rfl, eq, nT0, rfl⟩
    obtain ⟨l, xs, rfl, el, dl⟩ := gv k v (List.mem_of_getElem? hkv)
    have s5 := same_upd (o := .tup [.ref qa, .ref l]) nT0
    have tk : (kvs.take (i + 1)).map (·.1) = (kvs.take i).map (·.1) ++ [k] := by
      rw [List.take_add_one, hkv, List.map_append]
      rfl
    have eL1 := s5 _ _ eL
    have eq1 := s5 _ _ eq
    have el1 := s5 _ _ (sm _ _ el)
    have hres1 : ∀ p ∈ res, upd G T0 (.tup [.ref qa, .ref l]) p.1 = some (.tup (p.2.map kV)) := fun p hp => s5 _ _ (hres p hp)
    have sm1 := sm.trans s5
    refine ⟨T0, _, rfl, SqT.of upd_same, rfl, _, _, rfl, _, _, rfl, rfl, rfl, ?_⟩
    generalize upd G T0 (.tup [.ref qa, .ref l]) = G5 at eL1 eq1 el1 hres1 sm1
    refine ⟨_, rfl, l, xs, rfl, .inl (SqL.of el1), _, rfl, _, _, rfl, rfl, _, rfl, ?_⟩
    rw [dl, ← hotF]
    have rl : res.length ≤ i := by
      have h8 := congrArg List.length hk
      have h9 := List.length_filter_le (isHot js (rows.map (·.2)) most) ((kvs.take i).map (·.1))
      rw [List.length_map] at h8
      rw [List.length_map, List.length_take] at h9
      omega
    cases c : isHot js (rows.map (·.2)) most k with
    | true =>
      refine ifT' rfl ⟨_, rfl, _, eL1, by rw [List.length_map]; exact z63 (by omega), fun b o e => by rw [upd_ne (ne_of_none e nL)]; exact sm1 _ _ e, res ++ [(qa, k)], by rw [upd_same, List.map_append]; rfl, fun p hp => ?_, ?_⟩
      · have ep : G5 p.1 = some (.tup (p.2.map kV)) := by
          rcases List.mem_append.mp hp with hp | hp
          · exact hres1 p hp
          · rw [List.mem_singleton.mp hp]
            exact eq1
        rw [upd_ne (fun e => by rw [e, eL1] at ep; cases ep)]
        exact ep
      · rw [tk, List.filter_append, List.map_append, hk]
        rw [List.filter_cons_of_pos c]
        rfl
    | false =>
      refine ifF' rfl ⟨sm1, res, eL1, hres1, ?_⟩
      rw [tk, List.filter_append, hk]
      rw [List.filter_cons_of_neg (by rw [c]; decide), List.filter_nil, List.append_nil]
  · rintro G ⟨sm, res, eL, hres, hk⟩
    rw [List.take_length, gk] at hk
    refine ⟨L, res, keyForm cs js, rfl, SqL.of eL, fun p hp => SqT.of (hres p hp), fun p hp => ?_, ?_, fun N p pm ek np => ?_⟩
    · have hm : p.2 ∈ res.map (·.2) := List.mem_map.mpr ⟨p, hp, rfl⟩
      rw [hk] at hm
      obtain ⟨r, hr3, e⟩ := List.mem_map.mp (mem_firsts.mp (List.mem_filter.mp hm).1)
      obtain ⟨z, hz, rfl⟩ := List.mem_map.mp hr3
      rw [← e]
      exact pick_form (hR z hz).2 hpos.lt
    · rcases keyForm_ne (cs := cs) (js := js) with c | c
      · right
        have h8 := congrArg List.length hk
        have h9 := List.length_filter_le (isHot js (rows.map (·.2)) most) (firsts ((rows.map (·.2)).map fun r => pickR r js))
        have h7 := firsts_few (rows := rows.map (·.2)) c
        rw [List.length_map] at h8
        omega
      · exact .inl c
    · have sp := same_upd (o := .lst (N.map fun q => V.ref q.1)) np
      have nH : H p = none := by
        cases e : H p with
        | none => rfl
        | some o => rw [sm _ _ (s4 _ _ e)] at np; cases np
      have h0 := q p _ N ((s4.trans sm).trans sp) nH upd_same (fun z hz => sp _ _ (hres z (pm.mem_iff.mp hz))) (by rw [ek, hk])
      exact h0
end
end Kx

namespace Dk
open PySem PySem.Spec PyProof.Rows L2
/-! ### a dict comprehension that is named -/
section
variable {X : Cx}
theorem swd_true {kx vx : Expr} {gs : List Comprehension} {scope : Scope} {pos py : Pos} {y : Str} {l : Nat} {env : Env} (hk : env.scope.kind = .function) (hy : env.scope.names.lookup y = some .local) (hl : (py.line == pos.line) = true)
    (ha : (scope.names.any fun (n, k) => n == y && (k == .local || k == .cell)) = false) : swapsWith (.DictComp kx vx gs scope pos) (some (.Name y py)) l env = pure true := by
  have ky : env.kindOf y = some .local := hy
  have hb : env.blockKind = .function := by unfold Env.blockKind; rw [hk]; rfl
  unfold swapsWith
  simp only [hb, ky, ha, Expr.pos, hl]
  rfl
theorem ps_setDc {i : Nat} {y : Str} {py : Pos} {kx vx tg iter : Expr} {ifs : List Expr} {scope : Scope} {own : List (Str × Nat)} {pos spos : Pos} {wi : TI} {g : TG} {tt : TT} {tk tv : TE} (hc : X.calm = true) (hN : X.N.Nodup) (hy : X.N[i]? = some y) (hyl : X.env.scope.names.lookup y = some .local)
    (hsw : swapsWith (.DictComp kx vx [⟨tg, iter, ifs, 0⟩] scope pos) (some (.Name y py)) spos.line X.env = pure true) (hi : PI X tg iter wi) (ok : BlkOk X.N X.env.scope scope own)
    (hg : ∀ (s : Shared) (H : Hp) (C : Addr) (cl : List (Str × Addr)) (fp : List Addr), PG (X.blk s H scope (compEnvC scope cl C X.env) fp) tg g) (ht : ∀ (s : Shared) (H : Hp) (C : Addr) (cl : List (Str × Addr)) (fp : List Addr), PTs (X.blk s H scope (compEnvC scope cl C X.env) fp) ifs tt)
    (hk : ∀ (s : Shared) (H : Hp) (C : Addr) (cl : List (Str × Addr)) (fp : List Addr), PE (X.blk s H scope (compEnvC scope cl C X.env) fp) kx tk)
    (he : ∀ (s : Shared) (H : Hp) (C : Addr) (cl : List (Str × Addr)) (fp : List Addr), PE (X.blk s H scope (compEnvC scope cl C X.env) fp) vx tv) (hs : ∀ x, foldedSetIterable iter X.env x = pure x := by intro _; rfl) :
    PS X (.Assign [.Name y py] (.DictComp kx vx [⟨tg, iter, ifs, 0⟩] scope pos) spos) (tAsg (tDc wi g tt tk tv (own.map (·.2))) (gName i)) := by
  refine ⟨fun pins s σ H D I h => ?_⟩
  rw [exec_Assign_Name_used _ _ _ _ hsw]
  refine wpAny_bind (wpAny_standAt (wpAny_bind ?_))
  show wpAny _ X.A (do let _ ← comprehension (.DictComp kx vx [⟨tg, iter, ifs, 0⟩] scope pos) scope X.env (firstIterPos [⟨tg, iter, ifs, 0⟩] pos) newDict false (eval iter X.env) (some (assign (.Name y py) X.env))) _ _ s
  have h : tDc wi g tt tk tv (own.map (·.2)) σ H (fun x H1 => gName i x σ H1 D.nx) := h
  refine wpAny_bind (thn (dc_core (Qf := fun _ s' => SP X pins D .next s') hc hN I hi ok hg ht hk he hs h fun L C s' m H' I' q hn f => ?_) fun _ s' hq => wpAny_pure (wpAny_pure hq))
  show wpAny _ _ (assign (.Name y py) X.env (.ref L)) _ _ _
  refine wpAny_assign_Name (store_ok2 (v := V.ref L) I' hN hy (.inl hyl) rfl (fun s2 I2 ⟨a, sb, ha⟩ => ?_) (.inr hyl))
  obtain ⟨f0, f1, f2, f3, f4, f5⟩ := f
  have haC : C ≠ a := by
    rcases ha with z | z
    · rw [z]; exact f1
    · exact fun e => f4 y a z e.symm
  refine ⟨m, hn.sameBut sb haC, fun h3 sb3 => ?_⟩
  exact ⟨_, H', I2.turned (t' := s2.toks) (fun b o hb e => (sb3.2 b hb).trans e) f0 f1 f3 f4 f5, q⟩
end
end Dk

/-! DJ: dict comprehensions whose keys are tuples, as a name. -/
namespace Di
open PySem PySem.Spec PyProof.Rows L2
/-- the heap behind a[y] = v, y a tuple -/
def PutT (H : Hp) (a : Addr) (y v : V) (H' : Hp) : Prop := ∃ (kvs : List (List L2.Key × V)) (k : List L2.Key) (b : Addr), H a = some (.dT kvs) ∧ y = .ref b ∧ H b = some (.tup (k.map kV)) ∧ kvs.length < sizeLine ∧ H' = upd H a (.dT (putK kvs k v))
theorem set_putT {X : Cx} {A : Around} {pins : List (Addr × Obj)} {σ : L2.St} {H H' : Hp} {s : Shared} {E : Value → Shared → Prop} {D : Addr} {y v : V} {u r : Value} {Q : Unit → Shared → Prop} (hu : A.units + 1 < cLine) (I : Inv X pins σ H s) (g : PutT H D y v H') (ry : RelV y u) (rv : RelV v r) (h : ∀ s', Inv X pins σ H' s' → Q () s') : wpAny (model X.prog X.w) A (dictSet D u r) Q E s := by
  obtain ⟨kvs, k, b, e, rfl, eb, l, rfl⟩ := g
  cases (show u = Value.ref b from ry)
  obtain ⟨z, hd, xs, rel, dd⟩ := dt_of I.hok e
  have hz : xs.length ≤ sizeLine := by rw [← Paired.length rel]; exact z
  have hl : (putK kvs k v).length ≤ sizeLine := by have := length_putK kvs k v; omega
  refine wpAny_dictSet_heap (hsz := hz) (show A.units < cLine by omega) (key_of I.hok eb) dd fun h' dd' hs => h _ ?_
  obtain ⟨o, es, ep, q1, q2, q3, q4, _, q5⟩ := dd'
  refine d_write I (by rw [e]; exact True.intro) hs ⟨o, q1⟩ ⟨hl, hd, _, (rel.put k eb rv).keeps fun c ys ec => ?_, o, es, ep, q1, q2, q3, q4, q5⟩
  rw [upd_ne (ne_of ec e (fun z => nomatch z))]
  exact ec
section
variable {X : Cx}
/-- one turn: the target, the key, the value, the pair put -/
def turnT (D : Addr) (g : TG) (tk tv : TE) (vs : List Nat) (σ : L2.St) (Nx : Hp → Prop) (x : V) (H : Hp) : Prop :=
  g x (wipe σ vs) H fun σ2 H2 => wipe σ2 vs = wipe σ vs ∧ tk σ2 H2 fun y H4 => tv σ2 H4 fun z H5 => ∃ H6, PutT H5 D y z H6 ∧ Nx H6
def tDcT (wi : TI) (g : TG) (tk tv : TE) (vs : List Nat) : TE := fun σ H Q => wi σ H fun J H1 => ∀ D, H1 D = none → ∃ W : Nat → Nat → Hp → Prop, (∃ m, W 0 m (upd H1 D (.dT []))) ∧ ∀ i m H, W i m H →
  (J.stop i H ∧ Q (.ref D) H) ∨ (J.go i H ∧ ∃ Nx : Hp → Prop, (∀ H', Nx H' → ∃ m', m' < m ∧ W (i + 1) m' H') ∧ ∀ x H', J.yld i H x H' → turnT D g tk tv vs σ Nx x H')
theorem ps_setDcT {i : Nat} {y : Str} {py : Pos} {kx vx tg iter : Expr} {scope : Scope} {own : List (Str × Nat)} {pos spos : Pos} {wi : TI} {g : TG} {tk tv : TE} (hu : X.A.units + 1 < cLine) (hc : X.calm = true) (hN : X.N.Nodup) (hy : X.N[i]? = some y) (hyl : X.env.scope.names.lookup y = some .local)
    (hsw : swapsWith (.DictComp kx vx [⟨tg, iter, [], 0⟩] scope pos) (some (.Name y py)) spos.line X.env = pure true) (hi : PI X tg iter wi) (ok : BlkOk X.N X.env.scope scope own)
    (hg : ∀ (s : Shared) (H : Hp) (C : Addr) (cl : List (Str × Addr)) (fp : List Addr), PG (X.blk s H scope (compEnvC scope cl C X.env) fp) tg g)
    (hk : ∀ (s : Shared) (H : Hp) (C : Addr) (cl : List (Str × Addr)) (fp : List Addr), PE (X.blk s H scope (compEnvC scope cl C X.env) fp) kx tk)
    (he : ∀ (s : Shared) (H : Hp) (C : Addr) (cl : List (Str × Addr)) (fp : List Addr), PE (X.blk s H scope (compEnvC scope cl C X.env) fp) vx tv) (hs : ∀ x, foldedSetIterable iter X.env x = pure x := by intro _; rfl) :
    PS X (.Assign [.Name y py] (.DictComp kx vx [⟨tg, iter, [], 0⟩] scope pos) spos) (tAsg (tDcT wi g tk tv (own.map (·.2))) (gName i)) := by
  refine ⟨fun pins s σ H Ds I h => ?_⟩
  rw [exec_Assign_Name_used _ _ _ _ hsw]
  refine wpAny_bind (wpAny_standAt (wpAny_bind ?_))
  replace h : tDcT wi g tk tv (own.map (·.2)) σ H (fun x H1 => gName i x σ H1 Ds.nx) := h
  have closed : ∀ z ∈ scope.names, z.2 = .free → ∃ c, X.env.cells.lookup z.1 = some c := fun z hz e => (ok.free z hz e).elim (fun k => I.ok.has _ (.inl k)) fun k => I.ok.has _ (.inr k)
  show wpAny _ X.A (do let _ ← comprehension (.DictComp kx vx [⟨tg, iter, [], 0⟩] scope pos) scope X.env (firstIterPos [⟨tg, iter, [], 0⟩] pos) newDict false (eval iter X.env) (some (assign (.Name y py) X.env))) _ _ s
  refine wpAny_bind (wpAny_mono (Q := fun _ s' => SP X pins Ds .next s') ?_ (fun _ s' hq => wpAny_pure (wpAny_pure hq)) fun _ _ z => z)
  refine wpAny_comprehension_free (use := some (assign (.Name y py) X.env)) rfl hs (closure_ok closed) ok.kind (fun z hz e => by rw [ok.uniq z hz, e])
    (thn (hi.run pins s σ H _ I h) fun xv s1 hx => thn hx fun itv s2 ⟨it, fp, tn, J, H2, e, I2, T, st2, f2, q⟩ => ?_)
  subst e
  refine wpAny_newObj_type (newEnv_comp ?_)
  -- the new dict, then the block
  obtain ⟨D, hD⟩ : ∃ D, D = s2.heap.objs.size := ⟨_, rfl⟩
  have nD : H2 D = none := I2.hok.fresh (Nat.le_of_eq hD.symm)
  obtain ⟨W, ⟨m0, w0⟩, turn⟩ := q D nD
  have I3 : Inv X pins σ (upd H2 D (.dT [])) { s2 with heap := s2.heap.push { cls := .type "dict", data := .dict #[] } } := by
    rw [hD]
    exact I2.laid (t' := s2.toks) (fun b o e => Heap.get?_push_of_some _ e) (Nat.le_refl _) (dt_empty s2.heap I2.big)
  have kept : ∀ b ∈ fp, FpOk X pins (upd H2 D (.dT [])) b ∧ b < (s2.heap.push { cls := .type "dict", data := .dict #[] }).objs.size := fun b hb => by
    obtain ⟨o, e, _⟩ := T.obj _ _ st2 b hb
    have lt := Heap.lt_size e
    have z := f2 b hb
    refine ⟨⟨by rw [upd_ne (by rw [hD]; exact Nat.ne_of_lt lt)]; exact z.1, z.2⟩, by rw [Heap.size_push]; exact Nat.lt_succ_of_lt lt⟩
  have st3 : tn 0 (s2.heap.push { cls := .type "dict", data := .dict #[] }) := T.keep _ _ _ st2 fun b _ o e => Heap.get?_push_of_some _ e
  rw [← hD]
  show codeAny _ _ (.compStart (.DictComp kx vx [⟨tg, iter, [], 0⟩] scope pos) 0 (.ref it) (.ref D) (compEnvC scope (cellsFrom ((s2.heap.push { cls := .type "dict", data := .dict #[] }).objs.size + 1) scope.names (cloFrom X.env.cells scope.names [])) (s2.heap.push { cls := .type "dict", data := .dict #[] }).objs.size X.env)) (compPost (model X.prog X.w) X.A X.xe (some (assign (.Name y py) X.env)) (fun _ s' => SP X pins Ds .next s') (.ref D) (s2.heap.push { cls := .type "dict", data := .dict #[] }).objs.size)
    { s2 with heap := pushCells ((s2.heap.push { cls := .type "dict", data := .dict #[] }).push { cls := .type "dict", data := .dict #[] }) scope.names }
  generalize hs3 : ({ s2 with heap := s2.heap.push { cls := .type "dict", data := .dict #[] } } : Shared) = s3 at I3
  have h3 : s2.heap.push { cls := .type "dict", data := .dict #[] } = s3.heap := by rw [← hs3]
  have h3' : ({ s2 with heap := pushCells ((s2.heap.push { cls := .type "dict", data := .dict #[] }).push { cls := .type "dict", data := .dict #[] }) scope.names } : Shared) = { s3 with heap := pushCells (s3.heap.push { cls := .type "dict", data := .dict #[] }) scope.names } := by rw [← hs3]
  rw [h3']
  rw [h3] at kept st3 ⊢
  generalize upd H2 D (.dT []) = H3 at I3 kept w0
  have I4 := block_start I3 ok hN kept
  have pg := hg s3 H3 s3.heap.objs.size (cellsFrom (s3.heap.objs.size + 1) scope.names (cloFrom X.env.cells scope.names [])) fp
  have pk := hk s3 H3 s3.heap.objs.size (cellsFrom (s3.heap.objs.size + 1) scope.names (cloFrom X.env.cells scope.names [])) fp
  have pe := he s3 H3 s3.heap.objs.size (cellsFrom (s3.heap.objs.size + 1) scope.names (cloFrom X.env.cells scope.names [])) fp
  have fresh : ∀ b ∈ fp, H3 b = none := fun b hb => (kept b hb).1.1
  generalize hce : compEnvC scope (cellsFrom (s3.heap.objs.size + 1) scope.names (cloFrom X.env.cells scope.names [])) s3.heap.objs.size X.env = ce at I4 pg pk pe ⊢
  have cL : ce.locals = s3.heap.objs.size := by subst hce; rfl
  generalize hs4 : ({ s3 with heap := pushCells (s3.heap.push { cls := .type "dict", data := .dict #[] }) scope.names } : Shared) = s4 at I4 ⊢
  have st4 : tn 0 s4.heap := T.keep _ _ _ st3 fun b _ o e => by rw [← hs4]; exact pushCells_keeps _ _ _ _ (Heap.get?_push_of_some _ e)
  have stat : ∀ {σ' : L2.St} {H' : Hp} {s' : Shared}, Inv (X.blk s3 H3 scope ce fp) [] σ' H' s' → (∀ b ∈ fp, H' b = none) → ∀ b ∈ fp, FpOk (X.blk s3 H3 scope ce fp) [] H' b := fun {σ' H' s'} I' hn b hb =>
    ⟨hn b hb, (I'.ok.exf b hb).1, I'.ok.exfs b hb, .inl hb, fun x c e => (I'.ok.exf b hb).2 x c e, fun p hp => absurd (show p ∈ ([] : List (Addr × Obj)) ++ [] from hp) (by simp)⟩
  have loop : codeAny (model X.prog X.w) X.A (.compLoop (.DictComp kx vx [⟨tg, iter, [], 0⟩] scope pos) 0 (.ref it) (.ref D) ce) (compPost (model X.prog X.w) X.A X.xe (some (assign (.Name y py) X.env)) (fun _ s' => SP X pins Ds .next s') (.ref D) s3.heap.objs.size) s4 := by
    refine compLoop_anyD (fun n s' => ∃ i H', Inv (X.blk s3 H3 scope ce fp) [] (wipe σ (own.map (·.2))) H' s' ∧ tn i s'.heap ∧ (∀ b ∈ fp, H' b = none) ∧ W i n H') ?_ m0 ⟨0, H3, I4, st4, fresh, w0⟩
    rintro n s5 ⟨j, H5, I5, st5, n5, w5⟩
    rcases turn j n H5 w5 with ⟨stop, qq⟩ | ⟨go, Nx, hNx, step⟩
    · refine thnF (T.done (X.blk s3 H3 scope ce fp) rfl rfl rfl hc j [] s5 _ H5 (fun _ _ => False) I5 (stat I5 n5) st5 stop) fun r s6 ⟨hr, I6⟩ => ?_
      subst hr
      have I7 : Inv X pins σ H5 s6 := I3.call' (ch := fp) I6.os I6.base I6.hok I6.bare fun b hb => ⟨(kept b hb).1.2.2.2.1, (kept b hb).1.2.1, (kept b hb).1.2.2.2.2.1, (kept b hb).1.2.2.2.2.2⟩
      have nC : H5 s3.heap.objs.size = none := by
        have z : H5 ce.locals = none := I6.free
        rwa [cL] at z
      obtain ⟨m, hn, _⟩ := I6.loc
      replace hn : s6.heap.Ns ce.locals m := hn
      rw [cL] at hn
      obtain ⟨f0, f1, f2', f3, f4, f5⟩ := I3.fpOk (Nat.le_refl _) nC
      show wpAny _ _ (assign (.Name y py) X.env (.ref D)) _ _ _
      refine wpAny_assign_Name (store_ok2 (v := V.ref D) I7 hN hy (.inl hyl) rfl (fun s8 I8 ⟨a, sb, ha⟩ => ?_) (.inr hyl))
      have ne : s3.heap.objs.size ≠ a := by
        rcases ha with z | z
        · rw [z]; exact f1
        · exact fun e => f4 y a z e.symm
      exact ⟨m, hn.sameBut sb ne, fun h9 sb9 => ⟨_, H5, I8.turned (t' := s8.toks) (fun b o hb e => (sb9.2 b hb).trans e) nC f1 f3 f4 f5, qq⟩⟩
    · refine thnF (T.item (X.blk s3 H3 scope ce fp) rfl rfl rfl hc j [] s5 _ H5 (fun _ _ => False) I5 (stat I5 n5) st5 go) fun r s6 ⟨u, hr, h6⟩ => ?_
      subst hr
      refine thnF h6 fun _ s7 ⟨x, H7, I7, r7, y7, st7, n7⟩ => ?_
      have I7' := I7.pinned (stat I7 n7) (T.obj _ _ st7)
      refine thnF (pg.run _ s7 _ H7 x u _ I7' r7 (step x H7 y7)) fun _ s8 ⟨σ8, H8, I8, hw8, q8⟩ => ?_
      refine wpAny_pure ?_
      simp only [if_true]
      refine thnF (pk.run _ s8 σ8 H8 _ I8 q8) fun z s10 ⟨yk, H10, I10, r10, q10⟩ => ?_
      refine thnF (pe.run _ s10 σ8 H10 _ I10 q10) fun z2 s11 ⟨yv, H11, I11, r11, H12, pt, nx⟩ => ?_
      refine set_putT (X := X.blk s3 H3 scope ce fp) hu I11 pt r10 r11 fun s12 I12 => ?_
      obtain ⟨m', hm, w'⟩ := hNx H12 nx
      have pin' : ∀ b ∈ fp, ∀ o, s7.heap.get? b = some o → s12.heap.get? b = some o ∧ H12 b = none := fun b hb o e =>
        let z := I12.pin (b, o) (List.mem_append_right _ (List.mem_append_right _ (mem_pinsAt hb e)))
        ⟨z.1, z.2.1⟩
      have hl : (wipe σ (own.map (·.2))).length = σ8.length := by rw [← hw8, wipe_length]
      refine ⟨m', hm, j + 1, H12, (I12.unpinned (pins := [])).weak hl (fun j v e => ?_), T.keep _ _ _ st7 fun b hb o e => (pin' b hb o e).1, fun b hb => ?_, w'⟩
      · rw [← hw8] at e
        exact (wipe_some e).1
      · obtain ⟨o, e, _⟩ := T.obj _ _ st7 b hb
        exact (pin' b hb o e).2
  exact codeAny_compStart_dict loop (T.self X.A 0 _ _ _ st4 loop)
/-- a comprehension over a walk -/
theorem dcT_it {J : It} {n : Nat} {G : Hp → Prop} {Y : Nat → Hp → V → Hp → Prop} (w : Walk J n G Y) {g : TG} {tk tv : TE} {vs : List Nat} {σ : L2.St} {H1 : Hp} {D : Addr} {Qd : Hp → Prop} (Pv : Nat → Hp → Prop) (h0 : Pv 0 (upd H1 D (.dT []))) (hG : ∀ i H, i ≤ n → Pv i H → G H)
    (hs : ∀ i x H H', i < n → Pv i H → Y i H x H' → turnT D g tk tv vs σ (Pv (i + 1)) x H') (hd : ∀ H, Pv n H → Qd H) :
    ∃ W : Nat → Nat → Hp → Prop, (∃ m, W 0 m (upd H1 D (.dT []))) ∧ ∀ i m H, W i m H →
      (J.stop i H ∧ Qd H) ∨ (J.go i H ∧ ∃ Nx : Hp → Prop, (∀ H', Nx H' → ∃ m', m' < m ∧ W (i + 1) m' H') ∧ ∀ x H', J.yld i H x H' → turnT D g tk tv vs σ Nx x H') := by
  refine ⟨fun i m H => m = n - i ∧ i ≤ n ∧ Pv i H, ⟨n, by simp, Nat.zero_le _, h0⟩, ?_⟩
  rintro i m H ⟨rfl, hi, p⟩
  have q := hG i H hi p
  by_cases hlt : i < n
  · exact .inr ⟨w.goes i H hlt q, Pv (i + 1), fun H' p' => ⟨n - (i + 1), by omega, rfl, hlt, p'⟩, fun x H' y => hs i x H H' hlt p (w.yields i H x H' hlt q y)⟩
  · have e : i = n := by omega
    subst e
    exact .inl ⟨w.stops H q, hd H p⟩
end
end Di

/-! KD: dealt_rows (k21) -/
namespace Kx
open PySem PySem.Spec PyProof.Rows L2
abbrev s_dealt_rows : Stmt := topS 51
theorem set_perm {α : Type} : ∀ {ps : List (List α)} {j : Nat} {q : List α} {x : α}, ps[j]? = some q → (ps.set j (q ++ [x])).flatten.Perm (ps.flatten ++ [x])
  | [], j, q, x, h => by cases h
  | p :: ps, 0, q, x, h => by
    cases h
    show ((p ++ [x]) ++ ps.flatten).Perm ((p ++ ps.flatten) ++ [x])
    rw [List.append_assoc, List.append_assoc]
    exact List.Perm.append_left _ List.perm_append_comm
  | p :: ps, j + 1, q, x, h => by
    show (p ++ (ps.set j (q ++ [x])).flatten).Perm ((p ++ ps.flatten) ++ [x])
    rw [List.append_assoc]
    exact List.Perm.append_left _ (set_perm (ps := ps) (j := j) h)
/-- how many of n turns fall to j of p, dealt in turn -/
def evenN (n p j : Nat) : Nat := n / p + if j < n % p then 1 else 0
theorem even_step {n p j : Nat} (hj : j < p) : evenN (n + 1) p j = evenN n p j + if j = n % p then 1 else 0 := by
  have hp : 0 < p := by omega
  have e : n + 1 = p * (n / p) + (n % p + 1) := by have := Nat.div_add_mod n p; omega
  have lt := Nat.mod_lt n hp
  have d : (n + 1) / p = n / p + (n % p + 1) / p := by
    conv => lhs; rw [e]
    exact Nat.mul_add_div hp _ _
  have m : (n + 1) % p = (n % p + 1) % p := by
    conv => lhs; rw [e]
    exact Nat.mul_add_mod _ _ _
  unfold evenN
  rw [d, m]
  by_cases c : n % p + 1 = p
  · rw [c, Nat.div_self hp, Nat.mod_self, if_neg (Nat.not_lt_zero j)]
    by_cases z : j = n % p
    · rw [if_pos z, if_neg (by omega)]
    · rw [if_neg z, if_pos (by omega)]
  · have d1 : (n % p + 1) / p = 0 := Nat.div_eq_of_lt (by omega)
    have m1 : (n % p + 1) % p = n % p + 1 := Nat.mod_eq_of_lt (by omega)
    rw [d1, m1]
    by_cases z : j = n % p
    · rw [if_pos z, if_pos (by omega), if_neg (by omega)]
    · rw [if_neg z]
      by_cases y : j < n % p
      · rw [if_pos y, if_pos (by omega)]
      · rw [if_neg y, if_neg (by omega)]
theorem fits_sml {b : Bool} {z : L2.Key} (h : Fits b (kV z)) : Sml z := by
  cases b <;> cases z <;> obtain ⟨y, e, h⟩ := h
  · cases e
  · cases e
    exact h
  · cases e
    exact ⟨h.1, by omega⟩
  · cases e
theorem pick_sml {cs : List NC} {js : List Nat} {r : Row} (h : RowT cs r) (hj : ∀ j ∈ js, j < cs.length) : ∀ z ∈ pickR r js, Sml z := fun z hz => by
  obtain ⟨j, hj2, rfl⟩ := List.mem_map.mp hz
  have h1 := hj j hj2
  have h2 : j < r.length := by rw [h.1]; exact h1
  rw [List.getD_eq_getElem?_getD, List.getElem?_eq_getElem h2]
  exact fits_sml (h.2 j _ _ (List.getElem?_eq_getElem h1) (List.getElem?_eq_getElem h2))
section
variable {P : Program} {w : World} {K : PySem.W.Frag} {mg : Str → Option Value} {base : Heap}
/-- the rows dealt into pieces -/
structure DealA (G : Hp) (D : Addr) (ws : List Addr) (ps : List (List (Addr × Row))) : Prop where
  lst : G D = some (.lst (ws.map V.ref))
  len : ws.length = ps.length
  at_ : ∀ (j : Nat) (l : Addr) (q : List (Addr × Row)), ws[j]? = some l → ps[j]? = some q → G l = some (.lst (q.map fun r => .ref r.1))
theorem DealA.put {G : Hp} {D : Addr} {ws : List Addr} {ps : List (List (Addr × Row))} {j : Nat} {l : Addr} {q : List (Addr × Row)} {r : Addr × Row} (h : DealA G D ws ps) (nw : ws.Nodup) (nD : l ≠ D) (hl : ws[j]? = some l) (hq : ps[j]? = some q) :
    DealA (upd G l (.lst (q.map (fun r => V.ref r.1) ++ [.ref r.1]))) D ws (ps.set j (q ++ [r])) := by
  refine ⟨by rw [upd_ne nD.symm]; exact h.lst, by rw [List.length_set]; exact h.len, fun i l' q' h1 h2 => ?_⟩
  have hj : j < ps.length := (List.getElem?_eq_some_iff.mp hq).1
  by_cases c : i = j
  · subst c
    rw [hl] at h1
    cases h1
    rw [List.getElem?_set_self hj] at h2
    cases h2
    rw [upd_same, List.map_append]
    rfl
  · rw [List.getElem?_set_ne (Ne.symm c)] at h2
    have ne : l' ≠ l := fun e => by
      subst e
      obtain ⟨a1, a2⟩ := List.getElem?_eq_some_iff.mp h1
      obtain ⟨b1, b2⟩ := List.getElem?_eq_some_iff.mp hl
      rcases Nat.lt_or_gt_of_ne c with lt | lt
      · exact List.pairwise_iff_getElem.mp nw i j a1 b1 lt (a2.trans b2.symm)
      · exact List.pairwise_iff_getElem.mp nw j i b1 a1 lt (b2.trans a2.symm)
    rw [upd_ne ne]
    exact h.at_ i l' q' h1 h2
theorem mem_len {α : Type} : ∀ {ps : List (List α)} {q : List α}, q ∈ ps → q.length ≤ ps.flatten.length
  | [], _, h => absurd h List.not_mem_nil
  | p :: ps, q, h => by
    show _ ≤ (p ++ ps.flatten).length
    rw [List.length_append]
    rcases List.mem_cons.mp h with rfl | h
    · omega
    · have := mem_len h
      omega
def spDealt (K : PySem.W.Frag) : Sp := fun vs H Q _ => ∃ (rsa kt nt ha : Addr) (cs : List NC) (rows : List (Addr × Row)) (ks : List Str) (js : List Nat) (hs : List (Addr × Row)) (p : Nat), vs = [.ref rsa, .ref kt, .ref nt, .ref ha, .int (p : Nat)] ∧ SqL K H rsa (rows.map fun p => .ref p.1) ∧ RowsAt H cs rows ∧ rows.length < 63 ∧ SqT K H kt (ks.map V.str) ∧ SqT K H nt ((cs.map (·.1)).map V.str) ∧ (cs.map (·.1)).Nodup ∧ cs.length < 1000 ∧ PosOf cs ks js ∧ ks.length < 1000 ∧
  SqL K H ha (hs.map fun q => .ref q.1) ∧ (∀ q ∈ hs, H q.1 = some (.tup (q.2.map kV))) ∧ hs.length < 1000 ∧ 0 < p ∧ p ≤ 100 ∧
  ∀ D G (ws : List Addr) (ps : List (List (Addr × Row))), Same H G → (∀ l ∈ ws, H l = none) → DealA G D ws ps → ps.length = p → ps.flatten.Perm rows → ((∀ r ∈ rows, pickR r.2 js ∈ hs.map (·.2)) → ∀ (j : Nat) q, ps[j]? = some q → q.length = evenN rows.length p j) → Q (.ref D) G
abbrev N_dealt_rows : List Str := ["rows", "keys", "names", "hot", "pieces", "ats", "hot_ones", "key", "turn", "dealt", "_", "row"]
theorem sc_dealt_rows : FnScope N_dealt_rows ["rows", "keys", "names", "hot", "pieces"] (defScope s_dealt_rows) := ⟨rfl, rfl, rfl, by decide +kernel, rfl, by decide +kernel, by decide +kernel⟩
theorem ok_dealt {f : Addr} {fd : FuncData} (F : Fun K "dealt_rows" "dealt_rows" s_dealt_rows f fd) (m_range : mg "range" = none) (G_np : Ready P w K mg base 1 "name_places" ["names"] (spNPlaces K)) (G_ats : Ready P w K mg base 1 "ats_of" ["names", "places"] (spAts K)) (G_vals : Ready P w K mg base 1 "values_at" ["row", "ats"] (spVals K)) (G_sum : Ready P w K mg base 2 "key_sum" ["key"] (spKSum K)) : FnOk P w K mg base CX0 3 f fd ["rows", "keys", "names", "hot", "pieces"] (spDealt K) := by
  refine F.ok sc_dealt_rows (fun vs H Q E h => ?_) (fun cdv A outer s0 H vs Q E hr h => ?_)
  · obtain ⟨rsa, kt, nt, ha, cs, rows, ks, js, hs, p, rfl, _⟩ := h
    rfl
  obtain ⟨rsa, kt, nt, ha, cs, rows, ks, js, hs, p, rfl, h1, hR, few, hkt, hnt, hnd, cfew, hpos, kfew, hha, hhs, hfew, p0, p9, q⟩ := h
  have nd := sc_dealt_rows.nd
  have hu64 : _ + 64 < cLine := hr.units
  have hu := hu_of hr
  have hr1 : Room 1 _ := hr.mono (by decide)
  have hr2 : Room 2 _ := hr.mono (by decide)
  refine ⟨_, pss_cons (ps_set (i := 5) nd rfl (.inl rfl) (pe_fn (G_ats) hr1 (pa_cons (pv 1) (pa_cons (pe_fn (G_np) hr1 (pa_cons (pv 2) pa_nil)) pa_nil))))
      (pss_cons (Di.ps_setDcT (i := 6) (own := [("key", 7)]) (g := gName 7) (tk := tVar 7) (tv := tC (.bl true)) hu rfl nd rfl rfl (Dk.swd_true rfl rfl rfl (by decide +kernel)) (pi_list (pv 3)) (blkOk_by (N := N_dealt_rows) (sc := defScope s_dealt_rows) (by decide +kernel)) (fun _ _ _ _ _ => pg_name (i := 7) nd rfl (Or.inl rfl)) (fun _ _ _ _ _ => (pv 7)) (fun _ _ _ _ _ => pe_bl))
      (pss_cons (ps_set (i := 8) nd rfl (.inl rfl) pe_int)
      (pss_cons (ps_setLc (i := 9) (own := [("_", 10)]) (g := gName 10) (tt := tYes) rfl nd rfl rfl (sw_true rfl rfl rfl (by decide +kernel)) (pi_range1 rfl m_range (pa_cons (pv 4) pa_nil)) (blkOk_by (N := N_dealt_rows) (sc := defScope s_dealt_rows) (by decide +kernel)) (fun _ _ _ _ _ => pg_name (i := 10) nd rfl (Or.inl rfl)) (fun _ _ _ _ _ => pts_nil) (fun _ _ _ _ _ => (pe_lst pa_nil)))
      (pss_cons (ps_for PassesOwn.never rfl (pi_list (pv 0)) (pg_name (i := 11) nd rfl (.inl rfl)) (pss_cons (ps_set (i := 7) nd rfl (.inl rfl) (pe_fn (G_vals) hr1 (pa_cons (pv 11) (pa_cons (pv 5) pa_nil))))
      (pss_one (ps_if (pt_cmp (pc_din hu (pv 7) (pv 6))) (pss_cons (ps_expr (pe_bm PySem.F.plainAttrs_list PySem.F.slot_list_append PySem.F.type_list_append mt_append (pe_ix ix_list (pv 9) (pe_op op_mod (pv 8) (pv 4)) (fun _ _ => rfl)) (pa_cons (pv 11) pa_nil)))
      (pss_one (ps_aug (i := 8) nd rfl (.inl rfl) pe_int ip_add))) (pss_one (ps_expr (pe_bm PySem.F.plainAttrs_list PySem.F.slot_list_append PySem.F.type_list_append mt_append (pe_ix ix_list (pv 9) (pe_op op_mod (pe_fn (G_sum) hr2 (pa_cons (pv 7) pa_nil)) (pv 4)) (fun _ _ => rfl)) (pa_cons (pv 11) pa_nil))))))))
      (pss_one (ps_ret (pv 9))))))), ?_⟩
  have z63 : ∀ {n : Nat}, n ≤ 1000 → n < sizeLine := fun h => Nat.lt_of_le_of_lt h (by decide)
  have jl : js.length < 1000 := by rw [← hpos.1]; exact kfew
  refine ⟨_, rfl, _, rfl, nt, cs.map (·.1), rfl, hnt, hnd, by rw [List.length_map]; exact cfew, fun pl G1 s1 e1 => ?_⟩
  refine ⟨kt, pl, ks, cs.map (·.1), js, rfl, seqT_same s1 hkt, plc_at e1 hnd, hpos.1, hpos.2, kfew, fun ja G2 s2 e2 => ?_⟩
  have s12 := s1.trans s2
  refine ⟨_, rfl, ha, rfl, ⟨_, seqL_same s12 hha⟩, fun HO nHO => ?_⟩
  refine Di.dcT_it (walk_list (K := K) (a := ha) (xs := hs.map fun q => .ref q.1)) (fun i G => Same G2 G ∧ ∃ kvs : List (List L2.Key × V), G HO = some (.dT kvs) ∧ kvs.length ≤ i ∧ ∀ k, (valV kvs k).isSome = true ↔ k ∈ (hs.take i).map (·.2)) ⟨same_upd nHO, [], upd_same, Nat.le_refl _, fun k => ⟨fun h => (by cases h), fun h => (by cases h)⟩⟩ (fun i G _ h => seqL_same (s12.trans h.1) hha) ?_ ?_
  · rintro i x G G' hi ⟨sm, kvs, eO, lk, hk⟩ ⟨rfl, hx⟩
    rw [List.getElem?_map] at hx
    obtain ⟨z, hz, rfl⟩ := Option.map_eq_some_iff.mp hx
    have zm := List.mem_of_getElem? hz
    rw [List.length_map] at hi
    refine ⟨rfl, _, rfl, _, ⟨kvs, z.2, z.1, eO, rfl, sm _ _ (s12 _ _ (hhs z zm)), z63 (by omega), rfl⟩, fun b o e => ?_, _, upd_same, ?_, fun k => ?_⟩
    · rw [upd_ne (ne_of_none e nHO)]
      exact sm _ _ e
    · have := length_putK kvs z.2 (.bl true)
      omega
    · rw [List.take_add_one, hz, List.map_append, List.mem_append, valV_put]
      by_cases c : k = z.2
      · rw [if_pos c]
        exact ⟨fun _ => .inr (by rw [c]; exact List.mem_cons_self), fun _ => rfl⟩
      · rw [if_neg c, hk k]
        exact ⟨.inl, fun y => y.elim id fun y => absurd (List.mem_singleton.mp y) c⟩
  rintro G3 ⟨s3, kvs, eO, lk, hk⟩
  rw [List.length_map, List.take_length] at hk
  have s13 := s12.trans s3
  refine ⟨_, rfl, (p : Int), rfl, by omega, by omega, fun D nD => ?_⟩
  refine lc_it (walk_range (lo := 0) (n := p)) (fun i G => Same G3 G ∧ ∃ ws : List Addr, G D = some (.lst (ws.map V.ref)) ∧ ws.length = i ∧ ws.Nodup ∧ ∀ l ∈ ws, l ≠ D ∧ G3 l = none ∧ G l = some (.lst [])) ⟨same_upd nD, [], upd_same, rfl, List.nodup_nil, fun l h => (by cases h)⟩ (fun _ _ _ _ => trivial) ?_ ?_
  · rintro i x G G' hi ⟨sm, ws, eD, lw, nw, hw⟩ ⟨rfl, rfl⟩
    refine ⟨rfl, Nat.zero_le _, fun l nl => ?_⟩
    have s5 := same_upd (o := .lst []) nl
    have nlD : l ≠ D := fun e => by rw [e, eD] at nl; cases nl
    have nl3 : G3 l = none := by
      cases e : G3 l with
      | none => rfl
      | some o => rw [sm _ _ e] at nl; cases nl
    have eD5 := s5 _ _ eD
    refine ⟨_, eD5, by rw [List.length_map]; exact z63 (by omega), fun b o e => ?_, ws ++ [l], ?_, by rw [List.length_append, lw]; rfl, ?_, fun l' hl' => ?_⟩
    · rw [upd_ne (ne_of_none e nD)]
      exact s5 _ _ (sm _ _ e)
    · rw [upd_same, List.map_append]
      rfl
    · refine List.nodup_append.mpr ⟨nw, List.nodup_cons.mpr ⟨List.not_mem_nil, List.nodup_nil⟩, fun a ha b hb e => ?_⟩
      rw [List.mem_singleton.mp hb] at e
      rw [e] at ha
      rw [(hw l ha).2.2] at nl
      cases nl
    · rcases List.mem_append.mp hl' with hl' | hl'
      · obtain ⟨a1, a2, a3⟩ := hw l' hl'
        exact ⟨a1, a2, by rw [upd_ne a1]; exact s5 _ _ a3⟩
      · cases List.mem_singleton.mp hl'
        exact ⟨nlD, nl3, by rw [upd_ne nlD]; exact upd_same⟩
  rintro G4 ⟨s4, ws, eD, lw, nw, hw⟩
  have s14 := s13.trans s4
  have wH : ∀ l ∈ ws, H l = none := fun l hl => by
    cases e : H l with
    | none => rfl
    | some o => exact absurd (hw l hl).2.1 (by rw [s13 _ _ e]; exact fun z => by cases z)
  refine ⟨_, rfl, rsa, rfl, ⟨_, seqL_same s14 h1⟩, ?_⟩
  have r0 : ∀ {p : Nat} {j : Nat} {q : List (Addr × Row)}, (List.replicate p ([] : List (Addr × Row)))[j]? = some q → q = [] := fun {p j q} h => by
    have := List.mem_of_getElem? h
    exact (List.mem_replicate.mp this).2
  have fl0 : ∀ n : Nat, (List.replicate n ([] : List (Addr × Row))).flatten = [] := fun n => by
    refine List.flatten_eq_nil_iff.mpr fun q hq => (List.mem_replicate.mp hq).2
  refine for_list (K := K) (a := rsa) (xs := rows.map fun p => .ref p.1) (fun i σ G => ∃ y7 y10 y11, ∃ (t : Nat) (ps : List (List (Addr × Row))), σ = [some (.ref rsa), some (.ref kt), some (.ref nt), some (.ref ha), some (.int (p : Nat)), some (.ref ja), some (.ref HO), y7, some (.int (t : Nat)), some (.ref D), y10, y11] ∧ Same G3 G ∧ DealA G D ws ps ∧ ps.length = p ∧ ps.flatten.Perm (rows.take i) ∧
      ((∀ r ∈ rows, pickR r.2 js ∈ hs.map (·.2)) → t = i ∧ ∀ (j : Nat) q, ps[j]? = some q → q.length = evenN i p j))
    ⟨_, _, _, 0, List.replicate p [], rfl, s4, ⟨eD, by rw [List.length_replicate]; exact lw, fun j l q h1 h2 => by rw [r0 h2]; exact (hw l (List.mem_of_getElem? h1)).2.2⟩, List.length_replicate, by rw [fl0]; exact List.Perm.refl _, fun _ => ⟨rfl, fun j q h => by
      rw [r0 h]
      unfold evenN
      rw [Nat.zero_div, Nat.zero_mod, if_neg (Nat.not_lt_zero _)]
      rfl⟩⟩ (fun i σ G _ ⟨_, _, _, _, _, _, sm, _⟩ => seqL_same (s13.trans sm) h1) ?_ ?_
  · rintro i x σ G hx ⟨y7, y10, y11, t, ps, rfl, sm, da, lp, pm, hot⟩
    rw [List.getElem?_map] at hx
    obtain ⟨pr, hpr, rfl⟩ := Option.map_eq_some_iff.mp hx
    have prm := List.mem_of_getElem? hpr
    have hi : i < rows.length := (List.getElem?_eq_some_iff.mp hpr).1
    have sA := s13.trans sm
    obtain ⟨r1, rT⟩ := hR pr prm
    have tk : rows.take (i + 1) = rows.take i ++ [pr] := by
      rw [List.take_add_one, hpr]
      rfl
    refine ⟨_, rfl, _, rfl, pr.1, ja, pr.2, js, rfl, SqT.of (sA _ _ r1), SqL.of (sm _ _ (s3 _ _ e2)), fun j h => by rw [rT.1]; exact hpos.lt j h, jl, fun a G5 s5 na ea => ?_⟩
    have sB := sm.trans s5
    have da5 : DealA G5 D ws ps := ⟨s5 _ _ da.lst, da.len, fun j l q h1 h2 => s5 _ _ (da.at_ j l q h1 h2)⟩
    -- one row to a piece
    have put : ∀ j : Nat, j < p → ∃ (l : Addr) (q : List (Addr × Row)), ws[j]? = some l ∧ ps[j]? = some q ∧ l ≠ D ∧ G5 l = some (.lst (q.map fun r => .ref r.1)) ∧ q.length ≤ 63 ∧ Same G3 (upd G5 l (.lst (q.map (fun r => V.ref r.1) ++ [.ref pr.1]))) ∧ DealA (upd G5 l (.lst (q.map (fun r => V.ref r.1) ++ [.ref pr.1]))) D ws (ps.set j (q ++ [pr])) ∧ (ps.set j (q ++ [pr])).flatten.Perm (rows.take (i + 1)) := fun j hj => by
      have j1 : j < ps.length := by rw [lp]; exact hj
      have j2 : j < ws.length := by rw [da.len]; exact j1
      have w1 := List.getElem?_eq_getElem j2
      have p1 := List.getElem?_eq_getElem j1
      obtain ⟨b1, b2, _⟩ := hw _ (List.mem_of_getElem? w1)
      refine ⟨ws[j], ps[j], w1, p1, b1, da5.at_ j _ _ w1 p1, ?_, fun b o e => ?_, da5.put nw b1 w1 p1, ?_⟩
      · have h8 := mem_len (List.mem_of_getElem? p1)
        have h9 := pm.length_eq
        rw [List.length_take] at h9
        omega
      · rw [upd_ne (ne_of_none e b2)]
        exact sB _ _ e
      · rw [tk]
        exact (set_perm p1).trans (pm.append_right _)
    refine ⟨_, rfl, _, rfl, HO, _, rfl, DGet.t (sB _ _ eO) ea, _, rfl, ?_⟩
    cases c : (valV kvs (pickR pr.2 js)).isSome with
    | true =>
      refine ifT' rfl ?_
      obtain ⟨l, q, w1, p1, b1, el, ql, sC, daC, pmC⟩ := put (t % p) (Nat.mod_lt _ p0)
      have em : ((t : Int) % (p : Int)) = ((t % p : Nat) : Int) := (Int.natCast_emod t p).symm
      refine ⟨_, rfl, _, rfl, _, rfl, _, _, rfl, rfl, (by omega : (0 : Int) < (p : Int)), D, ws.map V.ref, _, .ref l, rfl, rfl, SqL.of da5.lst, by rw [em]; exact atI_nat (by rw [List.getElem?_map, w1]; rfl), ?_⟩
      refine ⟨.inl ⟨rfl, _, SqL.of el⟩, _, rfl, l, _, _, rfl, rfl, el, by rw [List.length_map]; exact z63 (by omega), ?_⟩
      refine ⟨_, rfl, _, _, rfl, rfl, ?_⟩
      refine ⟨_, _, _, t + 1, _, rfl, sC, daC, by rw [List.length_set]; exact lp, pmC, fun all => ?_⟩
      obtain ⟨et, hl⟩ := hot all
      refine ⟨by rw [et], fun j q' hq' => ?_⟩
      have hj : j < p := by
        have := (List.getElem?_eq_some_iff.mp hq').1
        rwa [List.length_set, lp] at this
      rw [even_step hj]
      by_cases z : j = i % p
      · rw [if_pos z]
        rw [z, ← et] at hq'
        rw [List.getElem?_set_self (by rw [lp]; exact Nat.mod_lt _ p0)] at hq'
        cases hq'
        rw [List.length_append, hl _ q p1, z, et]
        rfl
      · rw [if_neg z]
        rw [List.getElem?_set_ne (by rw [et]; exact fun e => z e.symm)] at hq'
        rw [hl j q' hq']
        rfl
    | false =>
      refine ifF' rfl ?_
      refine ⟨_, rfl, _, rfl, a, pickR pr.2 js, rfl, SqT.of ea, pick_sml rT hpos.lt, fun n => ?_⟩
      have hn0 : 0 ≤ n % (p : Int) := Int.emod_nonneg _ (by omega)
      have hn1 : n % (p : Int) < (p : Int) := Int.emod_lt_of_pos _ (by omega)
      obtain ⟨l, q, w1, p1, b1, el, ql, sC, daC, pmC⟩ := put (n % (p : Int)).toNat (by omega)
      have em : (n % (p : Int)) = (((n % (p : Int)).toNat : Nat) : Int) := by omega
      refine ⟨_, rfl, _, _, rfl, rfl, (by omega : (0 : Int) < (p : Int)), D, ws.map V.ref, _, .ref l, rfl, rfl, SqL.of da5.lst, by rw [em]; exact atI_nat (by rw [List.getElem?_map, w1]; rfl), ?_⟩
      refine ⟨.inl ⟨rfl, _, SqL.of el⟩, _, rfl, l, _, _, rfl, rfl, el, by rw [List.length_map]; exact z63 (by omega), ?_⟩
      refine ⟨_, _, _, t, _, rfl, sC, daC, by rw [List.length_set]; exact lp, pmC, fun all => ?_⟩
      have h8 := (hk (pickR pr.2 js)).mpr (all pr prm)
      rw [c] at h8
      cases h8
  · rintro σ G ⟨y7, y10, y11, t, ps, rfl, sm, da, lp, pm, hot⟩
    rw [List.length_map, List.take_length] at pm
    rw [List.length_map] at hot
    exact ⟨_, rfl, q D G ws ps (s13.trans sm) wH da lp pm fun all => (hot all).2⟩
end
end Kx

/-! KM: most_in_piece (k21) -/
namespace Kx
open PySem PySem.Spec PyProof.Rows L2
abbrev s_most_in_piece : Stmt := topS 53
/-- n / p, up -/
def upDiv (n p : Nat) : Nat := n / p + if 0 < n % p then 1 else 0
theorem upDiv_le {n p m : Nat} (hp : 0 < p) (h : n ≤ p * m) : upDiv n p ≤ m := by
  unfold upDiv
  have e := Nat.div_add_mod n p
  split
  · rename_i c
    have lt : p * (n / p) < p * m := by omega
    exact Nat.lt_of_mul_lt_mul_left lt
  · have le : p * (n / p) ≤ p * m := by omega
    exact Nat.le_of_mul_le_mul_left le hp
theorem upDiv_neg {n p : Nat} (hp : 0 < p) : -((-(n : Int)) / (p : Int)) = (upDiv n p : Int) := by
  have e := Nat.div_add_mod n p
  have lt := Nat.mod_lt n hp
  have hp' : (0 : Int) < (p : Int) := by omega
  have e2 : (n : Int) = (p : Int) * ((n / p : Nat) : Int) + ((n % p : Nat) : Int) := by
    rw [← Int.natCast_mul, ← Int.natCast_add, e]
  unfold upDiv
  by_cases c : 0 < n % p
  · rw [if_pos c]
    have q : (-(n : Int)) / (p : Int) = -(((n / p : Nat) : Int) + 1) := by
      refine Int.ediv_eq_iff_of_pos hp' |>.mpr ?_
      have m1 : (p : Int) * (((n / p : Nat) : Int) + 1) = (p : Int) * ((n / p : Nat) : Int) + p := by rw [Int.mul_add, Int.mul_one]
      rw [Int.neg_mul, Int.mul_comm, m1]
      omega
    rw [q]
    omega
  · rw [if_neg c]
    have z : n % p = 0 := by omega
    have q : (-(n : Int)) / (p : Int) = -((n / p : Nat) : Int) := by
      rw [e2, z, ← Int.mul_neg_one]
      show ((p : Int) * ((n / p : Nat) : Int) + 0) * -1 / (p : Int) = _
      rw [Int.add_zero, Int.mul_assoc, Int.mul_ediv_cancel_left _ (by omega)]
      omega
    rw [q]
    omega
theorem flat_le {α : Type} {m : Nat} : ∀ {ps : List (List α)}, (∀ q ∈ ps, q.length ≤ m) → ps.flatten.length ≤ ps.length * m
  | [], _ => by simp
  | p :: ps, h => by
    show (p ++ ps.flatten).length ≤ (ps.length + 1) * m
    rw [List.length_append, Nat.add_mul, Nat.one_mul]
    have := h p List.mem_cons_self
    have := flat_le (ps := ps) fun q hq => h q (List.mem_cons_of_mem _ hq)
    omega
section
variable {P : Program} {w : World} {K : PySem.W.Frag} {mg : Str → Option Value} {base : Heap}
def spPMost (K : PySem.W.Frag) : Sp := fun vs H Q _ => ∃ (rsa kt nt ha : Addr) (cs : List NC) (rows : List (Addr × Row)) (ks : List Str) (js : List Nat) (hs : List (Addr × Row)) (p : Nat), vs = [.ref rsa, .ref kt, .ref nt, .ref ha, .int (p : Nat)] ∧ SqL K H rsa (rows.map fun p => .ref p.1) ∧ RowsAt H cs rows ∧ rows.length < 63 ∧ SqT K H kt (ks.map V.str) ∧ SqT K H nt ((cs.map (·.1)).map V.str) ∧ (cs.map (·.1)).Nodup ∧ cs.length < 1000 ∧ PosOf cs ks js ∧ ks.length < 1000 ∧
  SqL K H ha (hs.map fun q => .ref q.1) ∧ (∀ q ∈ hs, H q.1 = some (.tup (q.2.map kV))) ∧ hs.length < 1000 ∧ 0 < p ∧ p ≤ 100 ∧
  ∀ G (m : Nat), Same H G → upDiv rows.length p ≤ m → m ≤ rows.length → ((∀ r ∈ rows, pickR r.2 js ∈ hs.map (·.2)) → m = upDiv rows.length p) → Q (.int (m : Nat)) G
abbrev N_most_in_piece : List Str := ["rows", "keys", "names", "hot", "pieces", "piece"]
theorem sc_most_in_piece : FnScope N_most_in_piece ["rows", "keys", "names", "hot", "pieces"] (defScope s_most_in_piece) := ⟨rfl, rfl, rfl, by decide +kernel, rfl, by decide +kernel, by decide +kernel⟩
theorem ok_most {f : Addr} {fd : FuncData} (F : Fun K "most_in_piece" "most_in_piece" s_most_in_piece f fd) (m_max : mg "max" = none) (m_len : mg "len" = none) (G_d : Ready P w K mg base 3 "dealt_rows" ["rows", "keys", "names", "hot", "pieces"] (spDealt K)) : FnOk P w K mg base CX0 4 f fd ["rows", "keys", "names", "hot", "pieces"] (spPMost K) := by
  refine F.ok sc_most_in_piece (fun vs H Q E h => ?_) (fun cdv A outer s0 H vs Q E hr h => ?_)
  · obtain ⟨rsa, kt, nt, ha, cs, rows, ks, js, hs, p, rfl, _⟩ := h
    rfl
  obtain ⟨rsa, kt, nt, ha, cs, rows, ks, js, hs, p, rfl, h1, hR, few, hkt, hnt, hnd, cfew, hpos, kfew, hha, hhs, hfew, p0, p9, q⟩ := h
  have nd := sc_most_in_piece.nd
  have hr3 : Room 3 _ := hr.mono (by decide)
  refine ⟨_, pss_one (ps_ret (pe_callB (cr_max rfl) (by rfl) m_max boot_max (pa_cons (pe_lc (own := [("piece", 5)]) (g := gName 5) (tt := tYes) (te := tCB (rLenS K) (tCons (tVar 5) tNil)) rfl nd (pi_list (pe_fn (G_d) hr3 (pa_cons (pv 0) (pa_cons (pv 1) (pa_cons (pv 2) (pa_cons (pv 3) (pa_cons (pv 4) pa_nil))))))) (blkOk_by (N := N_most_in_piece) (sc := defScope s_most_in_piece) (by decide +kernel)) (fun _ _ _ _ _ => pg_name (i := 5) nd rfl (Or.inl rfl)) (fun _ _ _ _ _ => pts_nil) (fun _ _ _ _ _ => (pe_callB call_len_seq (by rfl) m_len PySem.boot_len (pa_cons (pv 5) pa_nil)))) pa_nil))), ?_⟩
  refine ⟨_, rfl, _, rfl, _, rfl, _, rfl, _, rfl, rsa, kt, nt, ha, cs, rows, ks, js, hs, p, rfl, h1, hR, few, hkt, hnt, hnd, cfew, hpos, kfew, hha, hhs, hfew, p0, p9, fun D G ws ps s1 _ da lp pm all => ?_⟩
  refine ⟨D, rfl, ⟨_, SqL.of da.lst⟩, fun L nL => ?_⟩
  refine lc_valsL (SqL.of da.lst) nL (ys := ps.map fun q => V.int (q.length : Nat)) (by rw [List.length_map, List.length_map, da.len]) (by rw [List.length_map, da.len, lp]; exact Nat.lt_of_le_of_lt p9 (by decide)) (fun i x y G2 Qi hx hy sm q2 => ?_) fun G2 sm eL => ?_
  · rw [List.getElem?_map] at hx hy
    obtain ⟨l, hl, rfl⟩ := Option.map_eq_some_iff.mp hx
    obtain ⟨z, hz, rfl⟩ := Option.map_eq_some_iff.mp hy
    have e := sm _ _ (da.at_ i l z hl hz)
    refine ⟨rfl, _, rfl, l, _, rfl, .inl (SqL.of e), ?_⟩
    rw [List.length_map]
    exact q2 _ (Same.refl _)
  · have fl := pm.length_eq
    refine ⟨L, ps.map fun q => (q.length : Int), rfl, by rw [List.map_map]; exact SqL.of eL, by rw [List.length_map, lp]; exact p0, fun m hm hmax => ?_⟩
    obtain ⟨q0, hq0, rfl⟩ := List.mem_map.mp hm
    have le : ∀ z ∈ ps, z.length ≤ q0.length := fun z hz => by
      have := hmax _ (List.mem_map.mpr ⟨z, hz, rfl⟩)
      omega
    refine q G2 q0.length (s1.trans sm) (upDiv_le p0 ?_) ?_ fun hall => ?_
    · have := flat_le le
      rw [lp, fl] at this
      exact this
    · have := mem_len hq0
      rw [fl] at this
      exact this
    · have ev := all hall
      have l0 : 0 < ps.length := by rw [lp]; exact p0
      have e0 := ev 0 _ (List.getElem?_eq_getElem l0)
      have le0 := le _ (List.getElem_mem l0)
      obtain ⟨j, hj⟩ := List.mem_iff_getElem?.mp hq0
      have ej := ev j q0 hj
      rw [e0] at le0
      rw [ej] at le0 ⊢
      unfold evenN at le0 ⊢
      unfold upDiv
      by_cases c : j < rows.length % p
      · rw [if_pos c, if_pos (by omega)]
      · rw [if_neg c] at le0 ⊢
        by_cases d : 0 < rows.length % p
        · rw [if_pos d] at le0
          omega
        · rw [if_neg d]
end
end Kx

set_option maxHeartbeats 2000000
/-! Z3: zip of three tuples, told in L2. -/
namespace Zm
open PySem PySem.Spec PyProof.Rows L2
def It3 (K : PySem.W.Frag) (a b c : Addr) : It :=
  ⟨fun i H => ∃ (xs ys zs : List V) (x y z : V), SqT K H a xs ∧ SqT K H b ys ∧ SqT K H c zs ∧ xs[i]? = some x ∧ ys[i]? = some y ∧ zs[i]? = some z,
    fun i H v H' => ∃ T x y z, v = .ref T ∧ H T = none ∧ H' = upd H T (.tup [x, y, z]) ∧ (∀ xs, SqT K H a xs → xs[i]? = some x) ∧ (∀ ys, SqT K H b ys → ys[i]? = some y) ∧ ∀ zs, SqT K H c zs → zs[i]? = some z,
    fun i H => ∃ xs ys zs : List V, SqT K H a xs ∧ SqT K H b ys ∧ SqT K H c zs ∧ i ≤ xs.length ∧ i ≤ ys.length ∧ i ≤ zs.length ∧ (i = xs.length ∨ i = ys.length ∨ i = zs.length)⟩
structure Far3 (n : Addr) (a b c : Addr) : Prop where
  a : a < n
  b : b < n
  c : c < n
theorem Far3.sep {n a b c : Addr} (F : Far3 n a b c) : ZipSep3 (n + 5) (n + 3) (n + 4) n (n + 1) (n + 2) [n, a] [n + 1, b] [n + 2, c] := by
  have h1 : (a : Nat) < n := F.a
  have h2 : (b : Nat) < n := F.b
  have h3 : (c : Nat) < n := F.c
  have s (k m : Nat) (h : k < m) : ((n + k : Nat) : Nat) < (n + m : Nat) := Nat.add_lt_add_left h n
  have u (k : Nat) (h : 0 < k) : (n : Nat) < (n + k : Nat) := Nat.lt_add_of_pos_right h
  exact { TIz := ne_lt (s 3 5 (by decide)), TOz := ne_lt (s 4 5 (by decide)), TITO := ne_lt (s 3 4 (by decide)), TIi1 := ne_gt (u 3 (by decide)), mem1 := List.mem_cons_self
          zf1 := notin (ne_gt (u 5 (by decide))) (ne_gt (Nat.lt_trans h1 (u 5 (by decide)))), Tf1 := notin (ne_gt (u 4 (by decide))) (ne_gt (Nat.lt_trans h1 (u 4 (by decide))))
          TIi2 := ne_gt (s 1 3 (by decide)), mem2 := List.mem_cons_self, zf2 := notin (ne_gt (s 1 5 (by decide))) (ne_gt (Nat.lt_trans h2 (u 5 (by decide))))
          Tf2 := notin (ne_gt (s 1 4 (by decide))) (ne_gt (Nat.lt_trans h2 (u 4 (by decide))))
          TIi3 := ne_gt (s 2 3 (by decide)), mem3 := List.mem_cons_self, zf3 := notin (ne_gt (s 2 5 (by decide))) (ne_gt (Nat.lt_trans h3 (u 5 (by decide))))
          Tf3 := notin (ne_gt (s 2 4 (by decide))) (ne_gt (Nat.lt_trans h3 (u 4 (by decide))))
          sep1_2 := notin (ne_lt (u 1 (by decide))) (ne_gt h2), sep1_3 := notin (ne_lt (u 2 (by decide))) (ne_gt h3)
          sep2_1 := notin (ne_gt (u 1 (by decide))) (ne_gt (Nat.lt_trans h1 (u 1 (by decide)))), sep2_3 := notin (ne_lt (s 1 2 (by decide))) (ne_gt (Nat.lt_trans h3 (u 1 (by decide))))
          sep3_1 := notin (ne_gt (u 2 (by decide))) (ne_gt (Nat.lt_trans h1 (u 2 (by decide)))), sep3_2 := notin (ne_gt (s 1 2 (by decide))) (ne_gt (Nat.lt_trans h2 (u 2 (by decide)))) }
abbrev cells3 (n : Addr) : List Addr := [n + 5, n + 3, n + 4, n, n + 1, n + 2]
theorem turn3 {P : Program} {w : World} {K : PySem.W.Frag} {elts : List Expr} {kk : Nat} {tpos : Pos} {a b c n : Addr} (F : Far3 n a b c) :
    Turn P w K (.Tuple elts kk tpos) (It3 K a b c) (cells3 n) (n + 5) (fun i h => IsZip h (n + 5) (n + 3) (n + 4) .none ∧ IsTupOf3 h (n + 3) (.ref n) (.ref (n + 1)) (.ref (n + 2)) ∧ (∃ x y z, IsTupOf3 h (n + 4) x y z) ∧ h.IsTupleIter n a i ∧ h.IsTupleIter (n + 1) b i ∧ h.IsTupleIter (n + 2) c i) where
  mem := by simp
  obj := fun i h ⟨hz, hT, ⟨x, y, z, hO⟩, ⟨o1, e1, _, d1⟩, ⟨o2, e2, _, d2⟩, ⟨o3, e3, _, d3⟩⟩ q hc => by
    have e' : q = n + 5 ∨ q = n + 3 ∨ q = n + 4 ∨ q = n ∨ q = n + 1 ∨ q = n + 2 := by simpa using hc
    rcases e' with rfl | rfl | rfl | rfl | rfl | rfl
    · exact ⟨_, hz, fun v q => nomatch q⟩
    · exact ⟨_, hT, fun v q => nomatch q⟩
    · exact ⟨_, hO, fun v q => nomatch q⟩
    · exact ⟨_, e1, fun v q => by rw [d1] at q; cases q⟩
    · exact ⟨_, e2, fun v q => by rw [d2] at q; cases q⟩
    · exact ⟨_, e3, fun v q => by rw [d3] at q; cases q⟩
  keep := fun i h h' ⟨hz, hT, ⟨x, y, z, hO⟩, h1, h2, h3⟩ k => ⟨k _ (by simp) _ hz, k _ (by simp) _ hT, ⟨x, y, z, k _ (by simp) _ hO⟩, h1.at fun o q => k _ (by simp) o q, h2.at fun o q => k _ (by simp) o q, h3.at fun o q => k _ (by simp) o q⟩
  item := by
    intro X hP hw hK hc i pins s σ H E I hf ⟨hz, hT, ⟨x0, y0, z0, hO⟩, h1, h2, h3⟩ ⟨xs, ys, zs, x, y, z, hqx, hqy, hqz, hx, hy, hzz⟩
    subst hP hw hK
    obtain ⟨its, rv, p, _⟩ := I.tuple hqx
    obtain ⟨its2, rv2, p2, _⟩ := I.tuple hqy
    obtain ⟨its3, rv3, p3, _⟩ := I.tuple hqz
    obtain ⟨u, hu, ru⟩ := rv.get hx
    obtain ⟨u2, hu2, ru2⟩ := rv2.get hy
    obtain ⟨u3, hu3, ru3⟩ := rv3.get hzz
    have hh := I.ok.hd hc
    have S := F.sep
    have fits : ∀ {l : List Value} {v : Value}, l[i]? = some v → i < l.toArray.size := fun h => by
      have := (List.getElem?_eq_some_iff.mp h).1
      simpa using this
    refine wpAny_pyNext_zipD3_item S (Draws.tuple (A := X.A.in1) hh n a (Nat.ne_of_lt F.a) its.toArray) (Draws.tuple (A := X.A.in1) hh (n + 1) b (Nat.ne_of_lt (Nat.lt_succ_of_lt F.b)) its2.toArray) (Draws.tuple (A := X.A.in1) hh (n + 2) c (Nat.ne_of_lt (Nat.lt_succ_of_lt (Nat.lt_succ_of_lt F.c))) its3.toArray) hz hT hO ⟨h1, p⟩ ⟨h2, p2⟩ ⟨h3, p3⟩ (fits hu) (fits hu2) (fits hu3) fun x1 x2 x3 h' tk e1 e2 e3 hz' hO' s1 s2 s3 hN hsz hk => ?_
    obtain rfl : u = x1 := Option.some.inj ((show its.toArray[i]? = some u by simpa using hu).symm.trans e1)
    obtain rfl : u2 = x2 := Option.some.inj ((show its2.toArray[i]? = some u2 by simpa using hu2).symm.trans e2)
    obtain rfl : u3 = x3 := Option.some.inj ((show its3.toArray[i]? = some u3 by simpa using hu3).symm.trans e3)
    have lt : ∀ {c o}, s.heap.get? c = some o → c < s.heap.objs.size := fun e => Heap.lt_size e
    have hzl := lt hz
    refine ⟨_, rfl, wpAny_letOwnedTupleGo_zip (s := { s with heap := h', toks := tk }) hz' fun h'' z'' sb => ?_⟩
    have hT2 : h''.get? s.heap.objs.size = some { cls := .type "tuple", data := .seq #[u, u2, u3] } := (sb.2 _ (Nat.ne_of_gt hzl)).trans hN
    have new : ObjOk X.prog X.w (upd H s.heap.objs.size (.tup [x, y, z])) h'' s.heap.objs.size (.tup [x, y, z]) :=
      ⟨by show 3 ≤ sizeLine; decide, [u, u2, u3], .cons ru (.cons ru2 (.cons ru3 .nil)), ⟨_, hT2, rfl, _, rfl⟩⟩
    have I1 : Inv X pins σ (upd H s.heap.objs.size (.tup [x, y, z])) { s with heap := h'', toks := tk } :=
      I.turnedNew (t' := tk) (ch := cells3 n) (fun c o hb q => (sb.2 c (fun q' => hb (by simp [q']))).trans (hk c o (fun q' => hb (by simp [q'])) (fun q' => hb (by simp [q'])) (fun q' => hb (by simp [q'])) (fun q' => hb (by simp [q'])) (fun q' => hb (by simp [q'])) q)) hf (Nat.le_refl _) new
    refine ⟨.ref s.heap.objs.size, _, I1, rfl, ⟨_, x, y, z, rfl, I.hok.fresh (Nat.le_refl _), rfl, fun l hl => by rw [I.tuple_inj hl hqx]; exact hx, fun l hl => by rw [I.tuple_inj hl hqy]; exact hy, fun l hl => by rw [I.tuple_inj hl hqz]; exact hzz⟩, ⟨z'', ?_, ⟨u, u2, u3, ?_⟩, ?_, ?_, ?_⟩, fun q hcm => ?_⟩
    · exact (sb.2 _ S.TIz).trans (hk _ _ S.TIz S.TITO S.TIi1 S.TIi2 S.TIi3 hT)
    · exact (sb.2 _ S.TOz).trans hO'
    · exact s1.1.at fun o q => (sb.2 _ S.zi1.symm).trans q
    · exact s2.1.at fun o q => (sb.2 _ S.zi2.symm).trans q
    · exact s3.1.at fun o q => (sb.2 _ S.zi3.symm).trans q
    · have hlt : q < s.heap.objs.size := by
        have e' : q = n + 5 ∨ q = n + 3 ∨ q = n + 4 ∨ q = n ∨ q = n + 1 ∨ q = n + 2 := by simpa using hcm
        rcases e' with rfl | rfl | rfl | rfl | rfl | rfl
        · exact hzl
        · exact lt hT
        · exact lt hO
        · obtain ⟨_, e1, _⟩ := h1; exact lt e1
        · obtain ⟨_, e2, _⟩ := h2; exact lt e2
        · obtain ⟨_, e3, _⟩ := h3; exact lt e3
      rw [upd_ne (Nat.ne_of_lt hlt)]
      exact (hf q hcm).1
  done := by
    intro X hP hw hK hc i pins s σ H E I hf ⟨hz, hT, ⟨x0, y0, z0, hO⟩, h1, h2, h3⟩ ⟨xs, ys, zs, hqx, hqy, hqz, le1, le2, le3, hend⟩
    subst hP hw hK
    obtain ⟨its, rv, p, _⟩ := I.tuple hqx
    obtain ⟨its2, rv2, p2, _⟩ := I.tuple hqy
    obtain ⟨its3, rv3, p3, _⟩ := I.tuple hqz
    have hh := I.ok.hd hc
    have S := F.sep
    have q1 : its.toArray.size = xs.length := by rw [List.size_toArray, ← rv.length]
    have q2 : its2.toArray.size = ys.length := by rw [List.size_toArray, ← rv2.length]
    have q3 : its3.toArray.size = zs.length := by rw [List.size_toArray, ← rv3.length]
    refine wpAny_pyNext_zipD3_end S (Draws.tuple (A := X.A.in1) hh n a (Nat.ne_of_lt F.a) its.toArray) (Draws.tuple (A := X.A.in1) hh (n + 1) b (Nat.ne_of_lt (Nat.lt_succ_of_lt F.b)) its2.toArray) (Draws.tuple (A := X.A.in1) hh (n + 2) c (Nat.ne_of_lt (Nat.lt_succ_of_lt (Nat.lt_succ_of_lt F.c))) its3.toArray) hz hT hO ⟨h1, p⟩ ⟨h2, p2⟩ ⟨h3, p3⟩ (by rw [q1]; exact le1) (by rw [q2]; exact le2) (by rw [q3]; exact le3) (by rw [q1, q2, q3]; exact hend) fun h' tk hk => ⟨rfl, I.turnedL (t' := tk) (ch := cells3 n) (fun c o hb q =>
      hk c o (fun q' => hb (by simp [q'])) (fun q' => hb (by simp [q'])) (fun q' => hb (by simp [q'])) (fun q' => hb (by simp [q'])) (fun q' => hb (by simp [q'])) q) hf⟩
  self := fun A i s Q E st h => wpAny_pyIter_zip st.1 h
def iZip3 (K : PySem.W.Frag) (ta : TA) : TI := fun σ H R => ta σ H fun vs H1 => ∃ a b c xs ys zs, vs = [.ref a, .ref b, .ref c] ∧ SqT K H1 a xs ∧ SqT K H1 b ys ∧ SqT K H1 c zs ∧ R (It3 K a b c) H1
theorem pi_zip3 {X : Cx} {e e2 e3 : Expr} {ta : TA} {p pos tpos : Pos} {elts : List Expr} {kk : Nat} (hg : Gl X "zip") (hm : X.mg "zip" = none) (ha : PA X [e, e2, e3] ta)
    (hs : starEach [e, e2, e3] X.env = (false, eval e X.env) :: starEach [e2, e3] X.env := by rfl) (hpl : (backTo pos (starEach [e2, e3] X.env)).any (·.1) = false := by rfl) :
    PI X (.Tuple elts kk tpos) (.Call (.Name "zip" p) [e, e2, e3] [] pos) (iZip3 X.K ta) := by
  refine ⟨fun pins s σ H R I h => ?_⟩
  refine Call_ (ld_blt I hg hm PyProof.Rows.boot_zip (PyProof.Rows.callWith_type1 (thn (ha.run pos pins s σ H _ I h) fun us s1 ⟨vs, H1, I1, r1, q1⟩ => ?_) hs hpl))
  obtain ⟨a, b, c, xs, ys, zs, rfl, hqx, hqy, hqz, q⟩ := q1
  cases r1 with
  | cons r rr =>
    cases rr with
    | cons r' rr =>
      cases rr with
      | cons r'' rr =>
        cases rr
        cases r
        cases r'
        cases r''
        obtain ⟨its, rv, p1, _⟩ := I1.tuple hqx
        obtain ⟨its2, rv2, p2, _⟩ := I1.tuple hqy
        obtain ⟨its3, rv3, p3, _⟩ := I1.tuple hqz
        have F : Far3 s1.heap.objs.size a b c := ⟨by obtain ⟨_, e, _⟩ := id p1; exact Heap.lt_size e, by obtain ⟨_, e, _⟩ := id p2; exact Heap.lt_size e, by obtain ⟨_, e, _⟩ := id p3; exact Heap.lt_size e⟩
        refine zip_begins3 (begins_tuple a its.toArray) (begins_tuple b its2.toArray) (begins_tuple c its3.toArray) p1 p2 p3 fun h' hz hT hO h1 h2 h3 hsz hk => wpAny_pyIter_zip hz ?_
        have I2 : Inv X pins σ H1 { s1 with heap := h' } := I1.kept (t' := s1.toks) hk
        refine ⟨s1.heap.objs.size + 5, cells3 s1.heap.objs.size, _, _, H1, rfl, I2, turn3 F, ⟨hz, hT, ⟨_, _, _, hO⟩, ⟨_, h1, rfl, rfl⟩, ⟨_, h2, rfl, rfl⟩, ⟨_, h3, rfl, rfl⟩⟩, fun d hcm => ?_, q⟩
        have hle : s1.heap.objs.size ≤ d := by
          have e' : d = s1.heap.objs.size + 5 ∨ d = s1.heap.objs.size + 3 ∨ d = s1.heap.objs.size + 4 ∨ d = s1.heap.objs.size ∨ d = s1.heap.objs.size + 1 ∨ d = s1.heap.objs.size + 2 := by simpa using hcm
          rcases e' with z | z | z | z | z | z <;> rw [z]
          · exact Nat.le_add_right _ _
          · exact Nat.le_add_right _ _
          · exact Nat.le_add_right _ _
          · exact Nat.le_refl _
          · exact Nat.le_add_right _ _
          · exact Nat.le_add_right _ _
        exact I1.fpOk hle (I1.hok.fresh hle)
/-- the walk of three tuples of one length -/
theorem walk_zip3 {K : PySem.W.Frag} {a b c : Addr} {xs ys zs : List V} (h1 : ys.length = xs.length) (h2 : zs.length = xs.length) :
    Walk (It3 K a b c) xs.length (fun H => SqT K H a xs ∧ SqT K H b ys ∧ SqT K H c zs) (fun i H v H' => ∃ T x y z, v = .ref T ∧ H T = none ∧ H' = upd H T (.tup [x, y, z]) ∧ xs[i]? = some x ∧ ys[i]? = some y ∧ zs[i]? = some z) where
  goes := fun i H hi q => ⟨xs, ys, zs, _, _, _, q.1, q.2.1, q.2.2, List.getElem?_eq_getElem hi, List.getElem?_eq_getElem (h1.symm ▸ hi), List.getElem?_eq_getElem (h2.symm ▸ hi)⟩
  stops := fun H q => ⟨xs, ys, zs, q.1, q.2.1, q.2.2, Nat.le_refl _, Nat.le_of_eq h1.symm, Nat.le_of_eq h2.symm, .inl rfl⟩
  yields := fun i H x H' hi q y => by
    obtain ⟨T, x, y, z, rfl, nT, rfl, f1, f2, f3⟩ := y
    exact ⟨T, x, y, z, rfl, nT, rfl, f1 xs q.1, f2 ys q.2.1, f3 zs q.2.2⟩
end Zm

/-! KN: pairs of a key and states; plainly (k21) -/
namespace Kx
open PySem PySem.Spec PyProof.Rows L2 PySem.W
abbrev s_plainly : Stmt := topS 37
/-- a state as data -/
def stD : Kb.Stt → PyData
  | .n i => .int i
  | .m s c => .tuple [.int s, .int c]
  | .ks l => .tuple (l.map Tz.kD1)
abbrev PrT := Row × List (List L2.Key)
def stsD (fs : List FC) (bs : List (List L2.Key)) : List PyData := List.zipWith (fun m b => stD (Kb.stOf m.1 b)) fs bs
def prD (fs : List FC) (p : PrT) : PyData := .tuple [Tz.kD p.1, .tuple (stsD fs p.2)]
/-- the pair of a key and its states stands at a -/
def PairAt (K : PySem.W.Frag) (H : Hp) (fs : List FC) (a : Addr) (p : PrT) : Prop := ∃ (ka sa : Addr) (sv : List V), SqT K H a [.ref ka, .ref sa] ∧ SqT K H ka (p.1.map kV) ∧ SqT K H sa sv ∧ StsAt K H sv fs p.2
theorem PairAt.same {K : PySem.W.Frag} {H H' : Hp} {fs : List FC} {a : Addr} {p : PrT} (h : PairAt K H fs a p) (s : Same H H') : PairAt K H' fs a p :=
  let ⟨ka, sa, sv, h1, h2, h3, h4⟩ := h
  ⟨ka, sa, sv, seqT_same s h1, seqT_same s h2, seqT_same s h3, h4.same s⟩
/-- what is known of a pair -/
structure PrOk (bs : List Bool) (fs : List FC) (p : PrT) : Prop where
  form : Tz.Form bs p.1
  len : p.2.length = fs.length
  kind : ∀ (i : Nat) m b, fs[i]? = some m → p.2[i]? = some b → ∀ z ∈ b, KindIs m.2.2.1 z
theorem dpAll_k {K : PySem.W.Frag} {H : Hp} : ∀ k : List L2.Key, DpAll K H (k.map kV) (k.map Tz.kD1)
  | [] => .nil
  | .inl i :: k => .cons (.int i) (dpAll_k k)
  | .inr x :: k => .cons (.str x) (dpAll_k k)
theorem st_dp {K : PySem.W.Frag} {H : Hp} : ∀ {v : V} {t : Kb.Stt}, Kb.StAt K H v t → Dp K H v (stD t)
  | _, .n i, h => by
    cases (show _ = V.int i from h)
    exact .int i
  | _, .m s c, ⟨a, e, q⟩ => by
    cases e
    exact .tup q (.cons (.int s) (.cons (.int c) .nil))
  | _, .ks l, ⟨a, e, q⟩ => by
    cases e
    exact .tup q (dpAll_k l)
theorem sts_dp {K : PySem.W.Frag} {H : Hp} : ∀ {sv : List V} {fs : List FC} {bs : List (List L2.Key)}, StsAt K H sv fs bs → DpAll K H sv (stsD fs bs)
  | [], [], [], _ => .nil
  | v :: sv, m :: fs, b :: bs, h => .cons (st_dp (h.2.2 0 v m b rfl rfl rfl)) (sts_dp ⟨Nat.succ.inj h.1, Nat.succ.inj h.2.1, fun i v m b h1 h2 h3 => h.2.2 (i + 1) v m b h1 h2 h3⟩)
  | [], _ :: _, _, h => by cases h.1
  | _ :: _, [], _, h => by cases h.1
  | [], [], _ :: _, h => by cases h.2.1
  | _ :: _, _ :: _, [], h => by cases h.2.1
theorem pair_dp {K : PySem.W.Frag} {H : Hp} {fs : List FC} {a : Addr} {p : PrT} (h : PairAt K H fs a p) : Dp K H (.ref a) (prD fs p) := by
  obtain ⟨ka, sa, sv, h1, h2, h3, h4⟩ := h
  exact .tup h1 (.cons (.tup h2 (dpAll_k _)) (.cons (.tup h3 (sts_dp h4)) .nil))
theorem alike_kinds {k : Bool} : ∀ {a b : List L2.Key}, (∀ z ∈ a, KindIs k z) → (∀ z ∈ b, KindIs k z) → alikeAll (a.map Tz.kD1) (b.map Tz.kD1) = true
  | [], _, _, _ => by simp [alikeAll]
  | _ :: _, [], _, _ => by simp [alikeAll]
  | x :: a, y :: b, h1, h2 => by
    have hx : x.isLeft = k := h1 x List.mem_cons_self
    have hy : y.isLeft = k := h2 y List.mem_cons_self
    have ih := alike_kinds (fun z hz => h1 z (List.mem_cons_of_mem _ hz)) fun z hz => h2 z (List.mem_cons_of_mem _ hz)
    show (alike (Tz.kD1 x) (Tz.kD1 y) && alikeAll (a.map Tz.kD1) (b.map Tz.kD1)) = true
    rw [ih, Bool.and_true]
    cases x <;> cases y <;> first | rfl | (rw [← hx] at hy; cases hy)
theorem alike_st {kind : Str} {k : Bool} {b c : List L2.Key} (hb : ∀ z ∈ b, KindIs k z) (hc : ∀ z ∈ c, KindIs k z) : alike (stD (Kb.stOf kind b)) (stD (Kb.stOf kind c)) = true := by
  unfold Kb.stOf
  split
  · rfl
  · split
    · rfl
    · exact alike_kinds (fun z hz => hb z (Kb.sel_sd_sub hz)) fun z hz => hc z (Kb.sel_sd_sub hz)
theorem alike_sts : ∀ {fs : List FC} {a b : List (List L2.Key)}, (∀ (i : Nat) m c, fs[i]? = some m → a[i]? = some c → ∀ z ∈ c, KindIs m.2.2.1 z) → (∀ (i : Nat) m c, fs[i]? = some m → b[i]? = some c → ∀ z ∈ c, KindIs m.2.2.1 z) → alikeAll (stsD fs a) (stsD fs b) = true
  | [], _, _, _, _ => by simp [stsD, alikeAll]
  | _ :: _, [], _, _, _ => by simp [stsD, alikeAll]
  | _ :: _, _ :: _, [], _, _ => by simp [stsD, alikeAll]
  | m :: fs, a :: as, b :: bs, h1, h2 => by
    show (alike (stD (Kb.stOf m.1 a)) (stD (Kb.stOf m.1 b)) && alikeAll (stsD fs as) (stsD fs bs)) = true
    rw [alike_st (h1 0 m a rfl rfl) (h2 0 m b rfl rfl), Bool.true_and]
    exact alike_sts (fun i m c e1 e2 => h1 (i + 1) m c e1 e2) fun i m c e1 e2 => h2 (i + 1) m c e1 e2
theorem alike_key {bs : List Bool} {a b : Row} (h1 : Tz.Form bs a) (h2 : Tz.Form bs b) : alike (Tz.kD a) (Tz.kD b) = true := Tz.alike_k (h1.trans h2.symm)
theorem alike_pr {bs : List Bool} {fs : List FC} {p q : PrT} (h1 : PrOk bs fs p) (h2 : PrOk bs fs q) : alike (prD fs p) (prD fs q) = true := by
  show (alike (Tz.kD p.1) (Tz.kD q.1) && (alikeAll (stsD fs p.2) (stsD fs q.2) && alikeAll [] [])) = true
  rw [alike_key h1.form h2.form, alike_sts h1.kind h2.kind]
  simp [alikeAll]
theorem lt_self (d : PyData) : dataLt d d = false := by
  have h := Tz.leD_total d d
  unfold Tz.leD at h
  rw [Bool.or_self] at h
  cases e : dataLt d d with
  | false => rfl
  | true => rw [e] at h; cases h
/-- pairs in order have their keys in order -/
theorem le_pr {bs : List Bool} {fs : List FC} {p q : PrT} (h1 : PrOk bs fs p) (h2 : PrOk bs fs q) (h : Tz.leD (prD fs p) (prD fs q) = true) : Tz.leK p.1 q.1 = true := by
  unfold Tz.leK Tz.leD
  cases e : dataLt (Tz.kD q.1) (Tz.kD p.1) with
  | false => rfl
  | true =>
    have al := alike_key h2.form h1.form
    cases ev : PyData.eqv (Tz.kD q.1) (Tz.kD p.1) with
    | true =>
      have t := (toks_eqv _ _ al).1 ev
      have s := lt_self (Tz.kD p.1)
      unfold dataLt at e s
      rw [t, s] at e
      cases e
    | false =>
      unfold Tz.leD at h
      rw [show dataLt (prD fs q) (prD fs p) = true from (by
        unfold prD
        rw [dataLt_tuple, dataLt_all_no al ev]
        exact e)] at h
      cases h
theorem dep_st (t : Kb.Stt) : (stD t).depth ≤ 1 := by
  cases t with
  | n i => exact Nat.zero_le _
  | m s c => exact Nat.le_refl 1
  | ks l => exact Tz.depth_kD l
theorem dep_sts : ∀ (fs : List FC) (bs : List (List L2.Key)), PyData.depthAll (stsD fs bs) ≤ 1
  | [], _ => by simp [stsD, PyData.depthAll]
  | _ :: _, [] => by simp [stsD, PyData.depthAll]
  | m :: fs, b :: bs => by
    show max (PyData.depth (stD (Kb.stOf m.1 b))) (PyData.depthAll (stsD fs bs)) ≤ 1
    exact Nat.max_le.mpr ⟨dep_st _, dep_sts fs bs⟩
theorem dep_pr (fs : List FC) (p : PrT) : (prD fs p).depth ≤ 40 := by
  have h1 := Tz.depth_kD p.1
  have h2 := dep_sts fs p.2
  show max (PyData.depth (Tz.kD p.1)) (max (PyData.depthAll (stsD fs p.2) + 1) 0) + 1 ≤ 40
  omega
section
variable {P : Program} {w : World} {K : PySem.W.Frag} {mg : Str → Option Value} {base : Heap}
def spPlain (K : PySem.W.Frag) : Sp := fun vs H Q _ => ∃ (a : Addr) (L : List (Addr × PrT)) (bs : List Bool) (fs : List FC), vs = [.ref a] ∧ SqL K H a (L.map fun p => V.ref p.1) ∧ (∀ p ∈ L, PairAt K H fs p.1 p.2 ∧ PrOk bs fs p.2) ∧
  ∀ (N : List (Addr × PrT)) (p : Addr) (H' : Hp), N.Perm L → (N.map (·.2.1)).Pairwise (fun a b => Tz.leK a b = true) → Same H H' → H p = none → H' p = some (.lst (N.map fun p => V.ref p.1)) → Q (.ref p) H'
abbrev N_plainly : List Str := ["rows"]
theorem sc_plainly : FnScope N_plainly ["rows"] (defScope s_plainly) := ⟨rfl, rfl, rfl, by decide +kernel, rfl, by decide +kernel, by decide +kernel⟩
theorem ok_plainly {f : Addr} {fd : FuncData} (F : Fun K "plainly" "plainly" s_plainly f fd) (m_sorted : mg "sorted" = none) : FnOk P w K mg base CX0 1 f fd ["rows"] (spPlain K) := by
  refine F.ok sc_plainly (fun vs H Q E h => ?_) (fun cdv A outer s0 H vs Q E hr h => ?_)
  · obtain ⟨a, L, bs, fs, rfl, _⟩ := h
    rfl
  obtain ⟨a, L, bs, fs, rfl, h1, hL, q⟩ := h
  have hu64 : _ + 64 < cLine := hr.units
  refine ⟨_, pss_one (ps_ret (pe_callB (Tz.cr_sortedD hu64) (by rfl) m_sorted boot_sorted (pa_cons (pv 0) pa_nil))), ?_⟩
  let en : Addr × PrT → V × PyData := fun p => (.ref p.1, prD fs p.2)
  have m1 : (L.map en).map (·.1) = L.map fun p => V.ref p.1 := by rw [List.map_map]; rfl
  have md : ∀ d ∈ (L.map en).map (·.2), ∃ x ∈ L, d = prD fs x.2 := fun d hd => by
    obtain ⟨z, hz, rfl⟩ := List.mem_map.mp hd
    obtain ⟨x, hx, rfl⟩ := List.mem_map.mp hz
    exact ⟨x, hx, rfl⟩
  refine ⟨_, rfl, a, L.map en, rfl, by rw [m1]; exact h1, fun p hp => ?_, fun d hd d' hd' => ?_, .inl (.inl fun d hd => ?_), fun p hp => ?_, fun N p pm pw np => ?_⟩
  · obtain ⟨x, hx, rfl⟩ := List.mem_map.mp hp
    exact pair_dp (hL x hx).1
  · obtain ⟨x, hx, rfl⟩ := md d hd
    obtain ⟨y, hy, rfl⟩ := md d' hd'
    exact alike_pr (hL x hx).2 (hL y hy).2
  · obtain ⟨x, hx, rfl⟩ := md d hd
    exact ⟨_, _, rfl⟩
  · obtain ⟨x, hx, rfl⟩ := List.mem_map.mp hp
    exact dep_pr fs x.2
  · obtain ⟨n, pn, rfl⟩ := Tz.unmap pm
    have e : (n.map en).map (·.1) = n.map fun p => V.ref p.1 := by rw [List.map_map]; rfl
    rw [e]
    refine q n p _ pn ?_ (same_upd np) np upd_same
    rw [List.pairwise_map] at pw ⊢
    refine List.Pairwise.imp_of_mem ?_ pw
    intro x y hx hy h
    exact le_pr (hL x (pn.mem_iff.mp hx)).2 (hL y (pn.mem_iff.mp hy)).2 h
end
end Kx

/-! KP: row_states, states_together (k21) -/
namespace Kx
open PySem PySem.Spec PyProof.Rows L2
abbrev s_row_states : Stmt := topS 38
abbrev s_states_together : Stmt := topS 39
theorem PairAt.but {K : PySem.W.Frag} {G G' : Hp} {T : Addr} {fs : List FC} {a : Addr} {p : PrT} (h : PairAt K G fs a p) (b : But T G G') (e : ∃ l, G T = some (.lst l)) : PairAt K G' fs a p :=
  let ⟨ka, sa, sv, h1, h2, h3, h4⟩ := h
  ⟨ka, sa, sv, sqT_but b e h1, sqT_but b e h2, sqT_but b e h3, h4.1, h4.2.1, fun i v m b' a1 a2 a3 => (h4.2.2 i v m b' a1 a2 a3).but b e⟩
def rowPr (cs : List NC) (js : List Nat) (fs : List FC) (r : Row) : PrT := (pickR r js, fs.map fun m => [fvK cs r m])
section
variable {P : Program} {w : World} {K : PySem.W.Frag} {mg : Str → Option Value} {base : Heap}
def spRStates (K : PySem.W.Frag) : Sp := fun vs H Q _ => ∃ (rsa dt kt ft pl : Addr) (cs : List NC) (rows : List (Addr × Row)) (ks : List Str) (js : List Nat) (as : List (Addr × FC)), vs = [.ref rsa, .ref dt, .ref pl] ∧ SqL K H rsa (rows.map fun p => .ref p.1) ∧ RowsAt H cs rows ∧ rows.length < 63 ∧
  SqT K H dt [.ref kt, .ref ft] ∧ SqT K H kt (ks.map V.str) ∧ FldsAt K H ft as ∧ as.length ≤ 3 ∧ (∀ p ∈ as, FOk cs p.2) ∧ PlcAt H pl (cs.map (·.1)) ∧ (cs.map (·.1)).Nodup ∧ PosOf cs ks js ∧ ks.length < 1000 ∧
  ∀ T H' (res : List (Addr × PrT)), Same H H' → H T = none → H' T = some (.lst (res.map fun p => .ref p.1)) → (∀ p ∈ res, PairAt K H' (as.map (·.2)) p.1 p.2) → res.map (·.2) = (rows.map (·.2)).map (rowPr cs js (as.map (·.2))) → Q (.ref T) H'
abbrev N_row_states : List Str := ["rows", "details", "places", "keys", "folds", "ats", "told", "row", "states", "kind", "inner", "_"]
theorem sc_row_states : FnScope N_row_states ["rows", "details", "places"] (defScope s_row_states) := ⟨rfl, rfl, rfl, by decide +kernel, rfl, by decide +kernel, by decide +kernel⟩
theorem ok_rstates {f : Addr} {fd : FuncData} {k kf : Nat} (F : Fun K "row_states" "row_states" s_row_states f fd) (hk : 1 ≤ k) (hkf : kf ≤ k) (m_tuple : mg "tuple" = none) (G_ats : Ready P w K mg base 1 "ats_of" ["names", "places"] (spAts K)) (G_vals : Ready P w K mg base 1 "values_at" ["row", "ats"] (spVals K)) (G_one : Ready P w K mg base 1 "one_state" ["kind", "value"] (Kb.spOne K)) (G_fval : Ready P w K mg base kf "fold_value" ["told", "places", "row"] (spFval 12)) :
    FnOk P w K mg base CX0 (k + 1) f fd ["rows", "details", "places"] (spRStates K) := by
  refine F.ok sc_row_states (fun vs H Q E h => ?_) (fun cdv A outer s0 H vs Q E hr h => ?_)
  · obtain ⟨rsa, dt, kt, ft, pl, cs, rows, ks, js, as, rfl, _⟩ := h
    rfl
  obtain ⟨rsa, dt, kt, ft, pl, cs, rows, ks, js, as, rfl, h1, hR, few, hd, hkt, hfl, l3, hF, hp, hnd, hpos, kfew, q⟩ := h
  have nd := sc_row_states.nd
  have hrk : Room k _ := hr
  have hr1 : Room 1 _ := hrk.mono hk
  have hrf : Room kf _ := hrk.mono hkf
  refine ⟨_, pss_cons (ps_asg (pv 1) (pg_tup rfl (pgs_cons (pg_name (i := 3) nd rfl (.inl rfl)) (pgs_cons (pg_name (i := 4) nd rfl (.inl rfl)) pgs_nil))))
      (pss_cons (ps_set (i := 5) nd rfl (.inl rfl) (pe_fn (G_ats) hr1 (pa_cons (pv 3) (pa_cons (pv 2) pa_nil))))
      (pss_cons (ps_set (i := 6) nd rfl (.inl rfl) (pe_lst pa_nil))
      (pss_cons (ps_for PassesOwn.never rfl (pi_list (pv 0)) (pg_name (i := 7) nd rfl (.inr rfl)) (pss_cons (ps_setLc (i := 8) (own := [("kind", 9), ("inner", 10), ("_", 11)]) (g := (gTup K 3 (gCons (gName 9) (gCons (gName 10) (gCons (gName 11) gNil))))) (tt := tYes) (te := tCall (Kb.spOne K) [] E0 (tCons (tVar 9) (tCons (tCall (spFval 12) [] E0 (tCons (tVar 10) (tCons (tVar 2) (tCons (tVar 7) tNil)))) tNil))) rfl nd rfl rfl (sw_true rfl rfl rfl (by decide +kernel)) (pi_tup (pv 4)) (blkOk_by (N := N_row_states) (sc := defScope s_row_states) (by decide +kernel)) (fun _ _ _ _ _ => pg_tup rfl (pgs_cons (pg_name (i := 9) nd rfl (.inl rfl)) (pgs_cons (pg_name (i := 10) nd rfl (.inl rfl)) (pgs_cons (pg_name (i := 11) nd rfl (.inl rfl)) pgs_nil)))) (fun _ _ _ _ _ => pts_nil) (fun _ _ _ _ _ => (pe_fn (G_one) hr1 (pa_cons (pv 9) (pa_cons (pe_fn (G_fval) hrf (pa_cons (pv 10) (pa_cons (pv 2) (pa_cons (pv 7) pa_nil)))) pa_nil)))))
      (pss_one (ps_expr (pe_bm PySem.F.plainAttrs_list PySem.F.slot_list_append PySem.F.type_list_append mt_append (pv 6) (pa_cons (pe_tup (pa_cons (pe_fn (G_vals) hr1 (pa_cons (pv 7) (pa_cons (pv 5) pa_nil))) (pa_cons (pe_callTy call_tuple_of (by rfl) m_tuple PyProof.Rows.boot_tuple (pa_cons (pv 8) pa_nil)) pa_nil))) pa_nil))))))
      (pss_one (ps_ret (pv 6)))))), ?_⟩
  have lt3 : ∀ {n : Nat}, n ≤ 100 → n < sizeLine := fun h => Nat.lt_of_le_of_lt h (by decide)
  have jl : js.length < 1000 := by rw [← hpos.1]; exact kfew
  refine ⟨_, rfl, dt, _, rfl, hd, rfl, _, _, rfl, _, _, rfl, rfl, ?_⟩
  refine ⟨_, rfl, _, rfl, kt, pl, ks, _, js, rfl, hkt, hp, hpos.1, hpos.2, kfew, fun ja H1 s1 eja => ?_⟩
  refine ⟨Nat.zero_le _, fun T hT => ?_⟩
  have nTH : H T = none := by
    cases e : H T with
    | none => rfl
    | some o => rw [s1 _ _ e] at hT; cases hT
  have s1' := s1.trans (same_upd (o := .lst []) hT)
  refine ⟨_, rfl, rsa, rfl, ⟨_, seqL_same s1' h1⟩, ?_⟩
  refine for_list (K := K) (a := rsa) (xs := rows.map fun p => .ref p.1) (fun i σ G => ∃ y7 y8 y9 y10 y11, ∃ res : List (Addr × PrT), σ = [some (.ref rsa), some (.ref dt), some (.ref pl), some (.ref kt), some (.ref ft), some (.ref ja), some (.ref T), y7, y8, y9, y10, y11] ∧ Same H1 G ∧ G T = some (.lst (res.map fun p => .ref p.1)) ∧ (∀ p ∈ res, PairAt K G (as.map (·.2)) p.1 p.2) ∧ res.map (·.2) = ((rows.map (·.2)).take i).map (rowPr cs js (as.map (·.2))))
    ⟨_, _, _, _, _, [], rfl, same_upd hT, upd_same, fun p h => (by cases h), rfl⟩ (fun i σ G _ ⟨_, _, _, _, _, _, _, sm, _⟩ => seqL_same (s1.trans sm) h1) ?_ ?_
  · rintro i x σ G hx ⟨y7, y8, y9, y10, y11, res, rfl, sm, eT, hres, hk⟩
    rw [List.getElem?_map] at hx
    obtain ⟨pr, hpr, rfl⟩ := Option.map_eq_some_iff.mp hx
    have prm := List.mem_of_getElem? hpr
    have hi : i < rows.length := (List.getElem?_eq_some_iff.mp hpr).1
    have sA := s1.trans sm
    obtain ⟨r1, rT⟩ := hR pr prm
    have hr2 : (rows.map (·.2))[i]? = some pr.2 := by rw [List.getElem?_map, hpr]; rfl
    have tk : (rows.map (·.2)).take (i + 1) = (rows.map (·.2)).take i ++ [pr.2] := by
      rw [List.take_add_one, hr2]
      rfl
    refine ⟨_, rfl, ft, rfl, ⟨_, seqT_same sA hfl.1⟩, fun L hL => ?_⟩
    refine lc_newT (K := K) (Rl := fun j v G => ∀ m, (as.map (·.2))[j]? = some m → Kb.StAt K G v (Kb.stOf m.1 [fvK cs pr.2 m])) (fun j v G G' h s m hm => (h m hm).same s) (seqT_same sA hfl.1) hL (by rw [List.length_map]; exact lt3 (by omega)) (fun j v G l h e l' m hm => (h m hm).but (d := L) (fun c o ne z => by rw [upd_ne ne]; exact z) ⟨_, e⟩) (fun j x G2 Qi hx2 s3 q2 => ?_) fun G2 ws s3 eL lw hws => ?_
    · rw [List.getElem?_map] at hx2
      obtain ⟨z, hz, rfl⟩ := Option.map_eq_some_iff.mp hx2
      have zm := List.mem_of_getElem? hz
      obtain ⟨told, t1, t2⟩ := hfl.2 z zm
      have sB := sA.trans s3
      have fo := hF z zm
      obtain ⟨v1, v2, v3⟩ := fvK_kind rT hnd fo
      refine ⟨z.1, _, rfl, SqT.of (sB _ _ t1), rfl, _, _, rfl, _, _, rfl, _, _, rfl, rfl, rfl, ?_⟩
      refine ⟨_, rfl, _, rfl, _, rfl, _, rfl, told, pl, pr.1, cs, pr.2, z.2.2.1, z.2.2.2.1, rfl, hp.same sB, sB _ _ r1, rT, hnd, ?_, fun e he => ?_, ?_⟩
      · cases e : z.2.2.1 with
        | none => rw [e] at t2; exact t2
        | some y => rw [e] at t2; exact ExAt.keep (fun c ys q => sB _ _ q) t2
      · have f2 := fo.2
        rw [he] at f2
        exact ⟨f2.2.1, by have := f2.2.2.1; omega⟩
      · refine ⟨z.2.1, _, fvK cs pr.2 z.2, rfl, fun nc => ⟨?_, v3⟩, fun v1' G3 s4 st1 => q2 v1' G3 s4 fun m hm => ?_⟩
        · unfold fvK
          cases e : z.2.2.1 with
          | none => exact absurd e (v2 nc)
          | some z => rfl
        · rw [List.getElem?_map, hz] at hm
          cases hm
          exact st1
    · have eT2 := s3 _ _ eT
      have sB := sA.trans s3
      refine ⟨_, rfl, .inl ⟨rfl, _, SqL.of eT2⟩, ?_⟩
      refine ⟨_, rfl, _, rfl, pr.1, ja, pr.2, js, rfl, SqT.of (sB _ _ r1), SqL.of (s3 _ _ (sm _ _ eja)), fun j h => by rw [rT.1]; exact hpos.lt j h, jl, fun t G3 s4 nt et => ?_⟩
      have stw : StsAt K G2 ws (as.map (·.2)) ((as.map (·.2)).map fun m => [fvK cs pr.2 m]) := by
        refine ⟨by rw [lw, List.length_map, List.length_map], by rw [List.length_map], fun j v m b hv hm hb => ?_⟩
        rw [List.getElem?_map, hm] at hb
        cases hb
        exact hws j v hv m hm
      refine ⟨_, rfl, L, _, rfl, .inl ⟨SqL.of (s4 _ _ eL), fun t2 nt2 => ?_⟩⟩
      have s5 := same_upd (o := .tup ws) nt2
      refine ⟨by show 2 ≤ sizeLine; decide, fun p np => ?_⟩
      have s6 := same_upd (o := .tup [.ref t, .ref t2]) np
      have et2 : upd (upd G3 t2 (.tup ws)) p (.tup [.ref t, .ref t2]) t2 = some (.tup ws) := s6 _ _ upd_same
      have et1 := s6 _ _ (s5 _ _ et)
      have ep : upd (upd G3 t2 (.tup ws)) p (.tup [.ref t, .ref t2]) p = some (.tup [.ref t, .ref t2]) := upd_same
      have s36 := (s4.trans s5).trans s6
      have eT6 := s36 _ _ eT2
      have st6 := stw.same s36
      generalize upd (upd G3 t2 (.tup ws)) p (.tup [.ref t, .ref t2]) = G6 at et2 et1 ep s36 eT6 st6
      have hl : res.length = i := by
        have h8 := congrArg List.length hk
        rw [List.length_map, List.length_map, List.length_take, List.length_map] at h8
        omega
      have pn : PairAt K G6 (as.map (·.2)) p (rowPr cs js (as.map (·.2)) pr.2) := ⟨t, t2, ws, SqT.of ep, SqT.of et1, SqT.of et2, st6⟩
      have s16 := (sm.trans s3).trans s36
      have bT : But T G6 (upd G6 T (.lst ((res.map fun p => V.ref p.1) ++ [.ref p]))) := fun a o n e => by rw [upd_ne n]; exact e
      refine ⟨T, _, _, rfl, rfl, eT6, by rw [List.length_map]; exact lt3 (by omega), _, _, _, _, _, res ++ [(p, rowPr cs js (as.map (·.2)) pr.2)], rfl, fun a o e => ?_, by rw [upd_same, List.map_append]; rfl, fun z hz => ?_, ?_⟩
      · rw [upd_ne (ne_of_none e hT)]
        exact s16 _ _ e
      · refine PairAt.but ?_ bT ⟨_, eT6⟩
        rcases List.mem_append.mp hz with hz | hz
        · exact (hres z hz).same (s3.trans s36)
        · rw [List.mem_singleton.mp hz]
          exact pn
      · rw [tk, List.map_append, List.map_append, hk]
        rfl
  · rintro σ G ⟨y7, y8, y9, y10, y11, res, rfl, sm, eT, hres, hk⟩
    rw [List.length_map, ← List.length_map (f := (·.2)) (as := rows), List.take_length] at hk
    exact ⟨_, rfl, q T G res (s1.trans sm) nTH eT hres hk⟩
end
end Kx

/-! KQ: states_together (k21) -/
namespace Kx
open PySem PySem.Spec PyProof.Rows L2
section
variable {K : PySem.W.Frag} {g : TG} {te : TE} {vs : List Nat} {σ : L2.St} {H1 : Hp} {D : Addr} {Qd : Hp → Prop}
/-- [e for x in it], the items new things of which something stays true -/
theorem lc_new_it {J : It} {n : Nat} {GG : Hp → Prop} {Y : Nat → Hp → V → Hp → Prop} (w : Walk J n GG Y) {Rl : Nat → V → Hp → Prop} (keep : ∀ i v G G', Rl i v G → Same G G' → Rl i v G') (hG : ∀ H, Same H1 H → GG H) (nD : H1 D = none) (few : n < sizeLine)
    (nope : ∀ i v G l, Rl i v G → G D = some (.lst l) → ∀ l', Rl i v (upd G D (.lst l')))
    (step : ∀ (i : Nat) x G H' (Qi : V → Hp → Prop), i < n → Same H1 G → Y i G x H' → (∀ v H4, Same G H4 → Rl i v H4 → Qi v H4) → g x (wipe σ vs) H' fun σ2 H2 => wipe σ2 vs = wipe σ vs ∧ te σ2 H2 Qi)
    (hd : ∀ H (ws : List V), Same H1 H → H D = some (.lst ws) → ws.length = n → (∀ (i : Nat) v, ws[i]? = some v → Rl i v H) → Qd H) :
    ∃ W : Nat → Nat → Hp → Prop, (∃ m, W 0 m (upd H1 D (.lst []))) ∧ ∀ i m H, W i m H →
      (J.stop i H ∧ Qd H) ∨ (J.go i H ∧ ∃ Nx : Hp → Prop, (∀ H', Nx H' → ∃ m', m' < m ∧ W (i + 1) m' H') ∧ ∀ x H', J.yld i H x H' → g x (wipe σ vs) H' fun σ2 H2 => wipe σ2 vs = wipe σ vs ∧ tYes σ2 H2 fun b H3 =>
        if b = true then te σ2 H3 fun y H4 => ∃ acc, H4 D = some (.lst acc) ∧ acc.length < sizeLine ∧ Nx (upd H4 D (.lst (acc ++ [y]))) else Nx H3) := by
  refine lc_it w (fun i G => Same H1 G ∧ ∃ ws : List V, G D = some (.lst ws) ∧ ws.length = i ∧ ∀ (j : Nat) v, ws[j]? = some v → Rl j v G) ⟨same_upd nD, [], upd_same, rfl, fun j v e => by cases e⟩ (fun i G _ h => hG G h.1) ?_ ?_
  · rintro i x G H' hi ⟨sm, ws, eD, lw, hr⟩ hy
    refine step i x G H' _ hi sm hy fun v H4 s4 hv => ⟨ws, s4 _ _ eD, by omega, fun b o h => by rw [upd_ne (ne_of_none h nD)]; exact s4 _ _ (sm _ _ h), ws ++ [v], upd_same, by rw [List.length_append, lw]; rfl, fun j u hj => ?_⟩
    refine nope j u H4 ws ?_ (s4 _ _ eD) _
    by_cases c : j < ws.length
    · rw [List.getElem?_append_left c] at hj
      exact keep _ _ _ _ (hr j u hj) s4
    · have := (List.getElem?_eq_some_iff.mp hj).1
      rw [List.length_append, List.length_singleton] at this
      have ej : j = ws.length := by omega
      rw [ej, List.getElem?_concat_length] at hj
      cases hj
      rw [ej, lw]
      exact hv
  · rintro G ⟨sm, ws, eD, lw, hr⟩
    exact hd G ws sm eD lw hr
end
section
variable {P : Program} {w : World} {K : PySem.W.Frag} {mg : Str → Option Value} {base : Heap}
def spSTog (K : PySem.W.Frag) : Sp := fun vs H Q _ => ∃ (ft oa ob : Addr) (as : List (Addr × FC)) (sv1 sv2 : List V) (b1 b2 : List (List L2.Key)), vs = [.ref ft, .ref oa, .ref ob] ∧ FldsAt K H ft as ∧ as.length ≤ 3 ∧ SqT K H oa sv1 ∧ StsAt K H sv1 (as.map (·.2)) b1 ∧ SqT K H ob sv2 ∧ StsAt K H sv2 (as.map (·.2)) b2 ∧
  (∀ (i : Nat) (m : FC) x y, (as.map (·.2))[i]? = some m → b1[i]? = some x → b2[i]? = some y → (∀ z ∈ x ++ y, KindIs m.2.2.1 z) ∧ (x ++ y).length < 64) ∧
  ∀ t H' sv', Same H H' → H' t = some (.tup sv') → StsAt K H' sv' (as.map (·.2)) (List.zipWith (fun x y => x ++ y) b1 b2) → Q (.ref t) H'
abbrev N_states_together : List Str := ["folds", "ones", "others", "fold", "one", "other"]
theorem sc_states_together : FnScope N_states_together ["folds", "ones", "others"] (defScope s_states_together) := ⟨rfl, rfl, rfl, by decide +kernel, rfl, by decide +kernel, by decide +kernel⟩
theorem ok_stog {f : Addr} {fd : FuncData} (F : Fun K "states_together" "states_together" s_states_together f fd) (m_tuple : mg "tuple" = none) (m_zip : mg "zip" = none) (G_put : Ready P w K mg base 2 "put_together" ["kind", "one", "other"] (Kb.spPut K)) :
    FnOk P w K mg base CX0 3 f fd ["folds", "ones", "others"] (spSTog K) := by
  refine F.ok sc_states_together (fun vs H Q E h => ?_) (fun cdv A outer s0 H vs Q E hr h => ?_)
  · obtain ⟨ft, oa, ob, as, sv1, sv2, b1, b2, rfl, _⟩ := h
    rfl
  obtain ⟨ft, oa, ob, as, sv1, sv2, b1, b2, rfl, hfl, l3, h1, t1, h2, t2, hB, q⟩ := h
  have nd := sc_states_together.nd
  have hr2 : Room 2 _ := hr.mono (by decide)
  refine ⟨_, pss_one (ps_ret (pe_callTy call_tuple_of (by rfl) m_tuple PyProof.Rows.boot_tuple (pa_cons (pe_lc (own := [("fold", 3), ("one", 4), ("other", 5)]) (g := (gTup K 3 (gCons (gName 3) (gCons (gName 4) (gCons (gName 5) gNil))))) (tt := tYes) (te := tCall (Kb.spPut K) [] E0 (tCons (tOp (rIxT K) (tVar 3) (tC (.int 0))) (tCons (tVar 4) (tCons (tVar 5) tNil)))) rfl nd (Zm.pi_zip3 rfl m_zip (pa_cons (pv 0) (pa_cons (pv 1) (pa_cons (pv 2) pa_nil)))) (blkOk_by (N := N_states_together) (sc := defScope s_states_together) (by decide +kernel)) (fun _ _ _ _ _ => pg_tup rfl (pgs_cons (pg_name (i := 3) nd rfl (.inl rfl)) (pgs_cons (pg_name (i := 4) nd rfl (.inl rfl)) (pgs_cons (pg_name (i := 5) nd rfl (.inl rfl)) pgs_nil)))) (fun _ _ _ _ _ => pts_nil) (fun _ _ _ _ _ => (pe_fn (G_put) hr2 (pa_cons (pe_ix ix_tup (pv 3) pe_int (fun _ _ => rfl)) (pa_cons (pv 4) (pa_cons (pv 5) pa_nil)))))) pa_nil))), ?_⟩
  have lt3 : ∀ {n : Nat}, n ≤ 100 → n < sizeLine := fun h => Nat.lt_of_le_of_lt h (by decide)
  have l1 : sv1.length = as.length := by rw [t1.1, List.length_map]
  have l2 : sv2.length = as.length := by rw [t2.1, List.length_map]
  have k1 : b1.length = as.length := by rw [t1.2.1, List.length_map]
  have k2 : b2.length = as.length := by rw [t2.2.1, List.length_map]
  refine ⟨_, rfl, _, rfl, _, rfl, ft, oa, ob, _, _, _, rfl, hfl.1, h1, h2, fun L hL => ?_⟩
  have W := Zm.walk_zip3 (K := K) (a := ft) (b := oa) (c := ob) (xs := as.map fun p => V.ref p.1) (ys := sv1) (zs := sv2) (by rw [List.length_map]; exact l1) (by rw [List.length_map]; exact l2)
  refine lc_new_it W (Rl := fun j v G => ∀ m x y, (as.map (·.2))[j]? = some m → b1[j]? = some x → b2[j]? = some y → Kb.StAt K G v (Kb.stOf m.1 (x ++ y))) (fun j v G G' h s m x y e1 e2 e3 => (h m x y e1 e2 e3).same s) (fun H s => ⟨seqT_same s hfl.1, seqT_same s h1, seqT_same s h2⟩) hL (by rw [List.length_map]; exact lt3 (by omega)) (fun j v G l h e l' m x y e1 e2 e3 => (h m x y e1 e2 e3).but (d := L) (fun c o ne z => by rw [upd_ne ne]; exact z) ⟨_, e⟩) (fun j x G H' Qi hj sm hY q2 => ?_) fun G ws sm eL lw hws => ?_
  · obtain ⟨T, x1, x2, x3, rfl, nT, rfl, e1, e2, e3⟩ := hY
    rw [List.getElem?_map] at e1
    obtain ⟨z, hz, rfl⟩ := Option.map_eq_some_iff.mp e1
    have hm : (as.map (·.2))[j]? = some z.2 := by rw [List.getElem?_map, hz]; rfl
    have hj' : j < as.length := (List.getElem?_eq_some_iff.mp hz).1
    have y1 := List.getElem?_eq_getElem (show j < b1.length by omega)
    have y2 := List.getElem?_eq_getElem (show j < b2.length by omega)
    generalize b1[j]'(by omega) = c1 at y1
    generalize b2[j]'(by omega) = c2 at y2
    have sT := same_upd (o := .tup [.ref z.1, x2, x3]) nT
    have sA := sm.trans sT
    obtain ⟨told, f1, f2⟩ := hfl.2 z (List.mem_of_getElem? hz)
    obtain ⟨g1, g2⟩ := hB j z.2 c1 c2 hm y1 y2
    refine ⟨T, _, rfl, SqT.of upd_same, rfl, _, _, rfl, _, _, rfl, _, _, rfl, rfl, rfl, ?_⟩
    refine ⟨_, rfl, z.1, _, 0, _, rfl, rfl, SqT.of (sA _ _ f1), rfl, _, rfl, _, rfl, z.2.1, x2, x3, c1, c2, rfl, (t1.2.2 j x2 z.2 c1 e2 hm y1).same sA, (t2.2.2 j x3 z.2 c2 e3 hm y2).same sA, hom_of (k := z.2.2.2.1) g1, g2, fun v H2 s2 st => ?_⟩
    refine q2 v H2 (sT.trans s2) fun m x y e1 e2 e3 => ?_
    rw [hm] at e1
    rw [y1] at e2
    rw [y2] at e3
    cases e1
    cases e2
    cases e3
    exact st
  · refine ⟨L, _, rfl, .inl ⟨SqL.of eL, fun t ht => ?_⟩⟩
    have s5 := same_upd (o := .tup ws) ht
    refine q t _ ws (sm.trans s5) upd_same ⟨by rw [lw, List.length_map, List.length_map], by rw [List.length_zipWith, k1, k2, List.length_map, Nat.min_self], fun i v m b hv hm hb => ?_⟩
    rw [List.getElem?_zipWith] at hb
    cases e1 : b1[i]? with
    | none => rw [e1] at hb; cases hb
    | some x =>
      cases e2 : b2[i]? with
      | none => rw [e1, e2] at hb; cases hb
      | some y =>
        rw [e1, e2] at hb
        cases hb
        exact (hws i v hv m x y hm e1 e2).same s5
end
end Kx

/-! CV: a local name that holds one of some defs, called (k06's XF, laid apart) -/
namespace Kx
open PySem PySem.Spec PyProof.Rows L2
structure Cal0 (P : Program) (w : World) (K : PySem.W.Frag) (mg : Str → Option Value) (base : Heap) (k : Nat) (f : Addr) (sp : Sp) : Prop where
  ex : ∃ (fd : FuncData) (ps : List Str), FnOk P w K mg base CX0 k f fd ps sp ∧ PySem.W.keepIn K (.ref f) = true ∧ Binds K fd ps []
section
variable {X : Cx}
def tCallV (i : Nat) (fam : List (Addr × Sp)) (t : TA) : TE := fun σ H Q => ∃ p ∈ fam, σ[i]? = some (some (.ref p.1)) ∧ t σ H fun vs H1 => p.2 vs H1 Q E0
theorem pe_cv0 {i j : Nat} {fam : List (Addr × Sp)} {x : Str} {p pos : Pos} {e : Expr} {es : List Expr} {t : TA} (c : ∀ p ∈ fam, ∃ k, k ≤ j ∧ Cal0 X.prog X.w X.K X.mg X.base k p.1 p.2) (hr : Room j X.A) (hN : X.N[i]? = some x) (hv : Vis X.env.scope x) (ha : PA X (e :: es) t)
    (hd : (x == ("__debug__" : Str)) = false := by decide) (hcd : (x == ("__classdict__" : Str)) = false := by decide)
    (he : starEach (e :: es) X.env = (false, eval e X.env) :: starEach es X.env := by rfl) (hpl : (backTo pos (starEach es X.env)).any (·.1) = false := by rfl) :
    PE X (.Call (.Name x p) (e :: es) [] pos) (tCallV i fam t) := by
  constructor
  intro pins s σ H Q I h
  obtain ⟨⟨f, sp⟩, hm, hs, ht⟩ := h
  obtain ⟨k, hk, ⟨fd, ps, F, kp, b⟩⟩ := c _ hm
  refine wpAny_Call_Name_kw (thn ((pe_var (pos := p) hN hv hd hcd).run pins s σ H (fun v H1 => v = .ref f ∧ H1 = H) I ⟨.ref f, hs, rfl, rfl⟩) ?_)
  rintro u s1 ⟨v, H1, I1, r1, rfl, rfl⟩
  cases r1
  refine PySem.W.callWith_K (h₀ := X.base) I.ok.mod.kin kp (thn (ha.run pos pins s1 σ _ _ I1 ht) ?_) he hpl
  rintro us s2 ⟨vs, H2, I2, r, q⟩
  exact ⟨I2.kIn, run_fnS (E := fun _ => E0) F (hr.mono hk) b (fun _ _ _ _ _ _ h => h.elim) I2 r q⟩
end
end Kx

/-! KS: pairs put together, as lists (k21) -/
namespace Kx
open PySem PySem.Spec PyProof.Rows L2
abbrev Bgs := List (List L2.Key)
def zipB (a b : Bgs) : Bgs := List.zipWith (fun x y => x ++ y) a b
def togStep (acc : List PrT) (p : PrT) : List PrT :=
  match acc.getLast? with
  | none => acc ++ [p]
  | some q => if q.1 = p.1 then acc.dropLast ++ [(p.1, zipB q.2 p.2)] else acc ++ [p]
def tog (l : List PrT) : List PrT := l.foldl togStep []
theorem step_nil (p : PrT) : togStep [] p = [p] := rfl
theorem step_snoc (a : List PrT) (q p : PrT) : togStep (a ++ [q]) p = if q.1 = p.1 then a ++ [(p.1, zipB q.2 p.2)] else a ++ [q] ++ [p] := by
  unfold togStep
  rw [List.getLast?_concat, List.dropLast_concat]
theorem tog_snoc (l : List PrT) (p : PrT) : tog (l ++ [p]) = togStep (tog l) p := by
  unfold tog
  rw [List.foldl_append]
  rfl
theorem snoc_or {α : Type} (l : List α) : l = [] ∨ ∃ a q, l = a ++ [q] := by
  by_cases h : l = []
  · exact .inl h
  · exact .inr ⟨l.dropLast, l.getLast h, (List.dropLast_concat_getLast h).symm⟩
/-- bag i of all pairs; of those of a key -/
def catB (L : List PrT) (i : Nat) : List L2.Key := (L.map fun p => p.2.getD i []).flatten
def allB (L : List PrT) (k : Row) (i : Nat) : List L2.Key := catB (L.filter fun p => decide (p.1 = k)) i
theorem catB_app (L M : List PrT) (i : Nat) : catB (L ++ M) i = catB L i ++ catB M i := by
  unfold catB
  rw [List.map_append, List.flatten_append]
theorem catB_one (p : PrT) (i : Nat) : catB [p] i = p.2.getD i [] := by
  show p.2.getD i [] ++ [] = _
  rw [List.append_nil]
theorem allB_app (L M : List PrT) (k : Row) (i : Nat) : allB (L ++ M) k i = allB L k i ++ allB M k i := by
  unfold allB
  rw [List.filter_append, catB_app]
theorem allB_one (p : PrT) (k : Row) (i : Nat) : allB [p] k i = if p.1 = k then p.2.getD i [] else [] := by
  unfold allB
  by_cases h : p.1 = k
  · rw [if_pos h, show ([p].filter fun p => decide (p.1 = k)) = [p] from List.filter_cons_of_pos (p := fun p : PrT => decide (p.1 = k)) (decide_eq_true h)]
    exact catB_one p i
  · rw [if_neg h, show ([p].filter fun p => decide (p.1 = k)) = [] from List.filter_cons_of_neg (p := fun p : PrT => decide (p.1 = k)) (by rw [decide_eq_false h]; decide)]
    rfl
theorem catB_perm {L M : List PrT} (h : L.Perm M) (i : Nat) : (catB L i).Perm (catB M i) := (h.map _).flatten
theorem allB_perm {L M : List PrT} (h : L.Perm M) (k : Row) (i : Nat) : (allB L k i).Perm (allB M k i) := catB_perm (h.filter _) i
theorem zipB_get {a b : Bgs} {n i : Nat} (h1 : a.length = n) (h2 : b.length = n) (hi : i < n) : (zipB a b).getD i [] = a.getD i [] ++ b.getD i [] := by
  unfold zipB
  rw [List.getD_eq_getElem?_getD, List.getD_eq_getElem?_getD, List.getD_eq_getElem?_getD, List.getElem?_zipWith, List.getElem?_eq_getElem (show i < a.length by omega), List.getElem?_eq_getElem (show i < b.length by omega)]
  rfl
theorem zipB_len {a b : Bgs} {n : Nat} (h1 : a.length = n) (h2 : b.length = n) : (zipB a b).length = n := by
  unfold zipB
  rw [List.length_zipWith, h1, h2, Nat.min_self]
section
variable {n : Nat}
theorem step_len {acc : List PrT} {p : PrT} (h : ∀ q ∈ acc, q.2.length = n) (hp : p.2.length = n) : ∀ q ∈ togStep acc p, q.2.length = n := by
  rcases snoc_or acc with rfl | ⟨a, q0, rfl⟩
  · intro q hq
    rw [step_nil] at hq
    rw [List.mem_singleton.mp hq]
    exact hp
  · intro q hq
    rw [step_snoc] at hq
    have hq0 := h q0 (List.mem_append_right _ List.mem_cons_self)
    split at hq
    · rcases List.mem_append.mp hq with hq | hq
      · exact h q (List.mem_append_left _ hq)
      · rw [List.mem_singleton.mp hq]
        exact zipB_len hq0 hp
    · rcases List.mem_append.mp hq with hq | hq
      · exact h q hq
      · rw [List.mem_singleton.mp hq]
        exact hp
theorem step_cat {acc : List PrT} {p : PrT} {i : Nat} (hi : i < n) (h : ∀ q ∈ acc, q.2.length = n) (hp : p.2.length = n) : catB (togStep acc p) i = catB acc i ++ p.2.getD i [] := by
  rcases snoc_or acc with rfl | ⟨a, q0, rfl⟩
  · rw [step_nil, catB_one]
    rfl
  · rw [step_snoc]
    have hq0 := h q0 (List.mem_append_right _ List.mem_cons_self)
    split
    · rw [catB_app, catB_app, catB_one, catB_one, zipB_get hq0 hp hi, List.append_assoc]
    · rw [catB_app, catB_one]
theorem step_all {acc : List PrT} {p : PrT} {k : Row} {i : Nat} (hi : i < n) (h : ∀ q ∈ acc, q.2.length = n) (hp : p.2.length = n) : allB (togStep acc p) k i = allB acc k i ++ allB [p] k i := by
  rcases snoc_or acc with rfl | ⟨a, q0, rfl⟩
  · rw [step_nil]
    rfl
  · rw [step_snoc]
    have hq0 := h q0 (List.mem_append_right _ List.mem_cons_self)
    split
    · rename_i c
      rw [allB_app, allB_app, allB_one, allB_one, allB_one, c]
      by_cases d : p.1 = k
      · rw [if_pos d, if_pos d, if_pos d, zipB_get hq0 hp hi, List.append_assoc]
      · rw [if_neg d, if_neg d, if_neg d, List.append_nil, List.append_nil]
    · rw [allB_app]
theorem tog_len {L : List PrT} (h : ∀ q ∈ L, q.2.length = n) : ∀ q ∈ tog L, q.2.length = n := by
  revert h
  refine snoc_ind (P := fun L => (∀ q ∈ L, q.2.length = n) → ∀ q ∈ tog L, q.2.length = n) (fun _ q hq => by cases hq) (fun l p ih h => ?_) L
  rw [tog_snoc]
  exact step_len (ih fun q hq => h q (List.mem_append_left _ hq)) (h p (List.mem_append_right _ List.mem_cons_self))
theorem tog_cat {L : List PrT} {i : Nat} (hi : i < n) (h : ∀ q ∈ L, q.2.length = n) : catB (tog L) i = catB L i := by
  revert h
  refine snoc_ind (P := fun L => (∀ q ∈ L, q.2.length = n) → catB (tog L) i = catB L i) (fun _ => rfl) (fun l p ih h => ?_) L
  have hl : ∀ q ∈ l, q.2.length = n := fun q hq => h q (List.mem_append_left _ hq)
  rw [tog_snoc, step_cat hi (tog_len hl) (h p (List.mem_append_right _ List.mem_cons_self)), ih hl, catB_app, catB_one]
theorem tog_all {L : List PrT} {k : Row} {i : Nat} (hi : i < n) (h : ∀ q ∈ L, q.2.length = n) : allB (tog L) k i = allB L k i := by
  revert h
  refine snoc_ind (P := fun L => (∀ q ∈ L, q.2.length = n) → allB (tog L) k i = allB L k i) (fun _ => rfl) (fun l p ih h => ?_) L
  have hl : ∀ q ∈ l, q.2.length = n := fun q hq => h q (List.mem_append_left _ hq)
  rw [tog_snoc, step_all hi (tog_len hl) (h p (List.mem_append_right _ List.mem_cons_self)), ih hl, allB_app]
end
theorem step_keys (acc : List PrT) (p : PrT) (k : Row) : k ∈ (togStep acc p).map (·.1) ↔ k ∈ acc.map (·.1) ∨ k = p.1 := by
  rcases snoc_or acc with rfl | ⟨a, q0, rfl⟩
  · rw [step_nil]
    exact ⟨fun h => .inr (List.mem_singleton.mp h), fun h => h.elim (fun z => absurd z List.not_mem_nil) fun z => List.mem_singleton.mpr z⟩
  · rw [step_snoc]
    split
    · rename_i c
      rw [List.map_append, List.map_append, List.mem_append, List.mem_append]
      show k ∈ a.map (·.1) ∨ k ∈ [p.1] ↔ (k ∈ a.map (·.1) ∨ k ∈ [q0.1]) ∨ k = p.1
      rw [c, List.mem_singleton]
      exact ⟨fun h => h.elim (fun z => .inl (.inl z)) .inr, fun h => h.elim id .inr⟩
    · rw [List.map_append, List.mem_append]
      exact ⟨fun h => h.elim .inl fun z => .inr (List.mem_singleton.mp z), fun h => h.elim .inl fun z => .inr (List.mem_singleton.mpr z)⟩
theorem tog_keys (L : List PrT) : ∀ k, k ∈ (tog L).map (·.1) ↔ k ∈ L.map (·.1) := by
  refine snoc_ind (P := fun L => ∀ k, k ∈ (tog L).map (·.1) ↔ k ∈ L.map (·.1)) (fun k => Iff.rfl) (fun l p ih k => ?_) L
  rw [tog_snoc, step_keys, ih, List.map_append, List.mem_append]
  exact ⟨fun h => h.elim .inl fun z => .inr (List.mem_singleton.mpr z), fun h => h.elim .inl fun z => .inr (List.mem_singleton.mp z)⟩
/-- keys in order, none twice -/
def AscP (L : List PrT) : Prop := (L.map (·.1)).Pairwise fun a b => Tz.leK a b = true ∧ a ≠ b
theorem tog_asc (L : List PrT) : ((L.map (·.1)).Pairwise fun a b => Tz.leK a b = true) → AscP (tog L) := by
  refine snoc_ind (P := fun L => ((L.map (·.1)).Pairwise fun a b => Tz.leK a b = true) → AscP (tog L)) (fun _ => .nil) (fun l p ih h => ?_) L
  rw [List.map_append] at h
  obtain ⟨h1, _, h3⟩ := List.pairwise_append.mp h
  have a1 := ih h1
  have le : ∀ k ∈ (tog l).map (·.1), Tz.leK k p.1 = true := fun k hk => h3 k ((tog_keys l k).mp hk) p.1 List.mem_cons_self
  rw [tog_snoc]
  unfold AscP at a1 ⊢
  generalize tog l = acc at a1 le
  rcases snoc_or acc with rfl | ⟨a, q0, rfl⟩
  · rw [step_nil]
    exact List.pairwise_singleton _ _
  · rw [step_snoc]
    rw [List.map_append] at a1 le
    split
    · rename_i c
      rw [List.map_append]
      show (a.map (·.1) ++ [p.1]).Pairwise _
      rw [← c]
      exact a1
    · rename_i c
      rw [List.map_append, List.map_append]
      refine List.pairwise_append.mpr ⟨a1, List.pairwise_singleton _ _, fun k hk z hz => ?_⟩
      rw [List.mem_singleton.mp hz]
      refine ⟨le k hk, fun e => ?_⟩
      rcases List.mem_append.mp hk with hk | hk
      · have s1 := ((List.pairwise_append.mp a1).2.2 k hk q0.1 List.mem_cons_self).1
        have s2 := le q0.1 (List.mem_append_right _ List.mem_cons_self)
        rw [e] at s1
        exact c (Tz.leK_anti s2 s1)
      · exact c ((List.mem_singleton.mp hk).symm.trans e)
theorem tstep_ok {bs : List Bool} {fs : List FC} {acc : List PrT} {p : PrT} (h : ∀ q ∈ acc, PrOk bs fs q) (hp : PrOk bs fs p) : ∀ q ∈ togStep acc p, PrOk bs fs q := by
  rcases snoc_or acc with rfl | ⟨a, q0, rfl⟩
  · intro q hq
    rw [step_nil] at hq
    rw [List.mem_singleton.mp hq]
    exact hp
  · intro q hq
    rw [step_snoc] at hq
    have hq0 := h q0 (List.mem_append_right _ List.mem_cons_self)
    split at hq
    · rcases List.mem_append.mp hq with hq | hq
      · exact h q (List.mem_append_left _ hq)
      · rw [List.mem_singleton.mp hq]
        refine ⟨hp.form, zipB_len hq0.len hp.len, fun i m b hm hb z hz => ?_⟩
        have hb' : (List.zipWith (fun x y => x ++ y) q0.2 p.2)[i]? = some b := hb
        rw [List.getElem?_zipWith] at hb'
        cases e1 : q0.2[i]? with
        | none => rw [e1] at hb'; cases hb'
        | some x =>
          cases e2 : p.2[i]? with
          | none => rw [e1, e2] at hb'; cases hb'
          | some y =>
            rw [e1, e2] at hb'
            cases hb'
            rcases List.mem_append.mp hz with hz | hz
            · exact hq0.kind i m x hm e1 z hz
            · exact hp.kind i m y hm e2 z hz
    · rcases List.mem_append.mp hq with hq | hq
      · exact h q hq
      · rw [List.mem_singleton.mp hq]
        exact hp
theorem tog_ok {bs : List Bool} {fs : List FC} {L : List PrT} (h : ∀ q ∈ L, PrOk bs fs q) : ∀ q ∈ tog L, PrOk bs fs q := by
  revert h
  refine snoc_ind (P := fun L => (∀ q ∈ L, PrOk bs fs q) → ∀ q ∈ tog L, PrOk bs fs q) (fun _ q hq => by cases hq) (fun l p ih h => ?_) L
  rw [tog_snoc]
  exact tstep_ok (ih fun q hq => h q (List.mem_append_left _ hq)) (h p (List.mem_append_right _ List.mem_cons_self))
end Kx

/-! KT: together (k21) -/
namespace Kx
open PySem PySem.Spec PyProof.Rows L2 PySem.W
abbrev s_together : Stmt := topS 40
/-- texts that a key may hold when keys are compared -/
def LayR (r : Row) : Prop := ∀ z ∈ r, PyData.canLay0 (Tz.kD1 z) = true
theorem lay_all : ∀ {r : Row}, LayR r → PyData.canLayAll0 (r.map Tz.kD1) = true
  | [], _ => by simp [PyData.canLayAll0]
  | z :: r, h => by
    show (PyData.canLay0 (Tz.kD1 z) && PyData.canLayAll0 (r.map Tz.kD1)) = true
    rw [h z List.mem_cons_self, lay_all fun y hy => h y (List.mem_cons_of_mem _ hy)]
    rfl
theorem key_sh {r : Row} (h : LayR r) : SeqAt.shaped (Tz.kD r) = true := by
  have d := Tz.depth_kD r
  show (PyData.canLayAll0 (r.map Tz.kD1) && decide ((Tz.kD r).depth ≤ 64)) = true
  rw [lay_all h, decide_eq_true (show (Tz.kD r).depth ≤ 64 by omega)]
  rfl
theorem key_eqv {bs : List Bool} {a b : Row} (h1 : Tz.Form bs a) (h2 : Tz.Form bs b) : PyData.eqv (Tz.kD a) (Tz.kD b) = true ↔ a = b := by
  have al := alike_key h1 h2
  constructor
  · intro e
    have t := (toks_eqv _ _ al).1 e
    refine Tz.leK_anti ?_ ?_
    · unfold Tz.leK Tz.leD
      have s := lt_self (Tz.kD b)
      unfold dataLt at s ⊢
      rw [t, s]
      rfl
    · unfold Tz.leK Tz.leD
      have s := lt_self (Tz.kD b)
      unfold dataLt at s ⊢
      rw [t, s]
      rfl
  · intro e
    rw [e]
    exact eqv_refl_alike _ (alike_key h2 h2)
theorem catB_le (L M : List PrT) (i : Nat) : (catB L i).length ≤ (catB (L ++ M) i).length := by
  rw [catB_app, List.length_append]
  omega
theorem tog_le (L : List PrT) : (tog L).length ≤ L.length := by
  refine snoc_ind (P := fun L => (tog L).length ≤ L.length) (Nat.le_refl _) (fun l p ih => ?_) L
  rw [tog_snoc, List.length_append]
  have : (togStep (tog l) p).length ≤ (tog l).length + 1 := by
    rcases snoc_or (tog l) with e | ⟨a, q0, e⟩
    · rw [e, step_nil]
      exact Nat.le_refl _
    · rw [e, step_snoc]
      split
      · rw [List.length_append, List.length_append]
        exact Nat.le_succ _
      · rw [List.length_append]
        exact Nat.le_refl _
  exact Nat.le_trans this (Nat.succ_le_succ ih)
theorem StsAt.but {K : PySem.W.Frag} {G G' : Hp} {T : Addr} {sv : List V} {fs : List FC} {bs : Bgs} (h : StsAt K G sv fs bs) (b : But T G G') (e : ∃ l, G T = some (.lst l)) : StsAt K G' sv fs bs :=
  ⟨h.1, h.2.1, fun i v m b' a1 a2 a3 => (h.2.2 i v m b' a1 a2 a3).but b e⟩
theorem getD_is {L : Bgs} {i : Nat} {x : List L2.Key} (h : L[i]? = some x) : L.getD i [] = x := by
  rw [List.getD_eq_getElem?_getD, h]
  rfl
section
variable {P : Program} {w : World} {K : PySem.W.Frag} {mg : Str → Option Value} {base : Heap}
def spTog (K : PySem.W.Frag) (pf : Addr) : Sp := fun vs H Q _ => ∃ (pa ft : Addr) (L : List (Addr × PrT)) (bs : List Bool) (as : List (Addr × FC)), vs = [.ref pa, .ref ft, .ref pf] ∧ SqL K H pa (L.map fun p => V.ref p.1) ∧ (∀ p ∈ L, PairAt K H (as.map (·.2)) p.1 p.2 ∧ PrOk bs (as.map (·.2)) p.2 ∧ LayR p.2.1) ∧
  FldsAt K H ft as ∧ as.length ≤ 3 ∧ L.length < 1000 ∧ (∀ i, (catB (L.map (·.2)) i).length < 64) ∧
  ∀ T H' (res : List (Addr × PrT)) (N : List PrT), Same H H' → H T = none → H' T = some (.lst (res.map fun p => .ref p.1)) → (∀ p ∈ res, PairAt K H' (as.map (·.2)) p.1 p.2) → res.map (·.2) = tog N → N.Perm (L.map (·.2)) → ((N.map (·.1)).Pairwise fun a b => Tz.leK a b = true) → Q (.ref T) H'
abbrev N_together : List Str := ["pairs", "folds", "sorter", "told", "key", "states"]
theorem sc_together : FnScope N_together ["pairs", "folds", "sorter"] (defScope s_together) := ⟨rfl, rfl, rfl, by decide +kernel, rfl, by decide +kernel, by decide +kernel⟩
theorem ok_tog {f : Addr} {fd : FuncData} {pf : Addr} (F : Fun K "together" "together" s_together f fd) (cal : Cal0 P w K mg base 1 pf (spPlain K)) (G_stog : Ready P w K mg base 3 "states_together" ["folds", "ones", "others"] (spSTog K)) :
    FnOk P w K mg base CX0 4 f fd ["pairs", "folds", "sorter"] (spTog K pf) := by
  refine F.ok sc_together (fun vs H Q E h => ?_) (fun cdv A outer s0 H vs Q E hr h => ?_)
  · obtain ⟨pa, ft, L, bs, as, rfl, _⟩ := h
    rfl
  obtain ⟨pa, ft, L, bs, as, rfl, h1, hL, hfl, l3, few, hcat, q⟩ := h
  have nd := sc_together.nd
  have hu64 : _ + 64 < cLine := hr.units
  have hr1 : Room 1 _ := hr.mono (by decide)
  have hr3 : Room 3 _ := hr.mono (by decide)
  refine ⟨_, pss_cons (ps_set (i := 3) nd rfl (.inl rfl) (pe_lst pa_nil))
      (pss_cons (ps_for PassesOwn.never rfl (pi_list (pe_cv0 (i := 2) (j := 1) (fam := [(pf, spPlain K)]) (fun p hp => ⟨1, Nat.le_refl _, by rw [List.mem_singleton.mp hp]; exact cal⟩) hr1 rfl (.inl rfl) (pa_cons (pv 0) pa_nil))) (pg_tup rfl (pgs_cons (pg_name (i := 4) nd rfl (.inl rfl)) (pgs_cons (pg_name (i := 5) nd rfl (.inl rfl)) pgs_nil))) (C8.pss_cut (ps_if (PW.pt (pw_and (pt_truth (pv 3) (by intro _; rfl)) (pw_and1 (pt_cmpR (op_eqD hu64) (pe_ix ix_tup (pe_ix ix_list (pv 3) (pe_un un_neg pe_int) (fun _ _ => rfl)) pe_int (fun _ _ => rfl)) (pv 4) (nomark _))))) (pss_one (ps_set (i := 5) nd rfl (.inl rfl) (pe_fn (G_stog) hr3 (pa_cons (pv 1) (pa_cons (pe_ix ix_tup (pe_bm0 PySem.F.plainAttrs_list PySem.F.slot_list_pop PySem.F.type_list_pop mt_pop (pv 3)) pe_int (fun _ _ => rfl)) (pa_cons (pv 5) pa_nil)))))) (pss_nil))
      (pss_one (ps_expr (pe_bm PySem.F.plainAttrs_list PySem.F.slot_list_append PySem.F.type_list_append mt_append (pv 3) (pa_cons (pe_tup (pa_cons (pv 4) (pa_cons (pv 5) pa_nil))) pa_nil))))))
      (pss_one (ps_ret (pv 3)))), ?_⟩
  have z63 : ∀ {n : Nat}, n ≤ 1000 → n < sizeLine := fun h => Nat.lt_of_le_of_lt h (by decide)
  refine ⟨Nat.zero_le _, fun T hT => ?_⟩
  have s0' := same_upd (o := .lst []) hT
  refine ⟨(pf, spPlain K), List.mem_singleton.mpr rfl, rfl, _, rfl, pa, L, bs, as.map (·.2), rfl, seqL_same s0' h1, fun p hp => ⟨(hL p hp).1.same s0', (hL p hp).2.1⟩, fun N p H1 pn pw s1 np eN => ?_⟩
  have s01 := s0'.trans s1
  have hN : ∀ x ∈ N, PairAt K H1 (as.map (·.2)) x.1 x.2 ∧ PrOk bs (as.map (·.2)) x.2 ∧ LayR x.2.1 := fun x hx => by
    have := hL x (pn.mem_iff.mp hx)
    exact ⟨this.1.same s01, this.2⟩
  have eT1 : H1 T = some (.lst []) := s1 _ _ upd_same
  have pT : p ≠ T := fun e => by rw [e, upd_same] at np; cases np
  have nlen : N.length = L.length := pn.length_eq
  have hcN : ∀ i, (catB (N.map (·.2)) i).length < 64 := fun i => by
    rw [(catB_perm (pn.map (·.2)) i).length_eq]
    exact hcat i
  have okN : ∀ x ∈ N.map (·.2), PrOk bs (as.map (·.2)) x := fun x hx => by
    obtain ⟨y, hy, rfl⟩ := List.mem_map.mp hx
    exact (hN y hy).2.1
  have sqB : ∀ {G : Hp} {a : Addr} {xs : List V}, But T H1 G → SqT K H1 a xs → SqT K G a xs := fun b h => sqT_but b ⟨_, eT1⟩ h
  refine ⟨p, rfl, ⟨_, SqL.of eN⟩, ?_⟩
  refine for_list (K := K) (a := p) (xs := N.map fun p => V.ref p.1) (fun i σ G => ∃ y4 y5, ∃ res : List (Addr × PrT), σ = [some (.ref pa), some (.ref ft), some (.ref pf), some (.ref T), y4, y5] ∧ But T H1 G ∧ G T = some (.lst (res.map fun p => .ref p.1)) ∧ (∀ x ∈ res, PairAt K G (as.map (·.2)) x.1 x.2) ∧ res.map (·.2) = tog ((N.map (·.2)).take i))
    ⟨_, _, [], rfl, fun a o _ e => e, eT1, fun x h => (by cases h), rfl⟩ (fun i σ G _ ⟨_, _, _, _, b, _⟩ => SqL.of (b _ _ pT eN)) ?_ ?_
  · rintro i x σ G hx ⟨y4, y5, res, rfl, bG, eT, hres, hk⟩
    rw [List.getElem?_map] at hx
    obtain ⟨pr, hpr, rfl⟩ := Option.map_eq_some_iff.mp hx
    have prm := List.mem_of_getElem? hpr
    obtain ⟨pA, pO, pL⟩ := hN pr prm
    have pG : PairAt K G (as.map (·.2)) pr.1 pr.2 := pA.but bG ⟨_, eT1⟩
    have hi : i < N.length := (List.getElem?_eq_some_iff.mp hpr).1
    have hr2 : (N.map (·.2))[i]? = some pr.2 := by rw [List.getElem?_map, hpr]; rfl
    have tk : (N.map (·.2)).take (i + 1) = (N.map (·.2)).take i ++ [pr.2] := by
      rw [List.take_add_one, hr2]
      rfl
    have tk2 : N.map (·.2) = ((N.map (·.2)).take i ++ [pr.2]) ++ (N.map (·.2)).drop (i + 1) := by
      rw [← tk, List.take_append_drop]
    have okT : ∀ x ∈ (N.map (·.2)).take i, PrOk bs (as.map (·.2)) x := fun x hx => okN x (List.mem_of_mem_take hx)
    have okR : ∀ x ∈ res.map (·.2), PrOk bs (as.map (·.2)) x := fun x hx => by
      rw [hk] at hx
      exact tog_ok okT x hx
    have rlen : res.length ≤ i := by
      have h8 := congrArg List.length hk
      have h9 := tog_le ((N.map (·.2)).take i)
      rw [List.length_map] at h8
      rw [List.length_take, List.length_map] at h9
      omega
    obtain ⟨ka, sa, sv, g1, g2, g3, g4⟩ := pG
    refine ⟨pr.1, _, rfl, g1, rfl, _, _, rfl, _, _, rfl, rfl, ?_⟩
    refine ⟨fun σ' G2 => ∃ (sa' : Addr) (sv' : List V) (bg : Bgs) (acc : List (Addr × PrT)), σ' = [some (.ref pa), some (.ref ft), some (.ref pf), some (.ref T), some (.ref ka), some (.ref sa')] ∧ But T H1 G2 ∧ G2 T = some (.lst (acc.map fun p => .ref p.1)) ∧ (∀ x ∈ acc, PairAt K G2 (as.map (·.2)) x.1 x.2) ∧ SqT K G2 ka (pr.2.1.map kV) ∧ SqT K G2 sa' sv' ∧ StsAt K G2 sv' (as.map (·.2)) bg ∧ acc.length ≤ i ∧ acc.map (·.2) ++ [(pr.2.1, bg)] = tog ((N.map (·.2)).take (i + 1)), ?_, ?_⟩
    · rcases snoc_or res with rfl | ⟨acc, z, rfl⟩
      · refine ⟨_, rfl, false, .inl ⟨_, SqL.of eT, rfl⟩, ifF' rfl (ifF' rfl ?_)⟩
        refine ⟨sa, sv, pr.2.2, [], rfl, bG, eT, fun x h => (by cases h), g2, g3, g4, Nat.zero_le _, ?_⟩
        rw [tk, tog_snoc, ← hk]
        rfl
      · have hz : ∀ x ∈ acc, PairAt K G (as.map (·.2)) x.1 x.2 := fun x hx => hres x (List.mem_append_left _ hx)
        have okz : PrOk bs (as.map (·.2)) z.2 := okR z.2 (List.mem_map.mpr ⟨z, List.mem_append_right _ List.mem_cons_self, rfl⟩)
        obtain ⟨kz, sz, svz, z1, z2, z3, z4⟩ := hres z (List.mem_append_right _ List.mem_cons_self)
        rw [List.map_append] at eT hk
        refine ⟨_, rfl, true, .inl ⟨_, SqL.of eT, by simp⟩, ifT' rfl ?_⟩
        have layz : LayR z.2.1 := by
          have zk : z.2.1 ∈ (tog ((N.map (·.2)).take i)).map (·.1) := by
            rw [← hk, List.map_append]
            exact List.mem_append_right _ List.mem_cons_self
          obtain ⟨y, hy, ey⟩ := List.mem_map.mp ((tog_keys _ _).mp zk)
          obtain ⟨x, hx, rfl⟩ := List.mem_map.mp (List.mem_of_mem_take hy)
          rw [← ey]
          exact (hN x hx).2.2
        refine ⟨_, rfl, _, rfl, T, _, -1, .ref z.1, rfl, rfl, SqL.of eT, atI_last _ _, z.1, _, 0, _, rfl, rfl, z1, rfl, _, rfl, Tz.kD z.2.1, Tz.kD pr.2.1, .tup z2 (dpAll_k _), .tup g2 (dpAll_k _), key_sh layz, key_sh pL, _, rfl, ?_⟩
        have ev := key_eqv okz.form pO.form
        cases c : PyData.eqv (Tz.kD z.2.1) (Tz.kD pr.2.1) with
        | true =>
          have ke := ev.mp c
          refine ifT' rfl ?_
          have dl : (acc.map (fun p => V.ref p.1) ++ [V.ref z.1]).dropLast = acc.map fun p => V.ref p.1 := List.dropLast_concat
          have bP : But T G (upd G T (.lst (acc.map fun p => V.ref p.1))) := fun a o n e => by rw [upd_ne n]; exact e
          have eP : upd G T (.lst (acc.map fun p => V.ref p.1)) T = some (.lst (acc.map fun p => V.ref p.1)) := upd_same
          have sHP : Same H (upd G T (.lst (acc.map fun p => V.ref p.1))) := fun b o e => bP _ _ (fun z => by rw [z, hT] at e; cases e) (bG _ _ (fun z => by rw [z, hT] at e; cases e) (s01 _ _ e))
          have eT' : G T = some (.lst (acc.map (fun p => V.ref p.1) ++ [V.ref z.1])) := eT
          refine ⟨_, rfl, _, rfl, .inl ⟨rfl, _, SqL.of eT⟩, T, acc.map (fun p => V.ref p.1) ++ [V.ref z.1], .ref z.1, rfl, rfl, eT', by rw [List.length_append, List.length_singleton, Nat.add_sub_cancel]; exact List.getElem?_concat_length, ?_⟩
          rw [dl]
          refine ⟨z.1, _, 1, _, rfl, rfl, sqT_but bP ⟨_, eT⟩ z1, rfl, _, rfl, ft, sz, sa, as, svz, sv, z.2.2, pr.2.2, rfl, hfl.same sHP, l3, sqT_but bP ⟨_, eT⟩ z3, z4.but bP ⟨_, eT⟩, sqT_but bP ⟨_, eT⟩ g3, g4.but bP ⟨_, eT⟩, fun j m x y hm hx hy => ⟨fun a ha => ?_, ?_⟩, fun t G2 sv' s2 et st => ?_⟩
          · rcases List.mem_append.mp ha with ha | ha
            · exact okz.kind j m x hm hx a ha
            · exact pO.kind j m y hm hy a ha
          · have hj : j < (as.map (·.2)).length := (List.getElem?_eq_some_iff.mp hm).1
            have c1 := hcN j
            rw [tk2, catB_app, catB_app, catB_one, getD_is hy, ← tog_cat hj (fun q hq => (okT q hq).len), ← hk] at c1
            have c2 : (catB (acc.map (·.2) ++ [z].map (·.2)) j) = catB (acc.map (·.2)) j ++ x := by
              rw [catB_app]
              show _ ++ catB [z.2] j = _
              rw [catB_one, getD_is hx]
            rw [c2] at c1
            rw [List.length_append] at c1 ⊢
            rw [List.length_append, List.length_append] at c1
            omega
          · refine ⟨t, sv', zipB z.2.2 pr.2.2, acc, rfl, fun b o n e => s2 _ _ (bP _ _ n (bG _ _ n e)), s2 _ _ eP, fun x hx => ((hz x hx).but bP ⟨_, eT⟩).same s2, seqT_same s2 (sqT_but bP ⟨_, eT⟩ g2), SqT.of et, st, ?_, ?_⟩
            · rw [List.length_append, List.length_singleton] at rlen
              omega
            · rw [tk, tog_snoc, ← hk]
              show _ = togStep (acc.map (·.2) ++ [z.2]) pr.2
              rw [step_snoc, if_pos ke]
        | false =>
          have kne : z.2.1 ≠ pr.2.1 := fun e => by
            rw [ev.mpr e] at c
            cases c
          refine ifF' rfl ?_
          refine ⟨sa, sv, pr.2.2, acc ++ [z], rfl, bG, by rw [List.map_append]; exact eT, hres, g2, g3, g4, rlen, ?_⟩
          rw [tk, tog_snoc, ← hk]
          show _ = togStep (acc.map (·.2) ++ [z.2]) pr.2
          rw [step_snoc, if_neg kne, List.map_append]
          rfl
    · rintro σ' G2 ⟨sa', sv', bg, acc, rfl, b2, eT2, hacc, k2, ss2, st2, al, ea⟩
      refine ⟨_, rfl, .inl ⟨rfl, _, SqL.of eT2⟩, _, rfl, _, rfl, by show 2 ≤ sizeLine; decide, fun a na => ?_⟩
      have s3 := same_upd (o := .tup [.ref ka, .ref sa']) na
      have eT3 := s3 _ _ eT2
      have pn3 : PairAt K (upd G2 a (.tup [.ref ka, .ref sa'])) (as.map (·.2)) a (pr.2.1, bg) := ⟨ka, sa', sv', SqT.of upd_same, seqT_same s3 k2, seqT_same s3 ss2, st2.same s3⟩
      have hacc3 : ∀ x ∈ acc, PairAt K (upd G2 a (.tup [.ref ka, .ref sa'])) (as.map (·.2)) x.1 x.2 := fun x hx => (hacc x hx).same s3
      generalize upd G2 a (.tup [.ref ka, .ref sa']) = G3 at s3 eT3 pn3 hacc3
      have bT : But T G3 (upd G3 T (.lst (acc.map (fun p => V.ref p.1) ++ [.ref a]))) := fun c o n e => by rw [upd_ne n]; exact e
      refine ⟨T, _, _, rfl, rfl, eT3, by rw [List.length_map]; exact z63 (by omega), _, _, acc ++ [(a, pr.2.1, bg)], rfl, fun b o n e => bT _ _ n (s3 _ _ (b2 _ _ n e)), by rw [upd_same, List.map_append]; rfl, fun x hx => ?_, ?_⟩
      · refine PairAt.but ?_ bT ⟨_, eT3⟩
        rcases List.mem_append.mp hx with hx | hx
        · exact hacc3 x hx
        · rw [List.mem_singleton.mp hx]
          exact pn3
      · rw [List.map_append]
        exact ea
  · rintro σ G ⟨y4, y5, res, rfl, bG, eT, hres, hk⟩
    rw [List.length_map, ← List.length_map (f := (·.2)) (as := N), List.take_length] at hk
    refine ⟨_, rfl, q T G res (N.map (·.2)) (fun b o e => ?_) hT eT hres hk (pn.map _) (by rw [List.map_map]; exact pw)⟩
    exact bG _ _ (fun z => by rw [z, hT] at e; cases e) (s01 _ _ e)
end
end Kx

/-! KU: rows_told (k21) -/
namespace Kx
open PySem PySem.Spec PyProof.Rows L2 RZ
abbrev s_rows_told : Stmt := topS 41
theorem walk_zTT {K : PySem.W.Frag} {a b : Addr} {xs ys : List V} (hl : ys.length = xs.length) : Walk (ItzT K a b) xs.length (fun H => SqT K H a xs ∧ SqT K H b ys) (YPair (fun i => xs[i]?) (fun i => ys[i]?)) where
  goes := fun i H hi q => ⟨xs, ys, _, _, q.1, q.2, List.getElem?_eq_getElem hi, List.getElem?_eq_getElem (hl.symm ▸ hi)⟩
  stops := fun H q => ⟨xs, ys, q.1, q.2, by omega⟩
  yields := fun i H v H' hi q y => by
    obtain ⟨T, x, y, rfl, nT, rfl, f1, f2⟩ := y
    exact ⟨T, x, y, rfl, nT, rfl, f1 xs q.1, f2 ys q.2⟩
def toldRow (fs : List FC) (p : PrT) : Row := p.1 ++ List.zipWith (fun m b => toldK m.1 b) fs p.2
section
variable {P : Program} {w : World} {K : PySem.W.Frag} {mg : Str → Option Value} {base : Heap}
def spRTold (K : PySem.W.Frag) : Sp := fun vs H Q _ => ∃ (pa ft : Addr) (L : List (Addr × PrT)) (as : List (Addr × FC)), vs = [.ref pa, .ref ft] ∧ SqL K H pa (L.map fun p => V.ref p.1) ∧ (∀ p ∈ L, PairAt K H (as.map (·.2)) p.1 p.2 ∧ p.2.1.length < 1000 ∧ ∀ b ∈ p.2.2, b ≠ [] ∧ b.length < 64) ∧
  FldsAt K H ft as ∧ as.length ≤ 3 ∧ L.length < 1000 ∧
  ∀ T H' (res : List (Addr × Row)), Same H H' → H T = none → H' T = some (.lst (res.map fun p => .ref p.1)) → (∀ p ∈ res, SqT K H' p.1 (p.2.map kV)) → res.map (·.2) = (L.map (·.2)).map (toldRow (as.map (·.2))) → Q (.ref T) H'
abbrev N_rows_told : List Str := ["pairs", "folds", "told", "key", "states", "fold", "state"]
theorem sc_rows_told : FnScope N_rows_told ["pairs", "folds"] (defScope s_rows_told) := ⟨rfl, rfl, rfl, by decide +kernel, rfl, by decide +kernel, by decide +kernel⟩
theorem ok_rtold {f : Addr} {fd : FuncData} (F : Fun K "rows_told" "rows_told" s_rows_told f fd) (m_tuple : mg "tuple" = none) (m_zip : mg "zip" = none) (G_told : Ready P w K mg base 1 "state_told" ["kind", "state"] (Kb.spTold K)) :
    FnOk P w K mg base CX0 2 f fd ["pairs", "folds"] (spRTold K) := by
  refine F.ok sc_rows_told (fun vs H Q E h => ?_) (fun cdv A outer s0 H vs Q E hr h => ?_)
  · obtain ⟨pa, ft, L, as, rfl, _⟩ := h
    rfl
  obtain ⟨pa, ft, L, as, rfl, h1, hL, hfl, l3, few, q⟩ := h
  have nd := sc_rows_told.nd
  have hr1 : Room 1 _ := hr.mono (by decide)
  refine ⟨_, pss_cons (ps_set (i := 2) nd rfl (.inl rfl) (pe_lst pa_nil))
      (pss_cons (ps_for PassesOwn.never rfl (pi_list (pv 0)) (pg_tup rfl (pgs_cons (pg_name (i := 3) nd rfl (.inl rfl)) (pgs_cons (pg_name (i := 4) nd rfl (.inl rfl)) pgs_nil))) (pss_one (ps_expr (pe_bm PySem.F.plainAttrs_list PySem.F.slot_list_append PySem.F.type_list_append mt_append (pv 2) (pa_cons (pe_op op_catA (pv 3) (pe_callTy call_tuple_of (by rfl) m_tuple PyProof.Rows.boot_tuple (pa_cons (pe_lc (own := [("fold", 5), ("state", 6)]) (g := (gTup K 2 (gCons (gName 5) (gCons (gName 6) gNil)))) (tt := tYes) (te := tCall (Kb.spTold K) [] E0 (tCons (tOp (rIxT K) (tVar 5) (tC (.int 0))) (tCons (tVar 6) tNil))) rfl nd (pi_zipA rfl m_zip (pa_cons (pv 1) (pa_cons (pv 4) pa_nil))) (blkOk_by (N := N_rows_told) (sc := defScope s_rows_told) (by decide +kernel)) (fun _ _ _ _ _ => pg_tup rfl (pgs_cons (pg_name (i := 5) nd rfl (.inl rfl)) (pgs_cons (pg_name (i := 6) nd rfl (.inl rfl)) pgs_nil))) (fun _ _ _ _ _ => pts_nil) (fun _ _ _ _ _ => (pe_fn (G_told) hr1 (pa_cons (pe_ix ix_tup (pv 5) pe_int (fun _ _ => rfl)) (pa_cons (pv 6) pa_nil))))) pa_nil))) pa_nil)))))
      (pss_one (ps_ret (pv 2)))), ?_⟩
  have z63 : ∀ {n : Nat}, n ≤ 2000 → n < sizeLine := fun h => Nat.lt_of_le_of_lt h (by decide)
  refine ⟨Nat.zero_le _, fun T hT => ?_⟩
  have s0' := same_upd (o := .lst []) hT
  refine ⟨_, rfl, pa, rfl, ⟨_, seqL_same s0' h1⟩, ?_⟩
  refine for_list (K := K) (a := pa) (xs := L.map fun p => V.ref p.1) (fun i σ G => ∃ y3 y4 y5 y6, ∃ res : List (Addr × Row), σ = [some (.ref pa), some (.ref ft), some (.ref T), y3, y4, y5, y6] ∧ Same H G ∧ G T = some (.lst (res.map fun p => .ref p.1)) ∧ (∀ x ∈ res, SqT K G x.1 (x.2.map kV)) ∧ res.map (·.2) = ((L.map (·.2)).take i).map (toldRow (as.map (·.2))))
    ⟨_, _, _, _, [], rfl, s0', upd_same, fun x h => (by cases h), rfl⟩ (fun i σ G _ ⟨_, _, _, _, _, _, sm, _⟩ => seqL_same sm h1) ?_ ?_
  · rintro i x σ G hx ⟨y3, y4, y5, y6, res, rfl, sm, eT, hres, hk⟩
    rw [List.getElem?_map] at hx
    obtain ⟨pr, hpr, rfl⟩ := Option.map_eq_some_iff.mp hx
    have prm := List.mem_of_getElem? hpr
    obtain ⟨pA, kfew, hb⟩ := hL pr prm
    obtain ⟨ka, sa, sv, g1, g2, g3, g4⟩ := pA.same sm
    have hi : i < L.length := (List.getElem?_eq_some_iff.mp hpr).1
    have hr2 : (L.map (·.2))[i]? = some pr.2 := by rw [List.getElem?_map, hpr]; rfl
    have tk : (L.map (·.2)).take (i + 1) = (L.map (·.2)).take i ++ [pr.2] := by
      rw [List.take_add_one, hr2]
      rfl
    have lsv : sv.length = as.length := by rw [g4.1, List.length_map]
    have lbs : pr.2.2.length = as.length := by rw [g4.2.1, List.length_map]
    refine ⟨pr.1, _, rfl, g1, rfl, _, _, rfl, _, _, rfl, rfl, ?_⟩
    refine ⟨_, rfl, .inl ⟨rfl, _, SqL.of eT⟩, _, rfl, _, rfl, _, rfl, ft, sa, _, _, rfl, .inr ⟨seqT_same sm hfl.1, g3, fun L2 hL2 => ?_⟩⟩
    refine lc_vals_it (walk_zTT (K := K) (a := ft) (b := sa) (xs := as.map fun p => V.ref p.1) (ys := sv) (by rw [List.length_map]; exact lsv)) (ys := (List.zipWith (fun m b => toldK m.1 b) (as.map (·.2)) pr.2.2).map kV) (fun H' s => ⟨seqT_same (sm.trans s) hfl.1, seqT_same s g3⟩) hL2 (by rw [List.length_map, List.length_zipWith, List.length_map, List.length_map, lbs, Nat.min_self]) (by rw [List.length_map]; exact z63 (by omega)) (fun j x y G5 H' Qi hj hy s5 hY q2 => ?_) fun G5 s5 eL5 => ?_
    · obtain ⟨T5, x5, y5', rfl, nT5, rfl, hx5, hy5⟩ := hY
      replace hx5 : (as.map fun p => V.ref p.1)[j]? = some x5 := hx5
      replace hy5 : sv[j]? = some y5' := hy5
      rw [List.getElem?_map] at hx5
      obtain ⟨z, hz, rfl⟩ := Option.map_eq_some_iff.mp hx5
      have hm : (as.map (·.2))[j]? = some z.2 := by rw [List.getElem?_map, hz]; rfl
      have hj' : j < as.length := (List.getElem?_eq_some_iff.mp hz).1
      have hbj := List.getElem?_eq_getElem (show j < pr.2.2.length by omega)
      generalize pr.2.2[j]'(by omega) = b at hbj
      obtain ⟨b1, b2⟩ := hb b (List.mem_of_getElem? hbj)
      rw [List.getElem?_map, List.getElem?_zipWith, hm, hbj] at hy
      cases hy
      have s6 := same_upd (o := .tup [.ref z.1, y5']) nT5
      obtain ⟨told, f1, f2⟩ := hfl.2 z (List.mem_of_getElem? hz)
      have sA := (sm.trans s5).trans s6
      refine ⟨T5, _, rfl, SqT.of upd_same, rfl, _, _, rfl, _, _, rfl, rfl, rfl, ?_⟩
      refine ⟨_, rfl, z.1, _, 0, _, rfl, rfl, SqT.of (sA _ _ f1), rfl, _, rfl, z.2.1, y5', b, rfl, ((g4.2.2 j y5' z.2 b hy5 hm hbj).same s5).same s6, b1, b2, fun H6 s7 => ?_⟩
      rw [told_kV b1]
      exact q2 _ (s6.trans s7)
    · refine ⟨L2, _, rfl, .inl ⟨SqL.of eL5, fun t ht => ?_⟩⟩
      have s6 := s5.trans (same_upd (o := .tup ((List.zipWith (fun m b => toldK m.1 b) (as.map (·.2)) pr.2.2).map kV)) ht)
      have et : upd G5 t (.tup ((List.zipWith (fun m b => toldK m.1 b) (as.map (·.2)) pr.2.2).map kV)) t = some (.tup ((List.zipWith (fun m b => toldK m.1 b) (as.map (·.2)) pr.2.2).map kV)) := upd_same
      generalize upd G5 t (.tup ((List.zipWith (fun m b => toldK m.1 b) (as.map (·.2)) pr.2.2).map kV)) = G6 at s6 et
      refine Kb.cat_any (K := K) (seqT_same s6 g2) (SqT.of et) ?_ fun p G7 s7 ep => ?_
      · rw [List.length_map, List.length_map, List.length_zipWith, List.length_map, lbs, Nat.min_self]
        exact Nat.le_trans (show _ ≤ 1100 by omega) (by decide)
      · have eT7 := s7 _ _ (s6 _ _ eT)
        have hl : res.length = i := by
          have h8 := congrArg List.length hk
          rw [List.length_map, List.length_map, List.length_take, List.length_map] at h8
          omega
        have row : pr.2.1.map kV ++ ((List.zipWith (fun m b => toldK m.1 b) (as.map (·.2)) pr.2.2).map kV) = (toldRow (as.map (·.2)) pr.2).map kV := by
          unfold toldRow
          rw [List.map_append]
        rw [row] at ep
        have s17 := (sm.trans s6).trans s7
        refine ⟨T, _, _, rfl, rfl, eT7, by rw [List.length_map]; exact z63 (by omega), _, _, _, _, res ++ [(p, toldRow (as.map (·.2)) pr.2)], rfl, fun a o e => by rw [upd_ne (ne_of_none e hT)]; exact s17 _ _ e, by rw [upd_same, List.map_append]; rfl, fun z hz => ?_, ?_⟩
        · refine sqT_but (d := T) (fun a o n e => by rw [upd_ne n]; exact e) ⟨_, eT7⟩ ?_
          rcases List.mem_append.mp hz with hz | hz
          · exact seqT_same s7 (seqT_same s6 (hres z hz))
          · rw [List.mem_singleton.mp hz]
            exact ep
        · rw [tk, List.map_append, List.map_append, hk]
          rfl
  · rintro σ G ⟨y3, y4, y5, y6, res, rfl, sm, eT, hres, hk⟩
    rw [List.length_map, ← List.length_map (f := (·.2)) (as := L), List.take_length] at hk
    exact ⟨_, rfl, q T G res sm hT eT hres hk⟩
end
end Kx

/-! KV: what two stages tell is what one tells (k21) -/
namespace Kx
open PySem PySem.Spec PyProof.Rows L2 PySem.W
theorem toldV_perm {kind : Str} {a b : List L2.Key} (h : a.Perm b) : Kb.toldV kind a = Kb.toldV kind b := by
  unfold Kb.toldV
  rw [Kb.amt_perm h, Kb.tot_perm h, h.length_eq, sd_perm fun z => h.mem_iff]
theorem toldK_perm {kind : Str} {a b : List L2.Key} (h : a.Perm b) : toldK kind a = toldK kind b := by
  unfold toldK
  rw [toldV_perm h]
/-- in pairs of different keys the bags of a key are its pair's -/
theorem allB_own {L : List PrT} {i : Nat} : L.Pairwise (fun a b => a.1 ≠ b.1) → ∀ p ∈ L, allB L p.1 i = p.2.getD i [] := by
  induction L with
  | nil => intro _ p hp; cases hp
  | cons q L ih =>
    intro h p hp
    rw [List.pairwise_cons] at h
    have e : allB (q :: L) p.1 i = allB [q] p.1 i ++ allB L p.1 i := allB_app [q] L p.1 i
    rw [e, allB_one]
    rcases List.mem_cons.mp hp with rfl | hp
    · have z : (L.filter fun x => decide (x.1 = p.1)) = [] := List.filter_eq_nil_iff.mpr fun x hx e => h.1 x hx (of_decide_eq_true e).symm
      rw [if_pos rfl]
      unfold allB
      rw [z]
      exact List.append_nil _
    · rw [if_neg (h.1 p hp), ih h.2 p hp]
      rfl
theorem asc_ne {L : List PrT} (h : AscP L) : L.Pairwise (fun a b => a.1 ≠ b.1) := (List.pairwise_map.mp h).imp fun h => h.2
/-- the pairs of rows -/
theorem rows_all (cs : List NC) (js : List Nat) (fs : List FC) (rows : List Row) (k : Row) (i : Nat) (m : FC) (hm : fs[i]? = some m) : allB (rows.map (rowPr cs js fs)) k i = bagOf cs js rows k m := by
  induction rows with
  | nil => rfl
  | cons r rows ih =>
    have e : allB ((r :: rows).map (rowPr cs js fs)) k i = allB [rowPr cs js fs r] k i ++ allB (rows.map (rowPr cs js fs)) k i := allB_app [_] _ k i
    rw [e, ih, allB_one, show (rowPr cs js fs r).1 = pickR r js from rfl]
    unfold bagOf grp
    by_cases c : pickR r js = k
    · rw [if_pos c, List.filter_cons_of_pos (p := fun r => decide (pickR r js = k)) (decide_eq_true c)]
      have g : (rowPr cs js fs r).2.getD i [] = [fvK cs r m] := getD_is (by
        show (fs.map fun m => [fvK cs r m])[i]? = _
        rw [List.getElem?_map, hm]
        rfl)
      rw [g]
      rfl
    · rw [if_neg c, List.filter_cons_of_neg (p := fun r => decide (pickR r js = k)) (by rw [decide_eq_false c]; decide)]
      rfl
theorem rows_cat (cs : List NC) (js : List Nat) (fs : List FC) (rows : List Row) (i : Nat) : (catB (rows.map (rowPr cs js fs)) i).length ≤ rows.length := by
  induction rows with
  | nil => exact Nat.le_refl _
  | cons r rows ih =>
    have e : catB ((r :: rows).map (rowPr cs js fs)) i = catB [rowPr cs js fs r] i ++ catB (rows.map (rowPr cs js fs)) i := catB_app [_] _ i
    rw [e, List.length_append, catB_one]
    have g : ((rowPr cs js fs r).2.getD i []).length ≤ 1 := by
      show ((fs.map fun m => [fvK cs r m]).getD i []).length ≤ 1
      rw [List.getD_eq_getElem?_getD, List.getElem?_map]
      cases fs[i]? with
      | none => exact Nat.zero_le _
      | some m => exact Nat.le_refl _
    show _ ≤ rows.length + 1
    omega
theorem rows_keys (cs : List NC) (js : List Nat) (fs : List FC) (rows : List Row) : (rows.map (rowPr cs js fs)).map (·.1) = rows.map fun r => pickR r js := by
  rw [List.map_map]
  rfl
theorem row_ok {cs : List NC} {js : List Nat} {fs : List FC} {r : Row} (h : RowT cs r) (nd : (cs.map (·.1)).Nodup) (hj : ∀ j ∈ js, j < cs.length) (hF : ∀ m ∈ fs, FOk cs m) : PrOk (keyForm cs js) fs (rowPr cs js fs r) := by
  refine ⟨pick_form h hj, List.length_map .., fun i m b hm hb z hz => ?_⟩
  replace hb : (fs.map fun m => [fvK cs r m])[i]? = some b := hb
  rw [List.getElem?_map, hm] at hb
  cases hb
  rw [List.mem_singleton.mp hz]
  exact (fvK_kind h nd (hF m (List.mem_of_getElem? hm))).1
theorem pick_lay {js : List Nat} {r : Row} (hj : ∀ j ∈ js, j < r.length) (h : LayR r) : LayR (pickR r js) := fun z hz => by
  obtain ⟨j, hj2, rfl⟩ := List.mem_map.mp hz
  have h2 := hj j hj2
  rw [List.getD_eq_getElem?_getD, List.getElem?_eq_getElem h2]
  exact h _ (List.getElem_mem h2)
/-- rows of different keys stand as their keys do -/
theorem lt_app : ∀ {bs : List Bool} {a b : Row} (v u : Row), Tz.Form bs a → Tz.Form bs b → a ≠ b → Tz.leK a b = true → Tz.leK (a ++ v) (b ++ u) = true := by
  intro bs a b v u h1 h2 ne le
  have key : ∀ (a b : Row), a.map (·.isLeft) = b.map (·.isLeft) → a ≠ b → PyProof.Rows.lexLt itemOrd (keyToksAll ((b ++ u).map Tz.kD1)) (keyToksAll ((a ++ v).map Tz.kD1)) = PyProof.Rows.lexLt itemOrd (keyToksAll (b.map Tz.kD1)) (keyToksAll (a.map Tz.kD1)) := by
    intro a
    induction a with
    | nil =>
      intro b h ne
      cases b with
      | nil => exact absurd rfl ne
      | cons y b => cases h
    | cons x a ih =>
      intro b h ne
      cases b with
      | nil => cases h
      | cons y b =>
        rw [List.map_cons, List.map_cons, List.cons.injEq] at h
        have al : alike (Tz.kD1 y) (Tz.kD1 x) = true := by
          have hx := h.1
          cases x <;> cases y <;> first | rfl | cases hx
        cases ev : PyData.eqv (Tz.kD1 y) (Tz.kD1 x) with
        | true =>
          have exy : x = y := by
            have t := (toks_eqv _ _ al).1 ev
            have := Tz.tok_inj (a := [x]) (b := [y]) (by
              show keyToksAll [Tz.kD1 x] = keyToksAll [Tz.kD1 y]
              rw [toks_all_cons, toks_all_cons, t])
            exact (List.cons.inj this).1
          have neT : a ≠ b := fun e => ne (by rw [exy, e])
          show PyProof.Rows.lexLt itemOrd (keyToksAll (Tz.kD1 y :: (b ++ u).map Tz.kD1)) (keyToksAll (Tz.kD1 x :: (a ++ v).map Tz.kD1)) = PyProof.Rows.lexLt itemOrd (keyToksAll (Tz.kD1 y :: b.map Tz.kD1)) (keyToksAll (Tz.kD1 x :: a.map Tz.kD1))
          rw [dataLt_all_yes al ev, dataLt_all_yes al ev]
          exact ih b h.2 neT
        | false =>
          show PyProof.Rows.lexLt itemOrd (keyToksAll (Tz.kD1 y :: (b ++ u).map Tz.kD1)) (keyToksAll (Tz.kD1 x :: (a ++ v).map Tz.kD1)) = PyProof.Rows.lexLt itemOrd (keyToksAll (Tz.kD1 y :: b.map Tz.kD1)) (keyToksAll (Tz.kD1 x :: a.map Tz.kD1))
          rw [dataLt_all_no al ev, dataLt_all_no al ev]
  unfold Tz.leK Tz.leD Tz.kD at le ⊢
  rw [dataLt_tuple] at le ⊢
  rw [key a b (h1.trans h2.symm) ne]
  exact le
/-- two stages tell what one tells -/
theorem two_is_one {cs : List NC} {js : List Nat} {fs : List FC} {rows : List Row} {N : List PrT} (nd : (cs.map (·.1)).Nodup) (hr : ∀ r ∈ rows, RowT cs r) (hj : ∀ j ∈ js, j < cs.length) (hF : ∀ m ∈ fs, FOk cs m)
    (asc : (N.map (·.1)).Pairwise fun a b => Tz.leK a b = true) (len : ∀ q ∈ N, q.2.length = fs.length) (keys : ∀ k, k ∈ N.map (·.1) ↔ k ∈ rows.map fun r => pickR r js)
    (bags : ∀ k i m, fs[i]? = some m → (allB N k i).Perm (bagOf cs js rows k m)) :
    (∀ p ∈ tog N, ∀ (i : Nat) m, fs[i]? = some m → (p.2.getD i []).Perm (bagOf cs js rows p.1 m)) ∧ (tog N).map (toldRow fs) = Tz.sortK (foldS cs js fs rows) := by
  have a1 := tog_asc N asc
  have own : ∀ p ∈ tog N, ∀ (i : Nat) m, fs[i]? = some m → (p.2.getD i []).Perm (bagOf cs js rows p.1 m) := fun p hp i m hm => by
    have hi : i < fs.length := (List.getElem?_eq_some_iff.mp hm).1
    rw [← allB_own (asc_ne a1) p hp, tog_all hi len]
    exact bags p.1 i m hm
  refine ⟨own, ?_⟩
  have kmem : ∀ k, k ∈ (tog N).map (·.1) ↔ k ∈ rows.map fun r => pickR r js := fun k => (tog_keys N k).trans (keys k)
  have same : (tog N).map (toldRow fs) = ((tog N).map (·.1)).map (foldRow cs js fs rows) := by
    rw [List.map_map]
    refine List.map_congr_left fun p hp => ?_
    show p.1 ++ List.zipWith (fun m b => toldK m.1 b) fs p.2 = p.1 ++ fs.map fun m => toldK m.1 (bagOf cs js rows p.1 m)
    congr 1
    have lp := tog_len len p hp
    refine List.ext_getElem? fun i => ?_
    rw [List.getElem?_zipWith, List.getElem?_map]
    cases hm : fs[i]? with
    | none => rfl
    | some m =>
      have hi : i < fs.length := (List.getElem?_eq_some_iff.mp hm).1
      have hb := List.getElem?_eq_getElem (show i < p.2.length by omega)
      have o := own p hp i m hm
      rw [getD_is hb] at o
      rw [hb]
      show some (toldK m.1 _) = some (toldK m.1 _)
      rw [toldK_perm o]
  rw [same]
  have ndk : ((tog N).map (·.1)).Nodup := a1.imp fun h => h.2
  have form : ∀ k ∈ (tog N).map (·.1), Tz.Form (keyForm cs js) k := fun k hk => by
    obtain ⟨r, hr2, rfl⟩ := List.mem_map.mp ((kmem k).mp hk)
    exact pick_form (hr r hr2) hj
  refine Tz.sortK_is ?_ ?_
  · rw [List.pairwise_map]
    refine List.Pairwise.imp_of_mem ?_ a1
    intro a b ha hb h
    exact lt_app _ _ (form a ha) (form b hb) h.2 h.1
  · refine List.Perm.map _ ?_
    refine (List.perm_ext_iff_of_nodup ndk (firsts_nd _)).mpr fun k => ?_
    rw [kmem k]
    exact mem_firsts.symm
end Kx

/-! KW: fold_in_two (k21) -/
namespace Kx
open PySem PySem.Spec PyProof.Rows L2
abbrev s_fold_in_two : Stmt := topS 52
theorem mem_flat {α : Type} {ps : List (List α)} {j : Nat} {q : List α} (h : ps[j]? = some q) {x : α} (hx : x ∈ q) : x ∈ ps.flatten := List.mem_flatten.mpr ⟨q, List.mem_of_getElem? h, hx⟩
section
variable {P : Program} {w : World} {K : PySem.W.Frag} {mg : Str → Option Value} {base : Heap}
def spInTwo (K : PySem.W.Frag) : Sp := fun vs H Q _ => ∃ (rsa dt kt ft nt ha : Addr) (cs : List NC) (rows : List (Addr × Row)) (ks : List Str) (js : List Nat) (as : List (Addr × FC)) (hs : List (Addr × Row)) (p : Nat), vs = [.ref rsa, .ref dt, .ref nt, .ref ha, .int (p : Nat)] ∧ SqL K H rsa (rows.map fun p => .ref p.1) ∧ RowsAt H cs rows ∧ rows.length < 63 ∧ (∀ r ∈ rows, LayR r.2) ∧
  SqT K H dt [.ref kt, .ref ft] ∧ SqT K H kt (ks.map V.str) ∧ FldsAt K H ft as ∧ as.length ≤ 3 ∧ (∀ p ∈ as, FOk cs p.2) ∧ SqT K H nt ((cs.map (·.1)).map V.str) ∧ (cs.map (·.1)).Nodup ∧ cs.length < 1000 ∧ PosOf cs ks js ∧ ks.length < 1000 ∧
  SqL K H ha (hs.map fun q => .ref q.1) ∧ (∀ q ∈ hs, H q.1 = some (.tup (q.2.map kV))) ∧ hs.length < 1000 ∧ 0 < p ∧ p ≤ 100 ∧
  ∀ T G (res : List (Addr × Row)), Same H G → H T = none → G T = some (.lst (res.map fun p => .ref p.1)) → (∀ p ∈ res, SqT K G p.1 (p.2.map kV)) → res.map (·.2) = Tz.sortK (foldS cs js (as.map (·.2)) (rows.map (·.2))) → Q (.ref T) G
abbrev N_fold_in_two : List Str := ["rows", "details", "names", "hot", "pieces", "keys", "folds", "places", "pairs", "piece"]
theorem sc_fold_in_two : FnScope N_fold_in_two ["rows", "details", "names", "hot", "pieces"] (defScope s_fold_in_two) := ⟨rfl, rfl, rfl, by decide +kernel, rfl, by decide +kernel, by decide +kernel⟩
theorem ok_intwo {f : Addr} {fd : FuncData} {pf : Addr} {k kr : Nat} (F : Fun K "fold_in_two" "fold_in_two" s_fold_in_two f fd) (hk : 4 ≤ k) (hkr : kr ≤ k) (m_plainly : mg "plainly" = some (.ref pf)) (G_np : Ready P w K mg base 1 "name_places" ["names"] (spNPlaces K)) (G_d : Ready P w K mg base 3 "dealt_rows" ["rows", "keys", "names", "hot", "pieces"] (spDealt K)) (G_rs : Ready P w K mg base kr "row_states" ["rows", "details", "places"] (spRStates K)) (G_tog : Ready P w K mg base 4 "together" ["pairs", "folds", "sorter"] (spTog K pf)) (G_rt : Ready P w K mg base 2 "rows_told" ["pairs", "folds"] (spRTold K)) :
    FnOk P w K mg base CX0 (k + 1) f fd ["rows", "details", "names", "hot", "pieces"] (spInTwo K) := by
  refine F.ok sc_fold_in_two (fun vs H Q E h => ?_) (fun cdv A outer s0 H vs Q E hr h => ?_)
  · obtain ⟨rsa, dt, kt, ft, nt, ha, cs, rows, ks, js, as, hs, p, rfl, _⟩ := h
    rfl
  obtain ⟨rsa, dt, kt, ft, nt, ha, cs, rows, ks, js, as, hs, p, rfl, h1, hR, few, hlay, hd, hkt, hfl, l3, hF, hnt, hnd, cfew, hpos, kfew, hha, hhs, hfew, p0, p9, q⟩ := h
  have nd := sc_fold_in_two.nd
  have hrk : Room k _ := hr
  have hr1 : Room 1 _ := hrk.mono (by omega)
  have hr2 : Room 2 _ := hrk.mono (by omega)
  have hr3 : Room 3 _ := hrk.mono (by omega)
  have hr4 : Room 4 _ := hrk.mono hk
  have hrr : Room kr _ := hrk.mono hkr
  refine ⟨_, pss_cons (ps_asg (pv 1) (pg_tup rfl (pgs_cons (pg_name (i := 5) nd rfl (.inl rfl)) (pgs_cons (pg_name (i := 6) nd rfl (.inl rfl)) pgs_nil))))
      (pss_cons (ps_set (i := 7) nd rfl (.inl rfl) (pe_fn (G_np) hr1 (pa_cons (pv 2) pa_nil)))
      (pss_cons (ps_set (i := 8) nd rfl (.inl rfl) (pe_lst pa_nil))
      (pss_cons (ps_for PassesOwn.never rfl (pi_list (pe_fn (G_d) hr3 (pa_cons (pv 0) (pa_cons (pv 5) (pa_cons (pv 2) (pa_cons (pv 3) (pa_cons (pv 4) pa_nil))))))) (pg_name (i := 9) nd rfl (.inl rfl)) (pss_one (ps_expr (pe_bm PySem.F.plainAttrs_list PySem.F.slot_list_extend PySem.F.type_list_extend mt_extend (pv 8) (pa_cons (pe_fn (G_tog) hr4 (pa_cons (pe_fn (G_rs) hrr (pa_cons (pv 9) (pa_cons (pv 1) (pa_cons (pv 7) pa_nil)))) (pa_cons (pv 6) (pa_cons (pe_glob (v := .ref pf) rfl m_plainly rfl) pa_nil)))) pa_nil)))))
      (pss_one (ps_ret (pe_fn (G_rt) hr2 (pa_cons (pe_fn (G_tog) hr4 (pa_cons (pv 8) (pa_cons (pv 6) (pa_cons (pe_glob (v := .ref pf) rfl m_plainly rfl) pa_nil)))) (pa_cons (pv 6) pa_nil)))))))), ?_⟩
  have z63 : ∀ {n : Nat}, n ≤ 2000 → n < sizeLine := fun h => Nat.lt_of_le_of_lt h (by decide)
  have rT : ∀ r ∈ rows, RowT cs r.2 := fun r hr => (hR r hr).2
  have hj := hpos.lt
  have jl : js.length < 1000 := by rw [← hpos.1]; exact kfew
  refine ⟨_, rfl, dt, _, rfl, hd, rfl, _, _, rfl, _, _, rfl, rfl, ?_⟩
  refine ⟨_, rfl, nt, cs.map (·.1), rfl, hnt, hnd, by rw [List.length_map]; exact cfew, fun pl H1 s1 e1 => ?_⟩
  refine ⟨Nat.zero_le _, fun T hT => ?_⟩
  have nTH : H T = none := by
    cases e : H T with
    | none => rfl
    | some o => rw [s1 _ _ e] at hT; cases hT
  have s1' := s1.trans (same_upd (o := .lst []) hT)
  have e1' : upd H1 T (.lst []) pl = some (.dK (plcK (cs.map (·.1)))) := same_upd (o := .lst []) hT _ _ e1
  have eT1 : upd H1 T (.lst []) T = some (.lst []) := upd_same
  generalize upd H1 T (.lst []) = H2 at s1' e1' eT1
  refine ⟨_, rfl, _, rfl, _, rfl, _, rfl, _, rfl, rsa, kt, nt, ha, cs, rows, ks, js, hs, p, rfl, seqL_same s1' h1, hR.same s1', few, seqT_same s1' hkt, seqT_same s1' hnt, hnd, cfew, hpos, kfew, seqL_same s1' hha, fun x hx => s1' _ _ (hhs x hx), hfew, p0, p9, fun D G0 ws ps s2 wH da lp pm _ => ?_⟩
  have s02 := s1'.trans s2
  have eT2 := s2 _ _ eT1
  have nTD : D ≠ T := fun e => by
    have := da.lst
    rw [e, eT2] at this
    cases ws with
    | nil =>
      have h8 := da.len
      rw [lp] at h8
      exact absurd h8 (show ¬ 0 = p by omega)
    | cons a ws => cases this
  have fsl : (as.map (·.2)).length = as.length := List.length_map ..
  have hF' : ∀ m ∈ as.map (·.2), FOk cs m := fun m hm => by
    obtain ⟨x, hx, rfl⟩ := List.mem_map.mp hm
    exact hF x hx
  -- what a piece holds
  have inp : ∀ (j : Nat) q0, ps[j]? = some q0 → ∀ r ∈ q0, r ∈ rows := fun j q0 h r hr => pm.mem_iff.mp (mem_flat h hr)
  have wT : ∀ l ∈ ws, l ≠ T := fun l hl e => by
    have := wH l hl
    rw [e, eT1] at this
    cases this
  refine ⟨D, rfl, ⟨_, SqL.of da.lst⟩, ?_⟩
  refine for_list (K := K) (a := D) (xs := ws.map V.ref) (fun i σ G => ∃ y9, ∃ acc : List (Addr × PrT), σ = [some (.ref rsa), some (.ref dt), some (.ref nt), some (.ref ha), some (.int (p : Nat)), some (.ref kt), some (.ref ft), some (.ref pl), some (.ref T), y9] ∧ But T G0 G ∧ G T = some (.lst (acc.map fun p => .ref p.1)) ∧ (∀ x ∈ acc, PairAt K G (as.map (·.2)) x.1 x.2 ∧ PrOk (keyForm cs js) (as.map (·.2)) x.2 ∧ LayR x.2.1) ∧
      acc.length ≤ (ps.take i).flatten.length ∧ (∀ k, k ∈ (acc.map (·.2)).map (·.1) ↔ k ∈ (ps.take i).flatten.map fun r => pickR r.2 js) ∧ (∀ k j, j < as.length → (allB (acc.map (·.2)) k j).Perm (allB (((ps.take i).flatten.map (·.2)).map (rowPr cs js (as.map (·.2)))) k j)) ∧ (∀ j, j < as.length → (catB (acc.map (·.2)) j).Perm (catB (((ps.take i).flatten.map (·.2)).map (rowPr cs js (as.map (·.2)))) j)))
    ⟨_, [], rfl, fun a o _ e => e, eT2, fun x h => (by cases h), Nat.le_refl _, fun k => Iff.rfl, fun k j _ => List.Perm.refl _, fun j _ => List.Perm.refl _⟩ (fun i σ G _ ⟨_, _, _, b, _⟩ => SqL.of (b _ _ nTD da.lst)) ?_ ?_
  · rintro i x σ G hx ⟨y9, acc, rfl, bG, eT, hacc, al, ak, aB, aC⟩
    rw [List.getElem?_map] at hx
    obtain ⟨l, hl, rfl⟩ := Option.map_eq_some_iff.mp hx
    have iw : i < ws.length := (List.getElem?_eq_some_iff.mp hl).1
    have hq := List.getElem?_eq_getElem (show i < ps.length by rw [← da.len]; exact iw)
    generalize ps[i]'(by rw [← da.len]; exact iw) = q0 at hq
    have tk : ps.take (i + 1) = ps.take i ++ [q0] := by
      rw [List.take_add_one, hq]
      rfl
    have fl : (ps.take (i + 1)).flatten = (ps.take i).flatten ++ q0 := by
      rw [tk, List.flatten_append]
      show _ ++ (q0 ++ []) = _
      rw [List.append_nil]
    have flen : (ps.take i).flatten.length + q0.length ≤ rows.length := by
      have h8 := pm.length_eq
      have h9 : ps.flatten = (ps.take (i + 1)).flatten ++ (ps.drop (i + 1)).flatten := by rw [← List.flatten_append, List.take_append_drop]
      rw [h9, fl, List.length_append, List.length_append] at h8
      omega
    have sG : Same H G := fun b o e => bG _ _ (fun z => by rw [z, nTH] at e; cases e) (s02 _ _ e)
    have inq := inp i q0 hq
    have el := bG _ _ (wT l (List.mem_of_getElem? hl)) (da.at_ i l q0 hl hq)
    have epl : G pl = some (.dK (plcK (cs.map (·.1)))) := bG _ _ (fun e => by rw [e, eT1] at e1'; cases e1') (s2 _ _ e1')
    refine ⟨_, rfl, .inl ⟨rfl, _, SqL.of eT⟩, ?_⟩
    refine ⟨_, rfl, _, rfl, _, rfl, l, dt, kt, ft, pl, cs, q0, ks, js, as, rfl, SqL.of el, fun r hr => hR.same sG r (inq r hr), by omega, seqT_same sG hd, seqT_same sG hkt, hfl.same sG, l3, hF, plc_at epl hnd, hnd, hpos, kfew, fun T3 G3 res s3 nT3 eT3 hres hk3 => ?_⟩
    have ok3 : ∀ x ∈ res, PrOk (keyForm cs js) (as.map (·.2)) x.2 ∧ LayR x.2.1 := fun x hx => by
      have hm : x.2 ∈ res.map (·.2) := List.mem_map.mpr ⟨x, hx, rfl⟩
      rw [hk3] at hm
      obtain ⟨r, hr3, e⟩ := List.mem_map.mp hm
      obtain ⟨z, hz, rfl⟩ := List.mem_map.mp hr3
      rw [← e]
      have zr := inq z hz
      exact ⟨row_ok (rT z zr) hnd hj hF', pick_lay (fun j h => by rw [(rT z zr).1]; exact hj j h) (hlay z zr)⟩
    have rl : res.length = q0.length := by
      have h8 := congrArg List.length hk3
      rw [List.length_map, List.length_map, List.length_map] at h8
      exact h8
    have sG3 := sG.trans s3
    refine ⟨_, rfl, T3, ft, res, keyForm cs js, as, rfl, SqL.of eT3, fun x hx => ⟨hres x hx, ok3 x hx⟩, hfl.same sG3, l3, by omega, fun j => ?_, fun T4 G4 res4 N s4 nT4 eT4 hres4 hk4 pN pw => ?_⟩
    · rw [hk3]
      have := rows_cat cs js (as.map (·.2)) (q0.map (·.2)) j
      rw [List.length_map] at this
      omega
    have okN : ∀ x ∈ N, PrOk (keyForm cs js) (as.map (·.2)) x ∧ LayR x.1 := fun x hx => by
      obtain ⟨y, hy, rfl⟩ := List.mem_map.mp (pN.mem_iff.mp hx)
      exact ok3 y hy
    have lenN : ∀ x ∈ N, x.2.length = as.length := fun x hx => by rw [(okN x hx).1.len, fsl]
    have k4 : ∀ k, k ∈ (res4.map (·.2)).map (·.1) ↔ k ∈ q0.map fun r => pickR r.2 js := fun k => by
      rw [hk4, tog_keys]
      rw [(pN.map (·.1)).mem_iff, hk3, rows_keys, List.map_map]
      exact Iff.rfl
    have ok4 : ∀ x ∈ res4, PrOk (keyForm cs js) (as.map (·.2)) x.2 ∧ LayR x.2.1 := fun x hx => by
      have hm : x.2 ∈ res4.map (·.2) := List.mem_map.mpr ⟨x, hx, rfl⟩
      have hm2 := hm
      rw [hk4] at hm
      refine ⟨tog_ok (fun y hy => (okN y hy).1) x.2 hm, ?_⟩
      have hk := (k4 x.2.1).mp (List.mem_map.mpr ⟨x.2, hm2, rfl⟩)
      obtain ⟨r, hr3, e⟩ := List.mem_map.mp hk
      have zr := inq r hr3
      rw [← e]
      exact pick_lay (fun j h => by rw [(rT r zr).1]; exact hj j h) (hlay r zr)
    have l4 : res4.length ≤ q0.length := by
      have h8 := congrArg List.length hk4
      have h9 := tog_le N
      have h7 := pN.length_eq
      rw [List.length_map] at h8 h7
      omega
    have b4 : ∀ k j, j < as.length → (allB (res4.map (·.2)) k j).Perm (allB ((q0.map (·.2)).map (rowPr cs js (as.map (·.2)))) k j) := fun k j hj => by
      rw [hk4, tog_all hj lenN, ← hk3]
      exact allB_perm pN k j
    have c4 : ∀ j, j < as.length → (catB (res4.map (·.2)) j).Perm (catB ((q0.map (·.2)).map (rowPr cs js (as.map (·.2)))) j) := fun j hj => by
      rw [hk4, tog_cat hj lenN, ← hk3]
      exact catB_perm pN j
    have s34 := s3.trans s4
    have eT5 := s34 _ _ eT
    have bT : But T G4 (upd G4 T (.lst (acc.map (fun p => V.ref p.1) ++ res4.map fun p => V.ref p.1))) := fun c o n e => by rw [upd_ne n]; exact e
    refine ⟨T, T4, _, _, rfl, rfl, eT5, eT4, by rw [List.length_map, List.length_map]; exact Nat.le_of_lt (z63 (by omega)), _, acc ++ res4, rfl, fun b o n e => bT _ _ n (s34 _ _ (bG _ _ n e)), by rw [upd_same, List.map_append], fun x hx => ?_, ?_, fun k => ?_, fun k j hj => ?_, fun j hj => ?_⟩
    · rcases List.mem_append.mp hx with hx | hx
      · exact ⟨((hacc x hx).1.same s34).but bT ⟨_, eT5⟩, (hacc x hx).2⟩
      · exact ⟨(hres4 x hx).but bT ⟨_, eT5⟩, ok4 x hx⟩
    · rw [fl, List.length_append, List.length_append]
      omega
    · rw [fl, List.map_append, List.map_append, List.map_append, List.mem_append, List.mem_append, ak k, k4 k]
    · rw [fl, List.map_append, List.map_append, List.map_append, allB_app, allB_app]
      exact (aB k j hj).append (b4 k j hj)
    · rw [fl, List.map_append, List.map_append, List.map_append, catB_app, catB_app]
      exact (aC j hj).append (c4 j hj)
  · rintro σ G ⟨y9, acc, rfl, bG, eT, hacc, al, ak, aB, aC⟩
    have ek : (ps.take (ws.map V.ref).length).flatten = ps.flatten := by rw [List.length_map, da.len, List.take_length]
    rw [ek] at al ak aB aC
    have pr : (ps.flatten.map (·.2)).Perm (rows.map (·.2)) := pm.map _
    have sG : Same H G := fun b o e => bG _ _ (fun z => by rw [z, nTH] at e; cases e) (s02 _ _ e)
    have fl := pm.length_eq
    refine ⟨_, rfl, _, rfl, T, ft, acc, keyForm cs js, as, rfl, SqL.of eT, hacc, hfl.same sG, l3, by omega, fun j => ?_, fun T4 G4 res4 N s4 nT4 eT4 hres4 hk4 pN pw => ?_⟩
    · by_cases hj : j < as.length
      · rw [(aC j hj).length_eq]
        have := rows_cat cs js (as.map (·.2)) (ps.flatten.map (·.2)) j
        rw [List.length_map] at this
        omega
      · have : ∀ b ∈ (acc.map (·.2)).map (fun p => p.2.getD j []), b = [] := fun b hb => by
          obtain ⟨x, hx, rfl⟩ := List.mem_map.mp hb
          obtain ⟨y, hy, rfl⟩ := List.mem_map.mp hx
          have := (hacc y hy).2.1.len
          rw [fsl] at this
          rw [List.getD_eq_getElem?_getD, List.getElem?_eq_none (by omega)]
          rfl
        have z : catB (acc.map (·.2)) j = [] := List.flatten_eq_nil_iff.mpr this
        rw [z]
        decide
    have lenN : ∀ x ∈ N, x.2.length = (as.map (·.2)).length := fun x hx => by
      obtain ⟨y, hy, rfl⟩ := List.mem_map.mp (pN.mem_iff.mp hx)
      exact (hacc y hy).2.1.len
    have keysN : ∀ k, k ∈ N.map (·.1) ↔ k ∈ (rows.map (·.2)).map fun r => pickR r js := fun k => by
      rw [(pN.map (·.1)).mem_iff, ak k, (pm.map fun r => pickR r.2 js).mem_iff, List.map_map]
      exact Iff.rfl
    have bagN : ∀ k i m, (as.map (·.2))[i]? = some m → (allB N k i).Perm (bagOf cs js (rows.map (·.2)) k m) := fun k i m hm => by
      have hi : i < as.length := by
        have := (List.getElem?_eq_some_iff.mp hm).1
        rwa [fsl] at this
      rw [← rows_all cs js (as.map (·.2)) (rows.map (·.2)) k i m hm]
      exact ((allB_perm pN k i).trans (aB k i hi)).trans (allB_perm (pr.map _) k i)
    have rT' : ∀ r ∈ rows.map (·.2), RowT cs r := fun r hr => by
      obtain ⟨z, hz, rfl⟩ := List.mem_map.mp hr
      exact rT z hz
    obtain ⟨own, res9⟩ := two_is_one hnd rT' hj hF' pw lenN keysN bagN
    have sG4 := sG.trans s4
    have l4 : res4.length ≤ acc.length := by
      have h8 := congrArg List.length hk4
      have h9 := tog_le N
      have h7 := pN.length_eq
      rw [List.length_map] at h8 h7
      omega
    refine ⟨_, rfl, T4, ft, res4, as, rfl, SqL.of eT4, fun x hx => ?_, hfl.same sG4, l3, by omega, fun T5 G5 res5 s5 nT5 eT5 hres5 hk5 => ?_⟩
    · have hm : x.2 ∈ tog N := by
        rw [← hk4]
        exact List.mem_map.mpr ⟨x, hx, rfl⟩
      have kin := (keysN x.2.1).mp ((tog_keys N _).mp (List.mem_map.mpr ⟨x.2, hm, rfl⟩))
      refine ⟨hres4 x hx, ?_, fun b hb => ?_⟩
      · obtain ⟨r, _, e⟩ := List.mem_map.mp kin
        rw [← e, pick_len]
        exact jl
      · obtain ⟨i, hi⟩ := List.mem_iff_getElem?.mp hb
        have li := (List.getElem?_eq_some_iff.mp hi).1
        have lx := tog_len lenN x.2 hm
        have hmi := List.getElem?_eq_getElem (show i < (as.map (·.2)).length by omega)
        have o := own x.2 hm i _ hmi
        rw [getD_is hi] at o
        refine ⟨fun e => ?_, ?_⟩
        · rw [e] at o
          exact bag_some kin (List.Perm.nil_eq o).symm
        · rw [o.length_eq]
          exact Nat.lt_of_le_of_lt (Nat.le_trans (bag_len cs js (rows.map (·.2)) x.2.1 _) (Nat.le_of_eq (List.length_map ..))) (by omega)
    · have nT5H : H T5 = none := by
        cases e : H T5 with
        | none => rfl
        | some o => rw [sG4 _ _ e] at nT5; cases nT5
      exact q T5 G5 res5 (sG4.trans s5) nT5H eT5 hres5 (by rw [hk5, hk4, res9])
end
end Kx

set_option maxHeartbeats 8000000
/-! KX: list.count over tuples (k21) -/
namespace Kx
open PySem PySem.Spec PyProof.Rows L2 PySem.W
section
variable {X : Cx}
/-- l.count(t), l a list of tuples of ints and texts, t such a tuple -/
def rCntK (K : PySem.W.Frag) : V → List V → Hp → VK → Prop := fun x xs H Q => ∃ (p b : Addr) (L : List (Addr × Row)) (k : Row), x = .ref p ∧ xs = [.ref b] ∧ SqL K H p (L.map fun q => V.ref q.1) ∧ (∀ q ∈ L, SqT K H q.1 (q.2.map kV)) ∧ SqT K H b (k.map kV) ∧ Q (.int (((L.map (·.2)).countP fun y => PyData.eqv (Tz.kD y) (Tz.kD k) : Nat) : Int)) H
theorem plain_k : ∀ k : Row, PyData.plainAll (k.map Tz.kD1) = true
  | [] => by simp [PyData.plainAll]
  | .inl _ :: k => by
    show (true && PyData.plainAll (k.map Tz.kD1)) = true
    rw [plain_k k]
    rfl
  | .inr _ :: k => by
    show (true && PyData.plainAll (k.map Tz.kD1)) = true
    rw [plain_k k]
    rfl
theorem plain_ks : ∀ l : List Row, PyData.plainAll (l.map Tz.kD) = true
  | [] => by simp [PyData.plainAll]
  | k :: l => by
    show (PyData.plainAll (k.map Tz.kD1) && PyData.plainAll (l.map Tz.kD)) = true
    rw [plain_k k, plain_ks l]
    rfl
theorem dp_rows {K : PySem.W.Frag} {H : Hp} : ∀ {L : List (Addr × Row)}, (∀ q ∈ L, SqT K H q.1 (q.2.map kV)) → DpAll K H (L.map fun q => V.ref q.1) ((L.map (·.2)).map Tz.kD)
  | [], _ => .nil
  | q :: L, h => .cons (.tup (h q List.mem_cons_self) (dpAll_k _)) (dp_rows fun z hz => h z (List.mem_cons_of_mem _ hz))
theorem mt_lcountK (hu : X.A.units + 64 < cLine) : MtR X "list.count" (rCntK X.K) := by
  intro pins s σ H x xs v us Q I rx rxs h
  obtain ⟨p, b, L, k, rfl, rfl, hs, hL, hb, q⟩ := h
  cases rx
  obtain ⟨u, rfl, ru⟩ := rxs.one
  obtain rfl : u = Value.ref b := ru
  obtain ⟨its, rv, hl, _⟩ := I.list hs
  obtain ⟨as, rs⟩ := Dp.readsAll I _ _ _ (dp_rows hL) rv
  obtain ⟨bs, rk⟩ := Dp.reads I (Tz.kD k) (.ref b) (.ref b) (.tup hb (dpAll_k k)) rfl
  have hd := Tz.depth_kD k
  refine SeqAt.count_list_data (xs := (L.map (·.2)).map Tz.kD) (d := Tz.kD k) hl.isList (by simpa using rs) rk (plain_ks _) (plain_k k) (by omega) ?_
  refine ⟨.int _, H, I.tok _, ⟨s.toks, rfl⟩, ?_⟩
  rw [List.countP_map]
  exact q
/-- x != y, data without dicts, any texts -/
def rNeP (K : PySem.W.Frag) : R2 := fun x y H Q => ∃ d e, Dp K H x d ∧ Dp K H y e ∧ PyData.plain d = true ∧ PyData.plain e = true ∧ d.depth ≤ 40 ∧ Q (.bl (!PyData.eqv d e)) H
theorem op_neP (hu : X.A.units + 64 < cLine) : OpR X (compareOp .NotEq) (rNeP X.K) := by
  intro pins s σ H x y v u Q I rx ry h
  obtain ⟨d, e, hd, he, pd, pe, dd, q⟩ := h
  obtain ⟨as, r1⟩ := Dp.reads I d x v hd rx
  obtain ⟨bs, r2⟩ := Dp.reads I e y u he ry
  have hm : min d.depth e.depth ≤ d.depth := Nat.min_le_left _ _
  exact SeqAt.ne_plain r1 r2 pd pe (by omega) ⟨.bl _, H, I, rfl, q⟩
theorem eqv_rows (l : List Row) : PyData.eqv (.list (l.map Tz.kD)) (.list (l.map Tz.kD)) = true := by
  refine eqv_refl_alike _ ?_
  show alikeAll (l.map Tz.kD) (l.map Tz.kD) = true
  induction l with
  | nil => simp [alikeAll]
  | cons k l ih =>
    show (alike (Tz.kD k) (Tz.kD k) && alikeAll (l.map Tz.kD) (l.map Tz.kD)) = true
    rw [ih, show alike (Tz.kD k) (Tz.kD k) = true from Tz.alike_k rfl]
    rfl
end
end Kx

/-! KZ: what the law of k21 draws, as data -/
namespace Kx
open PySem PySem.Spec PyProof.Rows L2
/-- the columns of the law -/
def cs21 : List NC := [("k", true), ("t", false), ("n", true)]
theorem cs21_nd : (cs21.map (·.1)).Nodup := by decide +kernel
theorem cs21_big : ∀ c ∈ cs21, c.1 ∈ bigN := by decide +kernel
/-- a drawn fold as data -/
def fcOf (m : FCol) : FC := (m.op, m.ex, m.kind, m.name)
def asOf (fs : List FCol) : List (Addr × FC) := fs.map fun m => (m.det, fcOf m)
theorem asOf_fc (fs : List FCol) : (asOf fs).map (·.2) = fs.map fcOf := by
  unfold asOf
  rw [List.map_map]
  rfl
theorem asOf_refs (fs : List FCol) : (asOf fs).map (fun p => V.ref p.1) = fs.map fun m => V.ref m.det := by
  unfold asOf
  rw [List.map_map]
  rfl
section
variable {K : PySem.W.Frag} {H : Hp} {fs : List FCol}
theorem fto_of {kf : Str → Option Bool} {m : FCol} (h : FColAt H kf m) : FTo H m.told m.ex := by
  have t := h.told
  unfold FTold at t
  unfold FTo
  cases e : m.ex with
  | none => rw [e] at t; exact t.2.1
  | some x => rw [e] at t; exact t.2.1
theorem fok_of {m : FCol} (h : FColAt H (kfN cs21) m) : FOk cs21 (fcOf m) := by
  have t := h.told
  refine ⟨h.op, ?_⟩
  unfold FTold at t
  show (match m.ex with
    | none => m.op = "count" ∧ m.kind = true
    | some e => m.op ≠ "count" ∧ Kind (kfN cs21) e m.kind ∧ e.dep ≤ 3 ∧ (m.op ∉ (["least", "unlike", "greatest"] : List Str) → m.kind = true))
  cases e : m.ex with
  | none => rw [e] at t; exact ⟨t.1, t.2.2⟩
  | some x => rw [e] at t; exact ⟨t.1, t.2.2⟩
theorem flds_of {ft : Addr} (h : ∀ m ∈ fs, FColAt H (kfN cs21) m) (hf : H ft = some (.tup (fs.map fun m => .ref m.det))) : FldsAt K H ft (asOf fs) := by
  refine ⟨by rw [asOf_refs]; exact SqT.of hf, fun p hp => ?_⟩
  obtain ⟨m, hm, rfl⟩ := List.mem_map.mp hp
  exact ⟨m.told, (h m hm).at_det, fto_of (h m hm)⟩
theorem foks_of (h : ∀ m ∈ fs, FColAt H (kfN cs21) m) : ∀ p ∈ asOf fs, FOk cs21 p.2 := fun p hp => by
  obtain ⟨m, hm, rfl⟩ := List.mem_map.mp hp
  exact fok_of (h m hm)
end
/-- where a column of the law stands -/
def at21 (c : NC) : Nat := if c.1 = "k" then 0 else if c.1 = "t" then 1 else 2
theorem at21_ok : ∀ c ∈ cs21, (cs21.map (·.1))[at21 c]? = some c.1 := by decide +kernel
theorem pos21 {kcs : List NC} (h : ∀ c ∈ kcs, c ∈ cs21) : PosOf cs21 (kcs.map (·.1)) (kcs.map at21) := by
  refine ⟨by rw [List.length_map, List.length_map], fun i x hx => ?_⟩
  rw [List.getElem?_map] at hx
  obtain ⟨c, hc, rfl⟩ := Option.map_eq_some_iff.mp hx
  exact ⟨at21 c, by rw [List.getElem?_map, hc]; rfl, at21_ok c (h c (List.mem_of_getElem? hc))⟩
/-- the job of the law -/
def outs21 (kcs : List NC) (fs : List FCol) : List NC := kcs ++ (fs.map fcOf).map fun m => (m.2.2.2, lateK m.1 m.2.2.1)
theorem run21 {H : Hp} {kcs : List NC} {fs : List FCol} (hk : ∀ c ∈ kcs, c ∈ cs21) (h : ∀ m ∈ fs, FColAt H (kfN cs21) m) (nd : (kcs.map (·.1) ++ fs.map FCol.name).Nodup) (ne : fs ≠ []) (l3 : fs.length ≤ 3) :
    StepOk [("a", cs21)] ["a"] (.fold kcs (fs.map fcOf)) (outs21 kcs fs) ∧ runC [] [⟨"a", [], .read cs21⟩, ⟨"s", ["a"], .fold kcs (fs.map fcOf)⟩] = .ok [("a", cs21), ("s", outs21 kcs fs)] := by
  have e1 : (fs.map fcOf).map (·.2.2.2) = fs.map FCol.name := by rw [List.map_map]; rfl
  have O : StepOk [("a", cs21)] ["a"] (.fold kcs (fs.map fcOf)) (outs21 kcs fs) := .fold List.mem_cons_self hk (fun m hm => by
    obtain ⟨x, hx, rfl⟩ := List.mem_map.mp hm
    exact fok_of (h x hx)) (by rw [e1]; exact nd) (fun e => ne (List.map_eq_nil_iff.mp e)) (by rw [List.length_map]; exact l3)
  refine ⟨O, ?_⟩
  have s1 : stepC [] ⟨"a", [], .read cs21⟩ = some cs21 := by decide +kernel
  have nd2 : ((outs21 kcs fs).map (·.1)).Nodup := by
    unfold outs21
    rw [List.map_append, List.map_map, List.map_map]
    exact nd
  have s2 : stepC [("a", cs21)] ⟨"s", ["a"], .fold kcs (fs.map fcOf)⟩ = some (outs21 kcs fs) := Kx.step_ok (by decide +kernel) (fun e he => by rw [List.mem_singleton.mp he]; exact cs21_nd) O nd2 (by decide +kernel)
  unfold runC
  rw [s1]
  show runC [("a", cs21)] [⟨"s", ["a"], .fold kcs (fs.map fcOf)⟩] = _
  unfold runC
  rw [s2]
  rfl
end Kx

set_option maxHeartbeats 16000000
/-! KY: the law of k21, its term -/
namespace Kx
open PySem PySem.Spec PyProof.Rows L2
abbrev s_law21 : Stmt := topS 87
/-- tuple(xs) as a rule over K -/
def rTupOf (K : PySem.W.Frag) : List V → Hp → VK → Prop := fun xs H Q => ∃ p ys, xs = [V.ref p] ∧ ((SqL K H p ys ∧ ∀ l, H l = none → Q (.ref l) (upd H l (.tup ys))) ∨ (SqT K H p ys ∧ Q (.ref p) H))
/-- the scope of the comprehension over the rows -/
abbrev scKeys : Scope := ⟨ScopeKind.function, [(".0", .local), ("row", .cell), ("tuple", .globalImplicit), ("details", .cell), ("places", .cell)], false, false, []⟩
theorem cnt21 {bs : List Bool} {js : List Nat} {rows : List Row} {k : Row} (h : ∀ r ∈ rows, Tz.Form bs (pickR r js)) (hk : Tz.Form bs k) : (rows.map fun r => pickR r js).countP (fun y => PyData.eqv (Tz.kD y) (Tz.kD k)) = (grp js rows k).length := by
  rw [List.countP_map, List.countP_eq_length_filter]
  unfold grp
  congr 1
  refine List.filter_congr fun r hr => ?_
  show PyData.eqv (Tz.kD (pickR r js)) (Tz.kD k) = decide (pickR r js = k)
  have e := key_eqv (h r hr) hk
  by_cases c : pickR r js = k
  · rw [decide_eq_true c, e.mpr c]
  · rw [decide_eq_false c]
    cases z : PyData.eqv (Tz.kD (pickR r js)) (Tz.kD k) with
    | false => rfl
    | true => exact absurd (e.mp z) c
theorem sort_filter (l : List Row) (p : Row → Bool) : Tz.sortK (l.filter p) = (Tz.sortK l).filter p := by
  refine (Tz.sortK_is ?_ ?_).symm
  · exact List.Pairwise.sublist List.filter_sublist (Tz.sortK_asc l)
  · exact (Tz.sortK_perm l).filter p
theorem keys_lay : ∀ {l : List Row}, (∀ k ∈ l, LayR k) → PyData.canLayAll0 (l.map Tz.kD) = true
  | [], _ => by simp [PyData.canLayAll0]
  | k :: l, h => by
    show (PyData.canLayAll0 (k.map Tz.kD1) && PyData.canLayAll0 (l.map Tz.kD)) = true
    rw [lay_all (h k List.mem_cons_self), keys_lay fun y hy => h y (List.mem_cons_of_mem _ hy)]
    rfl
theorem keys_dep : ∀ l : List Row, PyData.depthAll (l.map Tz.kD) ≤ 1
  | [] => by simp [PyData.depthAll]
  | k :: l => by
    show max (PyData.depth (Tz.kD k)) (PyData.depthAll (l.map Tz.kD)) ≤ 1
    exact Nat.max_le.mpr ⟨Tz.depth_kD k, keys_dep l⟩
theorem keys_sh {l : List Row} (h : ∀ k ∈ l, LayR k) : SeqAt.shaped (.list (l.map Tz.kD)) = true := by
  have d := keys_dep l
  show (PyData.canLayAll0 (l.map Tz.kD) && decide (PyData.depthAll (l.map Tz.kD) + 1 ≤ 64)) = true
  rw [keys_lay h, decide_eq_true (by omega)]
  rfl
theorem merge21 : mergeK [] [((.inr "k" : L2.Key), V.int 0), (.inr "t", .int 1), (.inr "n", .int 2)] = plcK (cs21.map (·.1)) := by
  have h1 : ("k" : Str) ≠ "t" := by decide +kernel
  have h2 : ("k" : Str) ≠ "n" := by decide +kernel
  have h3 : ("t" : Str) ≠ "n" := by decide +kernel
  simp [mergeK, putK, plcK, cs21, h1, h2, h3]
section
variable {P : Program} {w : World} {K : PySem.W.Frag} {mg : Str → Option Value} {base : Heap}
abbrev N_law21 : List Str := ["script", "draw", "columns", "details", "late", "rows", "turn", "names", "most", "pieces", "places", "keys", "row", "key", "hot", "job", "some", "many"]
def spLaw21 (K : PySem.W.Frag) : Sp := fun vs H Q _ => ∃ (a : Addr) (xs : List Int), vs = [.ref a] ∧ SqL K H a (xs.map V.int) ∧ ∀ H', Q (.bl true) H'
theorem sc_law21 : FnScope N_law21 ["script"] (defScope s_law21) := ⟨rfl, rfl, rfl, by decide +kernel, rfl, by decide +kernel, by decide +kernel⟩
theorem ok_law21 {f : Addr} {fd : FuncData} {k ki km : Nat} (F : Fun K "law" "law" s_law21 f fd) (hk : 8 ≤ k) (hki : ki ≤ k) (hkm : km ≤ k) (m_range : mg "range" = none) (m_tuple : mg "tuple" = none) (m_list : mg "list" = none) (m_set : mg "set" = none) (m_sorted : mg "sorted" = none) (m_len : mg "len" = none) (G_next : Ready P w K mg base 3 "_law_next" ["draw", "bound"] spNext) (G_pick : Ready P w K mg base 4 "_law_pick" ["draw", "things"] (spPick K)) (G_fold : Ready P w K mg base 8 "_law_fold" ["draw", "columns"] spFold)
    (G_hot : Ready P w K mg base 3 "hot_keys" ["rows", "keys", "names", "most"] (spHot K)) (G_two : Ready P w K mg base ki "fold_in_two" ["rows", "details", "names", "hot", "pieces"] (spInTwo K)) (G_mean : Ready P w K mg base km "meaning" ["job", "data"] (spMean2 K)) (G_most : Ready P w K mg base 4 "most_in_piece" ["rows", "keys", "names", "hot", "pieces"] (spPMost K)) :
    FnOk P w K mg base CX0 (k + 1) f fd ["script"] (spLaw21 K) := by
  refine F.ok sc_law21 (fun vs H Q E h => ?_) (fun cdv A outer s0 H vs Q E hr h => ?_)
  · obtain ⟨a, xs, rfl, _⟩ := h
    rfl
  obtain ⟨a, xs, rfl, hS, q⟩ := h
  have nd := sc_law21.nd
  have hu64 : _ + 64 < cLine := hr.units
  have hrk : Room k _ := hr
  have hr8 : Room 8 _ := hrk.mono hk
  have hr4 : Room 4 _ := hrk.mono (by omega)
  have hr3 : Room 3 _ := hrk.mono (by omega)
  have hri : Room ki _ := hrk.mono hki
  have hrm : Room km _ := hrk.mono hkm
  refine ⟨_, pss_cons (ps_set (i := 1) nd rfl (.inr rfl) (pe_lst (pa_cons (pe_slice sl_list (pv 0) po_none (po_some pe_int)) (pa_cons pe_int (pa_cons pe_int pa_nil)))))
      (pss_cons (ps_set (i := 2) nd rfl (.inl rfl) (pe_lst (pa_cons (pe_tup (pa_cons pe_str (pa_cons pe_str pa_nil))) (pa_cons (pe_tup (pa_cons pe_str (pa_cons pe_str pa_nil))) (pa_cons (pe_tup (pa_cons pe_str (pa_cons pe_str pa_nil))) pa_nil)))))
      (pss_cons (ps_asg (pe_fn (G_fold) hr8 (pa_cons (pv 1) (pa_cons (pv 2) pa_nil))) (pg_tup rfl (pgs_cons (pg_name (i := 3) nd rfl (.inr rfl)) (pgs_cons (pg_name (i := 4) nd rfl (.inl rfl)) pgs_nil))))
      (pss_cons (ps_setLc (i := 5) (own := [("turn", 6)]) (g := gName 6) (tt := tYes) (te := tTup (tCons (tCall spNext [] E0 (tCons (tVar 1) (tCons (tC (.int 3)) tNil))) (tCons (tCall (spPick K) [] E0 (tCons (tVar 1) (tCons (tTup (tCons (tC (.str "a")) (tCons (tC (.str "b")) tNil))) tNil))) (tCons (tCall spNext [] E0 (tCons (tVar 1) (tCons (tC (.int 9)) tNil))) tNil)))) rfl nd rfl rfl (sw_true rfl rfl rfl (by decide +kernel)) (pi_range1 rfl m_range (pa_cons (pe_fn (G_next) hr3 (pa_cons (pv 1) (pa_cons pe_int pa_nil))) pa_nil)) (blkOk_by (N := N_law21) (sc := defScope s_law21) (by decide +kernel)) (fun _ _ _ _ _ => pg_name (i := 6) nd rfl (Or.inl rfl)) (fun _ _ _ _ _ => pts_nil) (fun _ _ _ _ _ => (pe_tup (pa_cons (pe_fn (G_next) hr3 (pa_cons (pv 1) (pa_cons pe_int pa_nil))) (pa_cons (pe_fn (G_pick) hr4 (pa_cons (pv 1) (pa_cons (pe_tup (pa_cons pe_str (pa_cons pe_str pa_nil))) pa_nil))) (pa_cons (pe_fn (G_next) hr3 (pa_cons (pv 1) (pa_cons pe_int pa_nil))) pa_nil))))))
      (pss_cons (ps_asg (pe_tup (pa_cons (pe_tup (pa_cons pe_str (pa_cons pe_str (pa_cons pe_str pa_nil)))) (pa_cons (pe_fn (G_next) hr3 (pa_cons (pv 1) (pa_cons pe_int pa_nil))) (pa_cons (pe_op op_add pe_int (pe_fn (G_next) hr3 (pa_cons (pv 1) (pa_cons pe_int pa_nil)))) pa_nil)))) (pg_tup rfl (pgs_cons (pg_name (i := 7) nd rfl (.inl rfl)) (pgs_cons (pg_name (i := 8) nd rfl (.inr rfl)) (pgs_cons (pg_name (i := 9) nd rfl (.inl rfl)) pgs_nil)))))
      (pss_cons (ps_set (i := 10) nd rfl (.inr rfl) (pe_disp (pps_cons pe_str pe_int (pps_cons pe_str pe_int (pps_cons pe_str pe_int pps_nil))) rfl rfl (by intro z; cases z) (by decide)))
      (pss_cons (ps_set (i := 11) nd rfl (.inr rfl) (pe_lc (own := [("row", 12)]) (g := gName 12) (tt := tYes) (te := tCB (rTupOf K) (tCons (tLc (iTup K (tOp (rIxT K) (tVar 3) (tC (.int 0)))) (gName 13) tYes (tOp (rIxT K) (tVar 12) (tDGet (tVar 10) (tVar 13))) [13]) tNil)) rfl nd (pi_list (pv 5)) (blkOk_by (N := N_law21) (sc := defScope s_law21) (by decide +kernel)) (fun _ _ _ _ _ => pg_name (i := 12) nd rfl (Or.inr rfl)) (fun _ _ _ _ _ => pts_nil) (fun _ _ _ _ _ => (pe_callTy call_tuple_of (by rfl) m_tuple PyProof.Rows.boot_tuple (pa_cons (pe_lc (own := [("key", 13)]) (g := gName 13) (tt := tYes) (te := tOp (rIxT K) (tVar 12) (tDGet (tVar 10) (tVar 13))) rfl nd (pi_tup (pe_ix ix_tup (pv 3) pe_int (fun _ _ => rfl))) (blkOk_by (N := N_law21) (sc := scKeys) (by decide +kernel)) (fun _ _ _ _ _ => pg_name (i := 13) nd rfl (Or.inl rfl)) (fun _ _ _ _ _ => pts_nil) (fun _ _ _ _ _ => (pe_ix ix_tup (pv 12) (pe_dget (hu_of hr) (pv 10) (pv 13) (fun _ _ => rfl)) (fun _ _ => rfl)))) pa_nil)))))
      (pss_cons (ps_set (i := 14) nd rfl (.inl rfl) (pe_fn (G_hot) hr3 (pa_cons (pv 5) (pa_cons (pe_ix ix_tup (pv 3) pe_int (fun _ _ => rfl)) (pa_cons (pv 7) (pa_cons (pv 8) pa_nil))))))
      (pss_cons (ps_if (pt_cmpR (op_neP hu64) (pe_callTy call_list_of (by rfl) m_list PyProof.Rows.boot_list (pa_cons (pv 14) pa_nil)) (pe_lc (own := [("key", 13)]) (g := gName 13) (tt := tTest (tOp (rI0 fun i j => .bl (decide (j < i))) (tBM K "list" (rCntK K) (tVar 11) (tCons (tVar 13) tNil)) (tVar 8))) (te := tVar 13) rfl nd (pi_list (pe_callB (Tz.cr_sortedU rfl hu64) (by rfl) m_sorted boot_sorted (pa_cons (pe_callTy (Tz.cr_setU rfl hu64) (by rfl) m_set PyProof.Rows.boot_set (pa_cons (pv 11) pa_nil)) pa_nil))) (blkOk_by (N := N_law21) (sc := defScope s_law21) (by decide +kernel)) (fun _ _ _ _ _ => pg_name (i := 13) nd rfl (Or.inl rfl)) (fun _ _ _ _ _ => pts_one (pt_cmpR op_gt (pe_bm PySem.F.plainAttrs_list PySem.F.slot_list_count PySem.F.type_list_count (mt_lcountK hu64) (pv 11) (pa_cons (pv 13) pa_nil)) (pv 8) (nomark _))) (fun _ _ _ _ _ => (pv 13))) (nomark _)) (pss_one (ps_ret pe_bl)) (pss_nil))
      (pss_cons (ps_set (i := 15) nd rfl (.inl rfl) (pe_tup (pa_cons (pe_tup (pa_cons (pe_tup (pa_cons pe_str (pa_cons pe_str (pa_cons (pe_tup pa_nil) (pa_cons (pe_callTy cr_tupleF (by rfl) m_tuple PyProof.Rows.boot_tuple (pa_cons (pv 2) pa_nil)) pa_nil))))) (pa_cons (pe_tup (pa_cons pe_str (pa_cons pe_str (pa_cons (pe_tup (pa_cons pe_str pa_nil)) (pa_cons (pv 3) pa_nil))))) pa_nil))) (pa_cons pe_str pa_nil))))
      (pss_cons (ps_for PassesOwn.never rfl (pi_tup (pe_tup (pa_cons (pv 14) (pa_cons (pe_lst pa_nil) (pa_cons (pe_callB (Tz.cr_sortedU rfl hu64) (by rfl) m_sorted boot_sorted (pa_cons (pe_callTy (Tz.cr_setU rfl hu64) (by rfl) m_set PyProof.Rows.boot_set (pa_cons (pv 11) pa_nil)) pa_nil)) pa_nil))))) (pg_name (i := 16) nd rfl (.inl rfl)) (pss_cons (ps_if (pt_cmpR (op_neP hu64) (pe_fn (G_two) hri (pa_cons (pv 5) (pa_cons (pv 3) (pa_cons (pv 7) (pa_cons (pv 16) (pa_cons (pv 9) pa_nil)))))) (pe_fn (G_mean) hrm (pa_cons (pv 15) (pa_cons (pe_disp (pps_cons pe_str (pv 5) pps_nil) rfl rfl (by intro z; cases z) (by decide)) pa_nil))) (nomark _)) (pss_one (ps_ret pe_bl)) (pss_nil))
      (pss_cons (ps_set (i := 17) nd rfl (.inl rfl) (pe_fn (G_most) hr4 (pa_cons (pv 5) (pa_cons (pe_ix ix_tup (pv 3) pe_int (fun _ _ => rfl)) (pa_cons (pv 7) (pa_cons (pv 16) (pa_cons (pv 9) pa_nil)))))))
      (pss_one (ps_if (pt_not ((pt_chain op_le op_le (pe_un un_neg (pe_op op_fdiv (pe_un un_neg (pe_callB call_len_seq (by rfl) m_len PySem.boot_len (pa_cons (pv 5) pa_nil))) (pv 9))) (pv 17) (pe_callB call_len_seq (by rfl) m_len PySem.boot_len (pa_cons (pv 5) pa_nil))))) (pss_one (ps_ret pe_bl)) (pss_nil))))))
      (pss_one (ps_ret (pe_cmpR op_eq (pe_fn (G_most) hr4 (pa_cons (pv 5) (pa_cons (pe_ix ix_tup (pv 3) pe_int (fun _ _ => rfl)) (pa_cons (pv 7) (pa_cons (pe_callB (Tz.cr_sortedU rfl hu64) (by rfl) m_sorted boot_sorted (pa_cons (pe_callTy (Tz.cr_setU rfl hu64) (by rfl) m_set PyProof.Rows.boot_set (pa_cons (pv 11) pa_nil)) pa_nil)) (pa_cons (pv 9) pa_nil)))))) (pe_un un_neg (pe_op op_fdiv (pe_un un_neg (pe_callB call_len_seq (by rfl) m_len PySem.boot_len (pa_cons (pv 5) pa_nil))) (pv 9))) (nomark _)))))))))))))), ?_⟩
  have z2 : 2 ≤ sizeLine := by decide
  have z3 : 3 ≤ sizeLine := by decide
  obtain ⟨ns, ens⟩ : ∃ ys : List Int, cutV (xs.map V.int) none (some 63) = ys.map V.int := by
    unfold cutV
    rw [← List.map_drop, ← List.map_take]
    exact ⟨_, rfl⟩
  refine ⟨_, rfl, _, rfl, a, _, rfl, hS, fun s ns0 => ⟨z3, fun d nd0 => ?_⟩⟩
  rw [ens] at nd0 ⊢
  have D0 : DrawAt (upd (upd H s (.lst (ns.map V.int))) d (.lst [.ref s, .int 0, .int 0])) d s ns [] 0 := ⟨upd_same, by rw [upd_ne (ne_of_none upd_same nd0)]; exact upd_same, Int.le_refl 0⟩
  generalize upd (upd H s (.lst (ns.map V.int))) d (.lst [.ref s, .int 0, .int 0]) = H0 at D0 ⊢
  -- the columns
  refine ⟨z2, fun c1 m1 => ⟨z2, fun c2 m2 => ⟨z2, fun c3 m3 => ⟨z3, fun cl m4 => ?_⟩⟩⟩⟩
  have u1 := same_upd (o := .tup [.str "k", .str "int"]) m1
  have u2 := same_upd (o := .tup [.str "t", .str "text"]) m2
  have u3 := same_upd (o := .tup [.str "n", .str "int"]) m3
  have u4 := same_upd (o := .lst [.ref c1, .ref c2, .ref c3]) m4
  have D1 := D0.keep (((u1.trans u2).trans u3).trans u4)
  have C1 : ColsAt (upd (upd (upd (upd H0 c1 (.tup [.str "k", .str "int"])) c2 (.tup [.str "t", .str "text"])) c3 (.tup [.str "n", .str "int"])) cl (.lst [.ref c1, .ref c2, .ref c3])) cl [(c1, "k", true), (c2, "t", false), (c3, "n", true)] := by
    refine ⟨upd_same, fun c hc => ?_, by show 3 ≤ 1000; decide, fun c hc => ?_⟩
    · rcases List.mem_cons.mp hc with rfl | hc
      · exact u4 _ _ (u3 _ _ (u2 _ _ upd_same))
      rcases List.mem_cons.mp hc with rfl | hc
      · exact u4 _ _ (u3 _ _ upd_same)
      rw [List.mem_singleton.mp hc]
      exact u4 _ _ upd_same
    · rcases List.mem_cons.mp hc with rfl | hc
      · exact (by decide +kernel : PyData.canLay0 (.str "k") = true)
      rcases List.mem_cons.mp hc with rfl | hc
      · exact (by decide +kernel : PyData.canLay0 (.str "t") = true)
      rw [List.mem_singleton.mp hc]
      exact (by decide +kernel : PyData.canLay0 (.str "n") = true)
  generalize upd (upd (upd (upd H0 c1 (.tup [.str "k", .str "int"])) c2 (.tup [.str "t", .str "text"])) c3 (.tup [.str "n", .str "int"])) cl (.lst [.ref c1, .ref c2, .ref c3]) = H1 at D1 C1 ⊢
  have kf1 : ∀ c ∈ ([(c1, "k", true), (c2, "t", false), (c3, "n", true)] : List Col), kfN cs21 c.2.1 = some c.2.2 ∧ c.2 ∈ cs21 := fun c hc => by
    rcases List.mem_cons.mp hc with rfl | hc
    · exact (by decide +kernel : kfN cs21 "k" = some true ∧ (("k", true) : NC) ∈ cs21)
    rcases List.mem_cons.mp hc with rfl | hc
    · exact (by decide +kernel : kfN cs21 "t" = some false ∧ (("t", false) : NC) ∈ cs21)
    rw [List.mem_singleton.mp hc]
    exact (by decide +kernel : kfN cs21 "n" = some true ∧ (("n", true) : NC) ∈ cs21)
  refine ⟨_, rfl, _, rfl, d, s, cl, _, kfN cs21, ns, [], 0, rfl, D1, C1, fun c hc => (kf1 c hc).1, (by intro z; cases z), fun r t kt ft f ks fs n1 H2 er et ekt eft ef hks hfs hnd hne hl3 b1 D2 => ?_⟩
  have C2 := C1.but D1 b1
  have hkc : ∀ c ∈ ks.map (·.2), c ∈ cs21 := fun c hc => by
    obtain ⟨x, hx, rfl⟩ := List.mem_map.mp hc
    exact (kf1 x (hks x hx)).2
  refine ⟨r, _, rfl, SqT.of er, rfl, _, _, rfl, _, _, rfl, rfl, ?_⟩
  -- the rows
  refine ⟨_, rfl, d, s, ns, [], n1, 40, rfl, D2, by decide, fun r0 H3 g0 g1 b2 D3 => ⟨r0, rfl, by omega, by omega, fun RL nRL => ?_⟩⟩
  have dRL : RL ≠ d := fun e => by rw [e, D3.1] at nRL; cases nRL
  refine lc_it (walk_range (lo := 0) (n := r0.toNat)) (fun i G => ∃ (n : Int) (res : List (Addr × Row)), But d H3 G ∧ DrawAt G d s ns [] n ∧ G RL = some (.lst (res.map fun p => .ref p.1)) ∧ (∀ p ∈ res, G p.1 = some (.tup (p.2.map kV)) ∧ RowT cs21 p.2 ∧ LayR p.2) ∧ res.length = i)
    ⟨_, [], same_but (same_upd nRL), D3.keep (same_upd nRL), upd_same, fun p h => (by cases h), rfl⟩ (fun _ _ _ _ => trivial) ?_ ?_
  · rintro i x G' G hi ⟨n, res, bG, Dr, eD, hres, lres⟩ ⟨rfl, rfl⟩
    refine ⟨rfl, _, rfl, d, s, ns, [], n, 3, rfl, Dr, by decide, fun v1 G1 x0 x1 k1 E1 => ?_⟩
    refine ⟨_, rfl, z2, fun tt ntt => ?_⟩
    have w1 := same_upd (o := .tup [.str "a", .str "b"]) ntt
    have E1' := E1.keep w1
    have ett : upd G1 tt (.tup [.str "a", .str "b"]) tt = some (.tup [.str "a", .str "b"]) := upd_same
    have ttd : tt ≠ d := fun e => by rw [e, E1.1] at ntt; cases ntt
    refine ⟨d, s, tt, ns, [], n + 1, [.str "a", .str "b"], rfl, E1', ttd, .inr (SqT.of ett), (by intro z; cases z), fun v2 G2 hv k2 E2 => ?_⟩
    refine ⟨_, rfl, d, s, ns, [], n + 1 + 1, 9, rfl, E2, by decide, fun v3 G3 y0 y1 k3 E3 => ?_⟩
    refine ⟨z3, fun rp nrp => ?_⟩
    have w3 := same_upd (o := .tup [.int v1, v2, .int v3]) nrp
    have bG3 : But d G G3 := ((k1.trans (same_but w1)).trans k2).trans k3
    have eD3 := bG3 _ _ dRL eD
    obtain ⟨t2, rfl, ht2⟩ : ∃ t2 : Str, v2 = .str t2 ∧ t2 ∈ (["a", "b"] : List Str) := by
      rcases List.mem_cons.mp hv with rfl | hv
      · exact ⟨_, rfl, List.mem_cons_self⟩
      · rw [List.mem_singleton.mp hv]
        exact ⟨_, rfl, List.mem_cons_of_mem _ List.mem_cons_self⟩
    have rT : RowT cs21 [.inl v1, .inr t2, .inl v3] := by
      refine ⟨rfl, fun j c k hc hk => ?_⟩
      match j, hc, hk with
      | 0, hc, hk => cases hc; cases hk; exact ⟨v1, rfl, by omega, by omega⟩
      | 1, hc, hk =>
        cases hc
        cases hk
        exact ⟨t2, rfl, (by decide +kernel : ∀ x ∈ (["a", "b"] : List Str), x.length ≤ 100) t2 ht2⟩
      | 2, hc, hk => cases hc; cases hk; exact ⟨v3, rfl, by omega, by omega⟩
      | j + 3, hc, _ => cases hc
    have rL : LayR [.inl v1, .inr t2, .inl v3] := by
      intro z hz
      rcases List.mem_cons.mp hz with rfl | hz
      · rfl
      rcases List.mem_cons.mp hz with rfl | hz
      · exact (by decide +kernel : ∀ x ∈ (["a", "b"] : List Str), PyData.canLay0 (.str x) = true) t2 ht2
      rw [List.mem_singleton.mp hz]
      rfl
    have eD4 := w3 _ _ eD3
    refine ⟨_, eD4, by rw [List.length_map, lres]; exact Nat.lt_of_lt_of_le (show i < 100 by omega) (by decide), n + 1 + 1 + 1, res ++ [(rp, [.inl v1, .inr t2, .inl v3])], fun b o n e => ?_, ?_, by rw [upd_same, List.map_append]; rfl, fun p hp => ?_, by rw [List.length_append, lres]; rfl⟩
    · by_cases c : b = RL
      · rw [c, nRL] at e
        cases e
      · rw [upd_ne c]
        exact w3 _ _ (bG3 _ _ n (bG _ _ n e))
    · have E4 := E3.keep w3
      have sRL : s ≠ RL := fun e => by
        have := D3.at_s
        rw [e, nRL] at this
        cases this
      exact ⟨by rw [upd_ne dRL.symm]; exact E4.at_d, by rw [upd_ne sRL]; exact E4.at_s, E4.n0⟩
    · have ep : upd G3 rp (.tup [.int v1, .str t2, .int v3]) p.1 = some (.tup (p.2.map kV)) ∧ RowT cs21 p.2 ∧ LayR p.2 := by
        rcases List.mem_append.mp hp with hp | hp
        · obtain ⟨z1, z4⟩ := hres p hp
          exact ⟨w3 _ _ (bG3 _ _ (fun e => by rw [e, Dr.1] at z1; cases z1) z1), z4⟩
        · rw [List.mem_singleton.mp hp]
          exact ⟨upd_same, rT, rL⟩
      refine ⟨?_, ep.2⟩
      rw [upd_ne (fun e => by rw [e, eD4] at ep; cases ep.1)]
      exact ep.1
  rintro H4 ⟨n4, rows, b4, D4, eRL, hrows, lrows⟩
  -- names, most, pieces
  refine ⟨z3, fun nt nnt => ?_⟩
  have w5 := same_upd (o := .tup [.str "k", .str "t", .str "n"]) nnt
  have D4' := D4.keep w5
  have ent : upd H4 nt (.tup [.str "k", .str "t", .str "n"]) nt = some (.tup [.str "k", .str "t", .str "n"]) := upd_same
  refine ⟨_, rfl, d, s, ns, [], n4, 9, rfl, D4', by decide, fun most H5 m0 m1 b5 D5 => ?_⟩
  refine ⟨_, rfl, d, s, ns, [], n4 + 1, 5, rfl, D5, by decide, fun pc H6 q0 q1 b6 D6 => ?_⟩
  refine ⟨_, _, rfl, rfl, z3, fun tp ntp => ?_⟩
  have w7 := same_upd (o := .tup [.ref nt, .int most, .int (1 + pc)]) ntp
  refine ⟨tp, _, rfl, SqT.of upd_same, rfl, _, _, rfl, _, _, rfl, _, _, rfl, rfl, ?_⟩
  have b47 : But d H4 (upd H6 tp (.tup [.ref nt, .int most, .int (1 + pc)])) := (((same_but w5).trans b5).trans b6).trans (same_but w7)
  have D7 := D6.keep w7
  have ent7 := (same_but w7) _ _ (fun e => by rw [e, D4.1] at nnt; cases nnt) (b6 _ _ (fun e => by rw [e, D4.1] at nnt; cases nnt) (b5 _ _ (fun e => by rw [e, D4.1] at nnt; cases nnt) ent))
  generalize upd H6 tp (.tup [.ref nt, .int most, .int (1 + pc)]) = H7 at w7 b47 D7 ent7
  -- the places
  refine fun pl npl => ⟨upd_same, [(.inr "k", .int 0), (.inr "t", .int 1), (.inr "n", .int 2)], rfl, by show 3 ≤ 15; decide, ?_⟩
  have emk : mergeK [] [((.inr "k" : L2.Key), V.int 0), (.inr "t", .int 1), (.inr "n", .int 2)] = plcK (cs21.map (·.1)) := merge21
  rw [emk, upd_upd]
  have w8 := same_upd (o := .dK (plcK (cs21.map (·.1)))) npl
  have epl : upd H7 pl (.dK (plcK (cs21.map (·.1)))) pl = some (.dK (plcK (cs21.map (·.1)))) := upd_same
  have b48 := b47.trans (same_but w8)
  have D8 := D7.keep w8
  have ent8 := w8 _ _ ent7
  generalize upd H7 pl (.dK (plcK (cs21.map (·.1)))) = H8 at w8 epl b48 D8 ent8
  -- from here on the draw is not touched
  have b28 : But d H2 H8 := (b2.trans b4).trans b48
  have ne_tup : ∀ {a : Addr} {ys : List V}, H2 a = some (.tup ys) → a ≠ d := fun h e => by rw [e, D2.at_d] at h; cases h
  have et8 := b28 _ _ (ne_tup et) et
  have ekt8 := b28 _ _ (ne_tup ekt) ekt
  have eft8 := b28 _ _ (ne_tup eft) eft
  have C8' : ColsAt H8 cl [(c1, "k", true), (c2, "t", false), (c3, "n", true)] := C2.but D2 b28
  have hfs8 : ∀ m ∈ fs, FColAt H8 (kfN cs21) m := fun m hm => (hfs m hm).keep fun c ys e => b28 _ _ (ne_tup e) e
  have eRL8 := b48 _ _ dRL eRL
  have hR8 : RowsAt H8 cs21 rows := fun p hp => ⟨b48 _ _ (fun e => by
    have := (hrows p hp).1
    rw [e, D4.at_d] at this
    cases this) (hrows p hp).1, (hrows p hp).2.1⟩
  have lay8 : ∀ p ∈ rows, LayR p.2 := fun p hp => (hrows p hp).2.2
  have few : rows.length < 63 := by omega
  clear D0 C1 D1 C2 hrows eRL D3 D4 b1 b2 b4 b47 b5 b6 D5 D6 D7 ent7 ent et ekt eft hfs D4' w5
  have ksl : ks.length ≤ 3 := by
    have h8 := nodup_len_rows (ks := (["k", "t", "n"] : List Str)) (List.nodup_append.mp hnd).1 fun z hz => by
      obtain ⟨c, hc, rfl⟩ := List.mem_map.mp hz
      exact List.mem_map.mpr ⟨c.2, (kf1 c (hks c hc)).2, rfl⟩
    rw [List.length_map] at h8
    exact h8
  have ekt8' : H8 kt = some (.tup (((ks.map (·.2)).map (·.1)).map V.str)) := by
    rw [ekt8, List.map_map, List.map_map]
    rfl
  have hpos := pos21 hkc
  have kl3 : ((ks.map (·.2)).map (·.1)).length < 1000 := by rw [List.length_map, List.length_map]; omega
  -- the keys
  refine ⟨_, rfl, RL, rfl, ⟨_, SqL.of eRL8⟩, fun KL nKL => ?_⟩
  refine lc_list (K := K) (a := RL) (xs := rows.map fun p => .ref p.1) (fun i G => Same H8 G ∧ ∃ kres : List (Addr × Row), G KL = some (.lst (kres.map fun p => .ref p.1)) ∧ (∀ p ∈ kres, G p.1 = some (.tup (p.2.map kV))) ∧ kres.map (·.2) = ((rows.map (·.2)).take i).map fun r => pickR r ((ks.map (·.2)).map at21))
    ⟨same_upd nKL, [], upd_same, fun p h => (by cases h), rfl⟩ (fun i G _ h => SqL.of (h.1 _ _ eRL8)) ?_ ?_
  · rintro i x G hx ⟨sm, kres, eK, hk, ek⟩
    rw [List.getElem?_map] at hx
    obtain ⟨pr, hpr, rfl⟩ := Option.map_eq_some_iff.mp hx
    have prm := List.mem_of_getElem? hpr
    have hi : i < rows.length := (List.getElem?_eq_some_iff.mp hpr).1
    obtain ⟨r1, rT⟩ := hR8 pr prm
    have hr2 : (rows.map (·.2))[i]? = some pr.2 := by rw [List.getElem?_map, hpr]; rfl
    have tk : (rows.map (·.2)).take (i + 1) = (rows.map (·.2)).take i ++ [pr.2] := by
      rw [List.take_add_one, hr2]
      rfl
    refine ⟨rfl, _, rfl, t, _, 0, _, rfl, rfl, SqT.of (sm _ _ et8), rfl, kt, rfl, ⟨_, SqT.of (sm _ _ ekt8)⟩, fun D nD => ?_⟩
    refine lc_valsT (SqT.of (sm _ _ ekt8)) nD (ys := (pickR pr.2 ((ks.map (·.2)).map at21)).map kV) (by unfold pickR; rw [List.length_map, List.length_map, List.length_map, List.length_map, List.length_map]) (by rw [List.length_map]; exact Nat.lt_of_le_of_lt (show ks.length ≤ 100 by omega) (by decide)) (fun j x y G2 Qi hx hy s2 q2 => ?_) fun G2 s2 eD => ?_
    · rw [List.getElem?_map] at hx
      obtain ⟨c, hc, rfl⟩ := Option.map_eq_some_iff.mp hx
      have cin := (kf1 c (hks c (List.mem_of_getElem? hc))).2
      have ac := at21_ok c.2 cin
      have sA := sm.trans s2
      have al : at21 c.2 < pr.2.length := by
        rw [rT.1]
        have := (List.getElem?_eq_some_iff.mp ac).1
        rwa [List.length_map] at this
      have ev : valV (plcK (cs21.map (·.1))) (.inr c.2.1) = some (.int (at21 c.2 : Nat)) := by
        obtain ⟨kvs, e1, e2⟩ := plc_at (sA _ _ epl) cs21_nd
        rw [sA _ _ epl] at e1
        cases e1
        exact e2 _ _ ac
      unfold pickR at hy
      rw [List.getElem?_map, List.getElem?_map, List.getElem?_map, List.getElem?_map, hc] at hy
      cases hy
      refine ⟨rfl, _, rfl, _, rfl, _, rfl, pl, _, rfl, by rw [← ev]; exact DGet.k (k := Sum.inr c.2.1) (sA _ _ epl), pr.1, _, _, _, rfl, rfl, SqT.of (sA _ _ r1), atI_nat (v := kV (pr.2.getD (at21 c.2) (.inl 0))) ?_, q2 _ (Same.refl _)⟩
      rw [List.getElem?_map, List.getD_eq_getElem?_getD, List.getElem?_eq_getElem al]
      rfl
    · refine ⟨D, _, rfl, .inl ⟨SqL.of eD, fun l nl => ?_⟩⟩
      have s3 := same_upd (o := .tup ((pickR pr.2 ((ks.map (·.2)).map at21)).map kV)) nl
      have eK3 := s3 _ _ (s2 _ _ eK)
      have kl : kres.length = i := by
        have h8 := congrArg List.length ek
        rw [List.length_map, List.length_map, List.length_take, List.length_map] at h8
        omega
      have el : upd G2 l (.tup ((pickR pr.2 ((ks.map (·.2)).map at21)).map kV)) l = some (.tup ((pickR pr.2 ((ks.map (·.2)).map at21)).map kV)) := upd_same
      have sB := (sm.trans s2).trans s3
      refine ⟨_, eK3, by rw [List.length_map]; exact Nat.lt_of_le_of_lt (show _ ≤ 100 by omega) (by decide), fun b o e => ?_, kres ++ [(l, pickR pr.2 ((ks.map (·.2)).map at21))], by rw [upd_same, List.map_append]; rfl, fun p hp => ?_, ?_⟩
      · rw [upd_ne (ne_of_none e nKL)]
        exact sB _ _ e
      · have ep : upd G2 l (.tup ((pickR pr.2 ((ks.map (·.2)).map at21)).map kV)) p.1 = some (.tup (p.2.map kV)) := by
          rcases List.mem_append.mp hp with hp | hp
          · exact s3 _ _ (s2 _ _ (hk p hp))
          · rw [List.mem_singleton.mp hp]
            exact el
        rw [upd_ne (fun e => by rw [e, eK3] at ep; cases ep)]
        exact ep
      · rw [tk, List.map_append, List.map_append, ek]
        rfl
  rintro H9 ⟨s9, kres, eKL, hkres, ekk⟩
  rw [List.length_map, ← List.length_map (f := (·.2)) (as := rows), List.take_length] at ekk
  -- the hot keys
  refine ⟨_, rfl, _, rfl, t, _, 0, _, rfl, rfl, SqT.of (s9 _ _ et8), rfl, _, rfl, _, rfl, RL, kt, nt, cs21, rows, (ks.map (·.2)).map (·.1), (ks.map (·.2)).map at21, most, rfl, SqL.of (s9 _ _ eRL8), hR8.same s9, few, SqT.of (s9 _ _ ekt8'), SqT.of (s9 _ _ ent8), cs21_nd, by decide, hpos, kl3, fun ha H10 hs s10 nha eha hhs ehs => ?_⟩
  have s8 := s9.trans s10
  -- the set of the keys, in order
  have kform : ∀ p ∈ kres, Tz.Form (keyForm cs21 ((ks.map (·.2)).map at21)) p.2 := fun p hp => by
    have hm : p.2 ∈ kres.map (·.2) := List.mem_map.mpr ⟨p, hp, rfl⟩
    rw [ekk] at hm
    obtain ⟨r, hr2, e⟩ := List.mem_map.mp hm
    obtain ⟨z, hz, rfl⟩ := List.mem_map.mp hr2
    rw [← e]
    exact pick_form (hR8 z hz).2 hpos.lt
  have klay : ∀ k ∈ firsts ((rows.map (·.2)).map fun r => pickR r ((ks.map (·.2)).map at21)), LayR k := fun k hk => by
    obtain ⟨r, hr2, rfl⟩ := List.mem_map.mp (mem_firsts.mp hk)
    obtain ⟨z, hz, rfl⟩ := List.mem_map.mp hr2
    exact pick_lay (fun j h => by rw [(hR8 z hz).2.1]; exact hpos.lt j h) (lay8 z hz)
  have klen : kres.length = rows.length := by
    have h8 := congrArg List.length ekk
    rw [List.length_map, List.length_map, List.length_map] at h8
    exact h8
  have srt : ∀ (σ : L2.St) (G : Hp) (Q : VK), σ[11]? = some (some (.ref KL)) → Same H9 G → (∀ (p : Addr) (N : List (Addr × Row)) (G' : Hp), Same G G' → G p = none → G' p = some (.lst (N.map fun q => .ref q.1)) → (∀ q ∈ N, G' q.1 = some (.tup (q.2.map kV))) → N.map (·.2) = Tz.sortK (firsts ((rows.map (·.2)).map fun r => pickR r ((ks.map (·.2)).map at21))) → Q (.ref p) G') →
      tCB (Tz.rSortedU K P w) (tCons (tCB (Tz.rSetU K P w) (tCons (tVar 11) tNil)) tNil) σ G Q := fun σ G Q h1 sm q2 => by
    refine ⟨_, h1, KL, kres, rfl, SqL.of (sm _ _ eKL), fun p hp => SqT.of (sm _ _ (hkres p hp)), by omega, fun S LS hH nS => ?_⟩
    have sS := same_upd (o := Tz.SetUO P w S LS) nS
    have hraw : ∀ p ∈ LS, upd G S (Tz.SetUO P w S LS) p.1 = some (.tup (p.2.map kV)) := fun p hp => sS _ _ (sm _ _ (hkres p (hH.sub p hp)))
    have pf : (LS.map (·.2)).Perm (firsts ((rows.map (·.2)).map fun r => pickR r ((ks.map (·.2)).map at21))) := by
      refine (List.perm_ext_iff_of_nodup hH.once (firsts_nd _)).mpr fun k => ?_
      rw [mem_firsts, ← ekk]
      constructor
      · intro h
        obtain ⟨p, hp, rfl⟩ := List.mem_map.mp h
        exact List.mem_map.mpr ⟨p, hH.sub p hp, rfl⟩
      · intro h
        obtain ⟨p, hp, rfl⟩ := List.mem_map.mp h
        exact hH.all p hp
    have lf := pf.length_eq
    rw [List.length_map] at lf
    have lk := key_few ((ks.map (·.2)).map at21) (rows.map (·.2))
    rw [List.length_map] at lk
    refine ⟨S, LS, keyForm cs21 ((ks.map (·.2)).map at21), rfl, upd_same, fun p hp => SqT.of (hraw p hp), fun p hp => kform p (hH.sub p hp), ?_, by omega, fun N p pN ekN np => ?_⟩
    · rcases keyForm_ne (cs := cs21) (js := (ks.map (·.2)).map at21) with c | c
      · right
        have h7 := firsts_few (rows := rows.map (·.2)) c
        omega
      · exact .inl c
    · have sp := same_upd (o := .lst (N.map fun q => V.ref q.1)) np
      have nG : G p = none := by
        cases e : G p with
        | none => rfl
        | some o => rw [sS _ _ e] at np; cases np
      exact q2 p N _ (sS.trans sp) nG upd_same (fun z hz => sp _ _ (hraw z (pN.mem_iff.mp hz))) (by rw [ekN]; exact Tz.sortK_eq pf)
  -- the hot keys by count
  refine ⟨_, rfl, ha, _, rfl, .inl (SqL.of eha), fun l1 nl1 => ?_⟩
  have s11 := same_upd (o := .lst (hs.map fun q => V.ref q.1)) nl1
  have el1 : upd H10 l1 (.lst (hs.map fun q => V.ref q.1)) l1 = some (.lst (hs.map fun q => V.ref q.1)) := upd_same
  have hhs1 : ∀ q ∈ hs, upd H10 l1 (.lst (hs.map fun q => V.ref q.1)) q.1 = some (.tup (q.2.map kV)) := fun q hq => s11 _ _ (hhs q hq)
  have eha1 := s11 _ _ eha
  generalize upd H10 l1 (.lst (hs.map fun q => V.ref q.1)) = H11 at s11 el1 hhs1 eha1
  refine srt _ _ _ rfl (s10.trans s11) fun p N H12 s12 np ep hN ekN => ?_
  refine ⟨p, rfl, ⟨_, SqL.of ep⟩, fun D nD => ?_⟩
  have s912 := (s10.trans s11).trans s12
  have Nl : N.length ≤ rows.length := by
    have h8 := congrArg List.length ekN
    have h9 := (Tz.sortK_perm (firsts ((rows.map (·.2)).map fun r => pickR r ((ks.map (·.2)).map at21)))).length_eq
    have h7 := key_few ((ks.map (·.2)).map at21) (rows.map (·.2))
    rw [List.length_map] at h8 h7
    omega
  have Nform : ∀ q ∈ N, Tz.Form (keyForm cs21 ((ks.map (·.2)).map at21)) q.2 := fun q hq => by
    have hm : q.2 ∈ N.map (·.2) := List.mem_map.mpr ⟨q, hq, rfl⟩
    rw [ekN, (Tz.sortK_perm _).mem_iff, mem_firsts, ← ekk] at hm
    obtain ⟨z, hz, e⟩ := List.mem_map.mp hm
    rw [← e]
    exact kform z hz
  refine lc_list (K := K) (a := p) (xs := N.map fun q => .ref q.1) (fun i G => Same H12 G ∧ ∃ res : List (Addr × Row), G D = some (.lst (res.map fun q => .ref q.1)) ∧ (∀ q ∈ res, G q.1 = some (.tup (q.2.map kV))) ∧ res.length ≤ i ∧ res.map (·.2) = ((N.map (·.2)).take i).filter (isHot ((ks.map (·.2)).map at21) (rows.map (·.2)) most))
    ⟨same_upd nD, [], upd_same, fun q h => (by cases h), Nat.le_refl _, rfl⟩ (fun i G _ h => SqL.of (h.1 _ _ ep)) ?_ ?_
  · rintro i x G hx ⟨sm, res, eD, hres, rl, hk⟩
    rw [List.getElem?_map] at hx
    obtain ⟨q0, hq0, rfl⟩ := Option.map_eq_some_iff.mp hx
    have qm := List.mem_of_getElem? hq0
    have hi : i < N.length := (List.getElem?_eq_some_iff.mp hq0).1
    have tk : (N.map (·.2)).take (i + 1) = (N.map (·.2)).take i ++ [q0.2] := by
      rw [List.take_add_one, List.getElem?_map, hq0]
      rfl
    have sA := s912.trans sm
    refine ⟨rfl, _, rfl, .inl ⟨rfl, _, SqL.of (sA _ _ eKL)⟩, _, rfl, KL, q0.1, kres, q0.2, rfl, rfl, SqL.of (sA _ _ eKL), fun z hz => SqT.of (sA _ _ (hkres z hz)), SqT.of (sm _ _ (hN q0 qm)), _, rfl, _, _, rfl, rfl, _, rfl, ?_⟩
    rw [ekk, cnt21 (bs := keyForm cs21 ((ks.map (·.2)).map at21)) (fun r hr => by
      obtain ⟨z, hz, rfl⟩ := List.mem_map.mp hr
      exact pick_form (hR8 z hz).2 hpos.lt) (Nform q0 qm)]
    show (if isHot ((ks.map (·.2)).map at21) (rows.map (·.2)) most q0.2 = true then _ else _)
    cases c : isHot ((ks.map (·.2)).map at21) (rows.map (·.2)) most q0.2 with
    | true =>
      refine ifT' rfl ⟨_, rfl, _, eD, by rw [List.length_map]; exact Nat.lt_of_le_of_lt (show _ ≤ 100 by omega) (by decide), fun b o e => by rw [upd_ne (ne_of_none e nD)]; exact sm _ _ e, res ++ [q0], by rw [upd_same, List.map_append]; rfl, fun z hz => ?_, by rw [List.length_append]; exact Nat.succ_le_succ rl, ?_⟩
      · have ez : G z.1 = some (.tup (z.2.map kV)) := by
          rcases List.mem_append.mp hz with hz | hz
          · exact hres z hz
          · rw [List.mem_singleton.mp hz]
            exact sm _ _ (hN q0 qm)
        rw [upd_ne (fun e => by rw [e, eD] at ez; cases ez)]
        exact ez
      · rw [tk, List.filter_append, List.map_append, hk, List.filter_cons_of_pos c]
        rfl
    | false =>
      refine ifF' rfl ⟨sm, res, eD, hres, Nat.le_succ_of_le rl, ?_⟩
      rw [tk, List.filter_append, hk, List.filter_cons_of_neg (by rw [c]; decide), List.filter_nil, List.append_nil]
  rintro H13 ⟨s13, res, eD, hres, _, hk⟩
  rw [List.length_map, ← List.length_map (f := (·.2)) (as := N), List.take_length, ekN, ← sort_filter, ← ehs] at hk
  have dres : Dp K H13 (.ref D) (.list ((hs.map (·.2)).map Tz.kD)) := by
    rw [← hk]
    exact .lst (SqL.of eD) (dp_rows fun q hq => SqT.of (hres q hq))
  refine ⟨_, _, .lst (SqL.of (s13 _ _ (s12 _ _ el1))) (dp_rows fun q hq => SqT.of (s13 _ _ (s12 _ _ (hhs1 q hq)))), dres, plain_ks _, plain_ks _, by have := keys_dep (hs.map (·.2)); show PyData.depthAll _ + 1 ≤ 40; omega, _, rfl, ?_⟩
  rw [eqv_rows]
  refine ifF' rfl ?_
  have s813 := ((s8.trans s11).trans s12).trans s13
  have eha13 := s13 _ _ (s12 _ _ eha1)
  have eKL13 := s13 _ _ (s12 _ _ (s11 _ _ (s10 _ _ eKL)))
  have s913 := s912.trans s13
  -- the job
  have z0 : 0 ≤ sizeLine := by decide
  have z1 : 1 ≤ sizeLine := by decide
  have z4 : 4 ≤ sizeLine := by decide
  refine ⟨z0, fun i1 ni1 => ?_⟩
  have v1 := same_upd (o := .tup []) ni1
  refine ⟨_, rfl, cl, _, rfl, .inl ⟨SqL.of (v1 _ _ (s813 _ _ C8'.all)), fun t1 o1 nt1 od1 => ?_⟩⟩
  have v2 := same_upd (o := .frz o1 (.tup (([(c1, "k", true), (c2, "t", false), (c3, "n", true)] : List Col).map fun c => V.ref c.1))) nt1
  refine ⟨z4, fun S1 nS1 => ?_⟩
  have v3 := same_upd (o := .tup [.str "a", .str "read", .ref i1, .ref t1]) nS1
  refine ⟨z1, fun i2 ni2 => ?_⟩
  have v4 := same_upd (o := .tup [.str "a"]) ni2
  refine ⟨_, rfl, z4, fun S2 nS2 => ?_⟩
  have v5 := same_upd (o := .tup [.str "s", .str "fold", .ref i2, .ref t]) nS2
  refine ⟨z2, fun st nst => ?_⟩
  have v6 := same_upd (o := .tup [.ref S1, .ref S2]) nst
  refine ⟨z2, fun job njob => ?_⟩
  have v7 := same_upd (o := .tup [.ref st, .str "s"]) njob
  have est := v7 _ _ (upd_same (H := upd (upd (upd (upd (upd H13 i1 (.tup [])) t1 (.frz o1 (.tup (([(c1, "k", true), (c2, "t", false), (c3, "n", true)] : List Col).map fun c => V.ref c.1)))) S1 (.tup [.str "a", .str "read", .ref i1, .ref t1])) i2 (.tup [.str "a"])) S2 (.tup [.str "s", .str "fold", .ref i2, .ref t])) (a := st) (o := .tup [.ref S1, .ref S2]))
  have eS2 := v7 _ _ (v6 _ _ upd_same)
  have ei2 := v7 _ _ (v6 _ _ (v5 _ _ upd_same))
  have eS1 := v7 _ _ (v6 _ _ (v5 _ _ (v4 _ _ upd_same)))
  have et1 := v7 _ _ (v6 _ _ (v5 _ _ (v4 _ _ (v3 _ _ upd_same))))
  have ei1 := v7 _ _ (v6 _ _ (v5 _ _ (v4 _ _ (v3 _ _ (v2 _ _ upd_same)))))
  have ej : upd (upd (upd (upd (upd (upd (upd H13 i1 (.tup [])) t1 (.frz o1 (.tup (([(c1, "k", true), (c2, "t", false), (c3, "n", true)] : List Col).map fun c => V.ref c.1)))) S1 (.tup [.str "a", .str "read", .ref i1, .ref t1])) i2 (.tup [.str "a"])) S2 (.tup [.str "s", .str "fold", .ref i2, .ref t])) st (.tup [.ref S1, .ref S2])) job (.tup [.ref st, .str "s"]) job = some (.tup [.ref st, .str "s"]) := upd_same
  have s13J := ((((((v1.trans v2).trans v3).trans v4).trans v5).trans v6).trans v7)
  generalize upd (upd (upd (upd (upd (upd (upd H13 i1 (.tup [])) t1 (.frz o1 (.tup (([(c1, "k", true), (c2, "t", false), (c3, "n", true)] : List Col).map fun c => V.ref c.1)))) S1 (.tup [.str "a", .str "read", .ref i1, .ref t1])) i2 (.tup [.str "a"])) S2 (.tup [.str "s", .str "fold", .ref i2, .ref t])) st (.tup [.ref S1, .ref S2])) job (.tup [.ref st, .str "s"]) = HJ at est eS2 ei2 eS1 et1 ei1 ej s13J
  have s8J := s813.trans s13J
  have s9J := s913.trans s13J
  have CJ := C8'.keep s8J
  have A1 : StpAt HJ S1 ⟨"a", [], .read cs21⟩ := ⟨i1, .ref t1, eS1, ei1, t1, [(c1, "k", true), (c2, "t", false), (c3, "n", true)], rfl, ⟨o1, od1, et1⟩, CJ.each, rfl⟩
  have A2 : StpAt HJ S2 ⟨"s", ["a"], .fold (ks.map (·.2)) (fs.map fcOf)⟩ := ⟨i2, .ref t, eS2, ei2, t, kt, ft, asOf fs, rfl, s8J _ _ et8, by
    have := s8J _ _ ekt8
    rw [List.map_map]
    exact this, by rw [asOf_refs]; exact s8J _ _ eft8, fun p hp => by
    obtain ⟨m, hm, rfl⟩ := List.mem_map.mp hp
    have hJ := (hfs8 m hm).keep fun c ys e => s8J _ _ e
    exact ⟨m.told, hJ.at_det, fto_of hJ⟩, asOf_fc fs⟩
  have hnd' : ((ks.map (·.2)).map (·.1) ++ fs.map FCol.name).Nodup := by
    rw [List.map_map]
    exact hnd
  obtain ⟨O2, run⟩ := run21 hkc hfs8 hnd' hne hl3
  have K1 : StpOk ⟨"a", [], .read cs21⟩ := ⟨by show 3 ≤ 100; decide, cs21_big, rfl⟩
  have K2 : StpOk ⟨"s", ["a"], .fold (ks.map (·.2)) (fs.map fcOf)⟩ := (law_step (nm := "s") (fun x hx => by
    rw [List.mem_singleton.mp hx]
    decide +kernel) O2 fun c hc => by
      rcases List.mem_append.mp hc with hc | hc
      · exact (by decide +kernel : ∀ c ∈ cs21, c.1 ∈ allNames) c (hkc c hc)
      · obtain ⟨m, hm, rfl⟩ := List.mem_map.mp hc
        obtain ⟨x, hx, rfl⟩ := List.mem_map.mp hm
        exact (by decide +kernel : ∀ n ∈ fnames, n ∈ allNames) x.name (hfs8 x hx).nm).1.1
  have eha13 : HJ ha = some (.lst (hs.map fun q => V.ref q.1)) := s13J _ _ eha13
  have hhsJ : ∀ q ∈ hs, HJ q.1 = some (.tup (q.2.map kV)) := fun q hq => s13J _ _ (s13 _ _ (s12 _ _ (hhs1 q hq)))
  have hsl : hs.length < 1000 := by
    have h8 := congrArg List.length ehs
    have h9 := (Tz.sortK_perm ((firsts ((rows.map (·.2)).map fun r => pickR r ((ks.map (·.2)).map at21))).filter (isHot ((ks.map (·.2)).map at21) (rows.map (·.2)) most))).length_eq
    have h7 := key_few ((ks.map (·.2)).map at21) (rows.map (·.2))
    have h6 := List.length_filter_le (isHot ((ks.map (·.2)).map at21) (rows.map (·.2)) most) (firsts ((rows.map (·.2)).map fun r => pickR r ((ks.map (·.2)).map at21)))
    rw [List.length_map] at h8 h7
    omega
  have hpc : (1 + pc : Int) = (((1 + pc).toNat : Nat) : Int) := by omega
  -- the three lists of hot keys
  refine ⟨_, rfl, Nat.zero_le _, fun e0 ne0 => ?_⟩
  have v8 := same_upd (o := .lst []) ne0
  refine srt _ _ _ rfl (s9J.trans v8) fun p3 N3 G3 w3 np3 ep3 hN3 ekN3 => ?_
  refine ⟨z3, fun tt ntt => ?_⟩
  have w4 := same_upd (o := .tup [.ref ha, .ref e0, .ref p3]) ntt
  have ett9 : upd G3 tt (.tup [.ref ha, .ref e0, .ref p3]) tt = some (.tup [.ref ha, .ref e0, .ref p3]) := upd_same
  have sJB := (v8.trans w3).trans w4
  have good : ∀ x ∈ [V.ref ha, V.ref e0, V.ref p3], ∃ (hx : Addr) (hs' : List (Addr × Row)), x = .ref hx ∧ upd G3 tt (.tup [.ref ha, .ref e0, .ref p3]) hx = some (.lst (hs'.map fun q => V.ref q.1)) ∧ (∀ q ∈ hs', upd G3 tt (.tup [.ref ha, .ref e0, .ref p3]) q.1 = some (.tup (q.2.map kV))) ∧ hs'.length < 1000 := fun x hx => by
    rcases List.mem_cons.mp hx with rfl | hx
    · exact ⟨ha, hs, rfl, sJB _ _ eha13, fun q hq => sJB _ _ (hhsJ q hq), hsl⟩
    rcases List.mem_cons.mp hx with rfl | hx
    · exact ⟨e0, [], rfl, w4 _ _ (w3 _ _ upd_same), fun q hq => (by cases hq), by decide⟩
    rw [List.mem_singleton.mp hx]
    refine ⟨p3, N3, rfl, w4 _ _ ep3, fun q hq => w4 _ _ (hN3 q hq), ?_⟩
    have h8 := congrArg List.length ekN3
    have h9 := (Tz.sortK_perm (firsts ((rows.map (·.2)).map fun r => pickR r ((ks.map (·.2)).map at21)))).length_eq
    have h7 := key_few ((ks.map (·.2)).map at21) (rows.map (·.2))
    rw [List.length_map] at h8 h7
    omega
  generalize upd G3 tt (.tup [.ref ha, .ref e0, .ref p3]) = HB at w4 ett9 sJB good
  have s8B := s8J.trans sJB
  have s9B := s9J.trans sJB
  have asl : (asOf fs).length ≤ 3 := by
    unfold asOf
    rw [List.length_map]
    exact hl3
  have p0 : 0 < (1 + pc).toNat := by omega
  have p9 : (1 + pc).toNat ≤ 100 := by omega
  refine ⟨tt, rfl, ⟨_, SqT.of ett9⟩, for_tup (K := K) (xs := [.ref ha, .ref e0, .ref p3]) (fun i σ G => ∃ y6 y12 y13 y16 y17, σ = [some (.ref a), some (.ref d), some (.ref cl), some (.ref t), some (.ref f), some (.ref RL), y6, some (.ref nt), some (.int most), some (.int (1 + pc)), some (.ref pl), some (.ref KL), y12, y13, some (.ref ha), some (.ref job), y16, y17] ∧ Same HB G)
    ⟨_, _, _, _, _, rfl, Same.refl _⟩ (fun i σ G _ ⟨_, _, _, _, _, _, sm⟩ => SqT.of (sm _ _ ett9)) ?_ ?_⟩
  · rintro i x σ G hx ⟨y6, y12, y13, y16, y17, rfl, sm⟩
    obtain ⟨hx9, hs', rfl, g1, g2, g3⟩ := good x (List.mem_of_getElem? hx)
    have s8G := s8B.trans sm
    refine ⟨_, rfl, _, rfl, _, rfl, _, rfl, _, rfl, RL, t, kt, ft, nt, hx9, cs21, rows, (ks.map (·.2)).map (·.1), (ks.map (·.2)).map at21, asOf fs, hs', (1 + pc).toNat, congrArg (fun z : Int => [V.ref RL, V.ref t, V.ref nt, V.ref hx9, V.int z]) hpc, SqL.of (s8G _ _ eRL8), hR8.same s8G, few, lay8, SqT.of (s8G _ _ et8), SqT.of (s8G _ _ ekt8'), (flds_of (K := K) hfs8 eft8).same s8G, asl, foks_of hfs8, SqT.of (s8G _ _ ent8), cs21_nd, by decide, hpos, kl3, SqL.of (sm _ _ g1), fun q hq => sm _ _ (g2 q hq), g3, p0, p9, fun T1 G1 res1 x1 n1' e1' r1 k1 => ?_⟩
    have sJ1 := (sJB.trans sm).trans x1
    have s81 := s8G.trans x1
    refine ⟨_, rfl, fun dd ndd => ⟨_, rfl, upd_same, [(.inr "a", .ref RL)], rfl, by show 1 ≤ 15; decide, ?_⟩⟩
    rw [upd_upd]
    have x2 := same_upd (o := .dK (mergeK [] [((.inr "a" : L2.Key), V.ref RL)])) ndd
    have edd : upd G1 dd (.dK (mergeK [] [((.inr "a" : L2.Key), V.ref RL)])) dd = some (.dK [(.inr "a", .ref RL)]) := upd_same
    generalize upd G1 dd (.dK (mergeK [] [((.inr "a" : L2.Key), V.ref RL)])) = G2 at x2 edd
    have sJ2 := sJ1.trans x2
    have s82 := s81.trans x2
    refine ⟨job, dd, st, S1, S2, RL, cs21, ks.map (·.2), outs21 (ks.map (·.2)) fs, fs.map fcOf, (ks.map (·.2)).map at21, rows, rfl, sJ2 _ _ ej, sJ2 _ _ est, A1.keep (same_t sJ2) (same_f sJ2), A2.keep (same_t sJ2) (same_f sJ2), K1, K2, run, edd, SqL.of (s82 _ _ eRL8), hR8.same s82, few, by decide, cs21_nd, fun e => hne (List.map_eq_nil_iff.mp e), by rw [List.length_map]; exact hl3, fun m hm => by
      obtain ⟨z, hz, rfl⟩ := List.mem_map.mp hm
      exact fok_of (hfs8 z hz), hpos, by rw [List.length_map]; omega, fun T2 G3' res2 x3 n3 e3 r3 k3 => ?_⟩
    have k12 : res1.map (·.2) = res2.map (·.2) := by rw [k1, k3, asOf_fc]
    have s83 := s82.trans x3
    obtain ⟨R1, hR1⟩ : ∃ R1 : List Row, R1 = res1.map (·.2) := ⟨_, rfl⟩
    have d1 : Dp K G3' (.ref T1) (.list (R1.map Tz.kD)) := by
      rw [hR1]
      exact .lst (SqL.of ((x2.trans x3) _ _ e1')) (dp_rows fun q hq => seqT_same (x2.trans x3) (r1 q hq))
    have d2 : Dp K G3' (.ref T2) (.list (R1.map Tz.kD)) := by
      rw [hR1, k12]
      exact .lst (SqL.of e3) (dp_rows r3)
    refine ⟨_, _, d1, d2, plain_ks _, plain_ks _, by have := keys_dep R1; show PyData.depthAll _ + 1 ≤ 40; omega, _, rfl, ?_⟩
    rw [eqv_rows]
    refine ifF' rfl ?_
    have s3G := ((sm.trans x1).trans x2).trans x3
    refine ⟨_, rfl, _, rfl, t, _, 0, _, rfl, rfl, SqT.of (s83 _ _ et8), rfl, _, rfl, _, rfl, _, rfl, RL, kt, nt, hx9, cs21, rows, (ks.map (·.2)).map (·.1), (ks.map (·.2)).map at21, hs', (1 + pc).toNat, congrArg (fun z : Int => [V.ref RL, V.ref kt, V.ref nt, V.ref hx9, V.int z]) hpc, SqL.of (s83 _ _ eRL8), hR8.same s83, few, SqT.of (s83 _ _ ekt8'), SqT.of (s83 _ _ ent8), cs21_nd, by decide, hpos, kl3, SqL.of (s3G _ _ g1), fun q hq => s3G _ _ (g2 q hq), g3, p0, p9, fun G4 m x4 lo hi2 _ => ?_⟩
    have s84 := s83.trans x4
    have c1 : decide (-(-(((rows.map fun p => V.ref p.1).length : Nat) : Int) / (1 + pc)) ≤ (m : Int)) = true := by
      rw [List.length_map, hpc, upDiv_neg p0]
      exact decide_eq_true (by omega)
    refine ⟨_, rfl, RL, _, rfl, .inl (SqL.of (s84 _ _ eRL8)), _, rfl, _, rfl, _, _, rfl, rfl, ⟨by omega, by omega⟩, _, rfl, _, rfl, _, _, rfl, rfl, _, rfl, ifT' c1 ?_⟩
    have c2 : decide ((m : Int) ≤ (((rows.map fun p => V.ref p.1).length : Nat) : Int)) = true := by
      rw [List.length_map]
      exact decide_eq_true (by omega)
    refine ⟨_, rfl, RL, _, rfl, .inl (SqL.of (s84 _ _ eRL8)), _, _, rfl, rfl, _, rfl, ?_⟩
    rw [c2]
    refine ifF' rfl ?_
    exact ⟨_, _, _, _, _, rfl, s3G.trans x4⟩
  · rintro σ G ⟨y6, y12, y13, y16, y17, rfl, sm⟩
    have s8G := s8B.trans sm
    refine ⟨_, rfl, _, rfl, t, _, 0, _, rfl, rfl, SqT.of (s8G _ _ et8), rfl, _, rfl, ?_⟩
    refine srt _ _ _ rfl (s9B.trans sm) fun p5 N5 G5 w5 np5 ep5 hN5 ekN5 => ?_
    have s85 := s8G.trans w5
    have len5 : N5.length < 1000 := by
      have h8 := congrArg List.length ekN5
      have h9 := (Tz.sortK_perm (firsts ((rows.map (·.2)).map fun r => pickR r ((ks.map (·.2)).map at21)))).length_eq
      have h7 := key_few ((ks.map (·.2)).map at21) (rows.map (·.2))
      rw [List.length_map] at h8 h7
      omega
    refine ⟨_, rfl, RL, kt, nt, p5, cs21, rows, (ks.map (·.2)).map (·.1), (ks.map (·.2)).map at21, N5, (1 + pc).toNat, congrArg (fun z : Int => [V.ref RL, V.ref kt, V.ref nt, V.ref p5, V.int z]) hpc, SqL.of (s85 _ _ eRL8), hR8.same s85, few, SqT.of (s85 _ _ ekt8'), SqT.of (s85 _ _ ent8), cs21_nd, by decide, hpos, kl3, SqL.of ep5, hN5, len5, p0, p9, fun G6 m x6 lo hi2 all => ?_⟩
    have em := all fun r hr => by
      rw [ekN5, (Tz.sortK_perm _).mem_iff, mem_firsts]
      exact List.mem_map.mpr ⟨r.2, List.mem_map.mpr ⟨r, hr, rfl⟩, rfl⟩
    have s86 := s85.trans x6
    refine ⟨_, rfl, RL, _, rfl, .inl (SqL.of (s86 _ _ eRL8)), _, rfl, _, rfl, _, _, rfl, rfl, ⟨by omega, by omega⟩, _, rfl, rfl, ?_⟩
    have c3 : decide (V.int (m : Int) = V.int (-(-(((rows.map fun p => V.ref p.1).length : Nat) : Int) / (1 + pc)))) = true := by
      rw [List.length_map, hpc, upDiv_neg p0, em]
      exact decide_eq_true rfl
    have h0 := q G6
    rw [← c3] at h0
    exact h0
end
end Kx

namespace Kx
open PySem PySem.Spec PyProof.Rows L2
abbrev sLaw : Stmt := s_law21
abbrev spLaw (K : PySem.W.Frag) : Sp := spLaw21 K
section
variable {P : Program} {w : World} {K : PySem.W.Frag} {mg : Str → Option Value} {base : Heap} {f : Addr} {fd : FuncData} {k : Nat}
theorem no_def {sp : Sp} {ps : List Str} (h : ∀ vs H Q E, ¬ sp vs H Q E) : FnOk P w K mg base CX0 k f fd ps sp :=
  ⟨fun vs H Q E z => absurd z (h vs H Q E), fun A outer s H args us vs Q E _ _ _ _ z => absurd z (h vs H Q E)⟩
theorem no_kind : FnOk P w K mg base CX0 k f fd ["told", "kinds"] (spKind 0) := no_def fun vs H Q E ⟨_, _, _, e, _, _, _, h, _⟩ => absurd e.dep_pos (by omega)
theorem no_worth : FnOk P w K mg base CX0 k f fd ["told", "places", "row"] (spWorth 0) := no_def fun vs H Q E ⟨_, _, _, _, _, e, _, _, _, _, _, _, _, _, h, _⟩ => absurd e.dep_pos (by omega)
theorem no_int : FnOk P w K mg base CX0 k f fd ["draw", "columns", "deep"] (spInt 0) := no_def fun vs H Q E ⟨_, _, _, _, _, _, _, _, _, _, _, _, _, h0, h1, _⟩ => by omega
end
/-- an error of the class at S is what «except S» names -/
theorem exm_own {K : PySem.W.Frag} {S : Addr} (h1 : PySem.W.subIn K (.ref S) (.type "BaseException") = some true) (h2 : PySem.W.isClsIn K S = true) (h3 : PySem.W.typeIn K (.ref S) = some (.type "type")) (h4 : PySem.W.subIn K (.ref S) (.ref S) = some true) : PySem.W.exmOne K (.ref S) (.ref S) = some true := by
  have sub : (PySem.W.subIn K (.ref S) (.type "BaseException") == some true) = true := by rw [h1] <;> rfl
  have cls : ((PySem.W.clsIn K S).isSome && PySem.W.typeIn K (.ref S) == some (.type "type")) = true := by
    rw [show (PySem.W.clsIn K S).isSome = true from h2, h3] <;> rfl
  show (if (PySem.W.subIn K (.ref S) (.type "BaseException") == some true) = true then (if ((PySem.W.clsIn K S).isSome && PySem.W.typeIn K (.ref S) == some (.type "type")) = true then PySem.W.subIn K (.ref S) (.ref S) else none) else none) = some true
  rw [if_pos sub, if_pos cls, h4]
theorem all_mk {l : PySem.W.OpenLaw} {w : World} {K : PySem.W.Frag} {h : Heap} {mg : Str → Option Value} {fa : Addr} (X : K.In h) (G : h.Ns mainGlobals mg) (hfa : mg "law" = some (.ref fa))
    {f1 f2 f3 f4 f5 f6 f7 f8 f9 f10 f11 f12 f13 f14 f15 f16 f17 f18 f19 f20 f21 f22 f23 f24 f25 f26 f27 f28 f29 f30 f31 f32 f33 f34 f35 f36 f37 f38 f39 f40 f41 f42 f43 f44 f45 f46 f47 f48 f49 f50 f51 f52 f53 f54 f55 f56 f57 : Addr} {od1 an1 od2 an2 od3 an3 od4 an4 od5 an5 od6 an6 od7 an7 od8 an8 od9 an9 od10 an10 od11 an11 od12 an12 od13 an13 od14 an14 od15 an15 od16 an16 od17 an17 od18 an18 od19 an19 od20 an20 od21 an21 od22 an22 od23 an23 od24 an24 od25 an25 od26 an26 od27 an27 od28 an28 od29 an29 od30 an30 od31 an31 od32 an32 od33 an33 od34 an34 od35 an35 od36 an36 od37 an37 od38 an38 od39 an39 od40 an40 od41 an41 od42 an42 od43 an43 od44 an44 od45 an45 od46 an46 od47 an47 od48 an48 od49 an49 od50 an50 od51 an51 od52 an52 od53 an53 od54 an54 od55 an55 od56 an56 od57 an57 : Option Addr} {sl1 sl2 sl3 sl4 sl5 sl6 sl7 sl8 sl9 sl10 sl11 sl12 sl13 sl14 sl15 sl16 sl17 sl18 sl19 sl20 sl21 sl22 sl23 sl24 sl25 sl26 sl27 sl28 sl29 sl30 sl31 sl32 sl33 sl34 sl35 sl36 sl37 sl38 sl39 sl40 sl41 sl42 sl43 sl44 sl45 sl46 sl47 sl48 sl49 sl50 sl51 sl52 sl53 sl54 sl55 sl56 sl57 : Array (Option Value)} {oc1 kV1 dc1 pm1 cd1 ct1 oc2 kV2 dc2 pm2 cd2 ct2 oc3 kV3 dc3 pm3 cd3 ct3 oc4 kV4 dc4 pm4 cd4 ct4 oc5 kV5 dc5 pm5 cd5 ct5 oc6 kV6 dc6 pm6 cd6 ct6 oc7 kV7 dc7 pm7 cd7 ct7 oc8 kV8 dc8 pm8 cd8 ct8 oc9 kV9 dc9 pm9 cd9 ct9 oc10 kV10 dc10 pm10 cd10 ct10 oc11 kV11 dc11 pm11 cd11 ct11 oc12 kV12 dc12 pm12 cd12 ct12 oc13 kV13 dc13 pm13 cd13 ct13 oc14 kV14 dc14 pm14 cd14 ct14 oc15 kV15 dc15 pm15 cd15 ct15 oc16 kV16 dc16 pm16 cd16 ct16 oc17 kV17 dc17 pm17 cd17 ct17 oc18 kV18 dc18 pm18 cd18 ct18 oc19 kV19 dc19 pm19 cd19 ct19 oc20 kV20 dc20 pm20 cd20 ct20 oc21 kV21 dc21 pm21 cd21 ct21 oc22 kV22 dc22 pm22 cd22 ct22 oc23 kV23 dc23 pm23 cd23 ct23 oc24 kV24 dc24 pm24 cd24 ct24 oc25 kV25 dc25 pm25 cd25 ct25 oc26 kV26 dc26 pm26 cd26 ct26 oc27 kV27 dc27 pm27 cd27 ct27 oc28 kV28 dc28 pm28 cd28 ct28 oc29 kV29 dc29 pm29 cd29 ct29 oc30 kV30 dc30 pm30 cd30 ct30 oc31 kV31 dc31 pm31 cd31 ct31 oc32 kV32 dc32 pm32 cd32 ct32 oc33 kV33 dc33 pm33 cd33 ct33 oc34 kV34 dc34 pm34 cd34 ct34 oc35 kV35 dc35 pm35 cd35 ct35 oc36 kV36 dc36 pm36 cd36 ct36 oc37 kV37 dc37 pm37 cd37 ct37 oc38 kV38 dc38 pm38 cd38 ct38 oc39 kV39 dc39 pm39 cd39 ct39 oc40 kV40 dc40 pm40 cd40 ct40 oc41 kV41 dc41 pm41 cd41 ct41 oc42 kV42 dc42 pm42 cd42 ct42 oc43 kV43 dc43 pm43 cd43 ct43 oc44 kV44 dc44 pm44 cd44 ct44 oc45 kV45 dc45 pm45 cd45 ct45 oc46 kV46 dc46 pm46 cd46 ct46 oc47 kV47 dc47 pm47 cd47 ct47 oc48 kV48 dc48 pm48 cd48 ct48 oc49 kV49 dc49 pm49 cd49 ct49 oc50 kV50 dc50 pm50 cd50 ct50 oc51 kV51 dc51 pm51 cd51 ct51 oc52 kV52 dc52 pm52 cd52 ct52 oc53 kV53 dc53 pm53 cd53 ct53 oc54 kV54 dc54 pm54 cd54 ct54 oc55 kV55 dc55 pm55 cd55 ct55 oc56 kV56 dc56 pm56 cd56 ct56 oc57 kV57 dc57 pm57 cd57 ct57 : Value} {u1 u2 u3 u4 u5 : Tok} {C fI N BE dl dc : Addr} {nm qn : Str} {bs : List Value} {sn : List Str} {sub : List Value} {ab : Bool} {col : Option Bool} {dd odI anI : Option Addr} {n0 n1 n2 n3 n5 : Option Value} {slI : Array (Option Value)} {ocI dcI pmI cdI ctI : Value} {es es2 : Array DictEntry} {nn nn2 : Nat} {uCmp w1 w2 w3 w4 w5 w6 w7 w8 w9 w10 w11 w12 w13 : Tok}
    (a1 : PySem.W.nsIn K mainGlobals "wrapped" = some (some (.ref f1))) (l1 : K.lookup f1 = some ⟨oc1, od1, .func (PySem.W.fnOf "wrapped" "wrapped" (defArgs sWrap) (defBody sWrap) (defScope sWrap) .none kV1 dc1 pm1 an1 cd1 ct1), sl1⟩) (c1 : PySem.W.codeIn K cd1 "wrapped" = true) (k1 : PySem.W.keepIn K (.ref f1) = true)
    (a2 : PySem.W.nsIn K mainGlobals "is_of_kind" = some (some (.ref f2))) (l2 : K.lookup f2 = some ⟨oc2, od2, .func (PySem.W.fnOf "is_of_kind" "is_of_kind" (defArgs Kc.sOfKind) (defBody Kc.sOfKind) (defScope Kc.sOfKind) .none kV2 dc2 pm2 an2 cd2 ct2), sl2⟩) (c2 : PySem.W.codeIn K cd2 "is_of_kind" = true) (k2 : PySem.W.keepIn K (.ref f2) = true)
    (a3 : PySem.W.nsIn K mainGlobals "no_state" = some (some (.ref f3))) (l3 : K.lookup f3 = some ⟨oc3, od3, .func (PySem.W.fnOf "no_state" "no_state" (defArgs Kb.sNo) (defBody Kb.sNo) (defScope Kb.sNo) .none kV3 dc3 pm3 an3 cd3 ct3), sl3⟩) (c3 : PySem.W.codeIn K cd3 "no_state" = true) (k3 : PySem.W.keepIn K (.ref f3) = true)
    (a4 : PySem.W.nsIn K mainGlobals "one_state" = some (some (.ref f4))) (l4 : K.lookup f4 = some ⟨oc4, od4, .func (PySem.W.fnOf "one_state" "one_state" (defArgs Kb.sOne) (defBody Kb.sOne) (defScope Kb.sOne) .none kV4 dc4 pm4 an4 cd4 ct4), sl4⟩) (c4 : PySem.W.codeIn K cd4 "one_state" = true) (k4 : PySem.W.keepIn K (.ref f4) = true)
    (a5 : PySem.W.nsIn K mainGlobals "put_together" = some (some (.ref f5))) (l5 : K.lookup f5 = some ⟨oc5, od5, .func (PySem.W.fnOf "put_together" "put_together" (defArgs Kb.sPut) (defBody Kb.sPut) (defScope Kb.sPut) .none kV5 dc5 pm5 an5 cd5 ct5), sl5⟩) (c5 : PySem.W.codeIn K cd5 "put_together" = true) (k5 : PySem.W.keepIn K (.ref f5) = true)
    (a6 : PySem.W.nsIn K mainGlobals "state_told" = some (some (.ref f6))) (l6 : K.lookup f6 = some ⟨oc6, od6, .func (PySem.W.fnOf "state_told" "state_told" (defArgs Kb.sTold) (defBody Kb.sTold) (defScope Kb.sTold) .none kV6 dc6 pm6 an6 cd6 ct6), sl6⟩) (c6 : PySem.W.codeIn K cd6 "state_told" = true) (k6 : PySem.W.keepIn K (.ref f6) = true)
    (a7 : PySem.W.nsIn K mainGlobals "is_so" = some (some (.ref f7))) (l7 : K.lookup f7 = some ⟨oc7, od7, .func (PySem.W.fnOf "is_so" "is_so" (defArgs sIsSo) (defBody sIsSo) (defScope sIsSo) .none kV7 dc7 pm7 an7 cd7 ct7), sl7⟩) (c7 : PySem.W.codeIn K cd7 "is_so" = true) (k7 : PySem.W.keepIn K (.ref f7) = true)
    (a8 : PySem.W.nsIn K mainGlobals "counted" = some (some (.ref f8))) (l8 : K.lookup f8 = some ⟨oc8, od8, .func (PySem.W.fnOf "counted" "counted" (defArgs sCount) (defBody sCount) (defScope sCount) .none kV8 dc8 pm8 an8 cd8 ct8), sl8⟩) (c8 : PySem.W.codeIn K cd8 "counted" = true) (k8 : PySem.W.keepIn K (.ref f8) = true)
    (a9 : PySem.W.nsIn K mainGlobals "worth_of_two" = some (some (.ref f9))) (l9 : K.lookup f9 = some ⟨oc9, od9, .func (PySem.W.fnOf "worth_of_two" "worth_of_two" (defArgs sTwo) (defBody sTwo) (defScope sTwo) .none kV9 dc9 pm9 an9 cd9 ct9), sl9⟩) (c9 : PySem.W.codeIn K cd9 "worth_of_two" = true) (k9 : PySem.W.keepIn K (.ref f9) = true)
    (a10 : PySem.W.nsIn K mainGlobals "worth" = some (some (.ref f10))) (l10 : K.lookup f10 = some ⟨oc10, od10, .func (PySem.W.fnOf "worth" "worth" (defArgs sWorth) (defBody sWorth) (defScope sWorth) .none kV10 dc10 pm10 an10 cd10 ct10), sl10⟩) (c10 : PySem.W.codeIn K cd10 "worth" = true) (k10 : PySem.W.keepIn K (.ref f10) = true)
    (a11 : PySem.W.nsIn K mainGlobals "places_of" = some (some (.ref f11))) (l11 : K.lookup f11 = some ⟨oc11, od11, .func (PySem.W.fnOf "places_of" "places_of" (defArgs s_places_of) (defBody s_places_of) (defScope s_places_of) .none kV11 dc11 pm11 an11 cd11 ct11), sl11⟩) (c11 : PySem.W.codeIn K cd11 "places_of" = true) (k11 : PySem.W.keepIn K (.ref f11) = true)
    (a12 : PySem.W.nsIn K mainGlobals "values_at" = some (some (.ref f12))) (l12 : K.lookup f12 = some ⟨oc12, od12, .func (PySem.W.fnOf "values_at" "values_at" (defArgs s_values_at) (defBody s_values_at) (defScope s_values_at) .none kV12 dc12 pm12 an12 cd12 ct12), sl12⟩) (c12 : PySem.W.codeIn K cd12 "values_at" = true) (k12 : PySem.W.keepIn K (.ref f12) = true)
    (a13 : PySem.W.nsIn K mainGlobals "ats_of" = some (some (.ref f13))) (l13 : K.lookup f13 = some ⟨oc13, od13, .func (PySem.W.fnOf "ats_of" "ats_of" (defArgs s_ats_of) (defBody s_ats_of) (defScope s_ats_of) .none kV13 dc13 pm13 an13 cd13 ct13), sl13⟩) (c13 : PySem.W.codeIn K cd13 "ats_of" = true) (k13 : PySem.W.keepIn K (.ref f13) = true)
    (a14 : PySem.W.nsIn K mainGlobals "fold_value" = some (some (.ref f14))) (l14 : K.lookup f14 = some ⟨oc14, od14, .func (PySem.W.fnOf "fold_value" "fold_value" (defArgs s_fold_value) (defBody s_fold_value) (defScope s_fold_value) .none kV14 dc14 pm14 an14 cd14 ct14), sl14⟩) (c14 : PySem.W.codeIn K cd14 "fold_value" = true) (k14 : PySem.W.keepIn K (.ref f14) = true)
    (a15 : PySem.W.nsIn K mainGlobals "with_row" = some (some (.ref f15))) (l15 : K.lookup f15 = some ⟨oc15, od15, .func (PySem.W.fnOf "with_row" "with_row" (defArgs s_with_row) (defBody s_with_row) (defScope s_with_row) .none kV15 dc15 pm15 an15 cd15 ct15), sl15⟩) (c15 : PySem.W.codeIn K cd15 "with_row" = true) (k15 : PySem.W.keepIn K (.ref f15) = true)
    (a16 : PySem.W.nsIn K mainGlobals "states_by_key" = some (some (.ref f16))) (l16 : K.lookup f16 = some ⟨oc16, od16, .func (PySem.W.fnOf "states_by_key" "states_by_key" (defArgs s_states_by_key) (defBody s_states_by_key) (defScope s_states_by_key) .none kV16 dc16 pm16 an16 cd16 ct16), sl16⟩) (c16 : PySem.W.codeIn K cd16 "states_by_key" = true) (k16 : PySem.W.keepIn K (.ref f16) = true)
    (a17 : PySem.W.nsIn K mainGlobals "folded" = some (some (.ref f17))) (l17 : K.lookup f17 = some ⟨oc17, od17, .func (PySem.W.fnOf "folded" "folded" (defArgs s_folded) (defBody s_folded) (defScope s_folded) .none kV17 dc17 pm17 an17 cd17 ct17), sl17⟩) (c17 : PySem.W.codeIn K cd17 "folded" = true) (k17 : PySem.W.keepIn K (.ref f17) = true)
    (a18 : PySem.W.nsIn K mainGlobals "rows_by_key" = some (some (.ref f18))) (l18 : K.lookup f18 = some ⟨oc18, od18, .func (PySem.W.fnOf "rows_by_key" "rows_by_key" (defArgs s_rows_by_key) (defBody s_rows_by_key) (defScope s_rows_by_key) .none kV18 dc18 pm18 an18 cd18 ct18), sl18⟩) (c18 : PySem.W.codeIn K cd18 "rows_by_key" = true) (k18 : PySem.W.keepIn K (.ref f18) = true)
    (a19 : PySem.W.nsIn K mainGlobals "step_rows" = some (some (.ref f19))) (l19 : K.lookup f19 = some ⟨oc19, od19, .func (PySem.W.fnOf "step_rows" "step_rows" (defArgs s_step_rows) (defBody s_step_rows) (defScope s_step_rows) .none kV19 dc19 pm19 an19 cd19 ct19), sl19⟩) (c19 : PySem.W.codeIn K cd19 "step_rows" = true) (k19 : PySem.W.keepIn K (.ref f19) = true)
    (a20 : PySem.W.nsIn K mainGlobals "plainly" = some (some (.ref f20))) (l20 : K.lookup f20 = some ⟨oc20, od20, .func (PySem.W.fnOf "plainly" "plainly" (defArgs s_plainly) (defBody s_plainly) (defScope s_plainly) .none kV20 dc20 pm20 an20 cd20 ct20), sl20⟩) (c20 : PySem.W.codeIn K cd20 "plainly" = true) (k20 : PySem.W.keepIn K (.ref f20) = true)
    (a21 : PySem.W.nsIn K mainGlobals "row_states" = some (some (.ref f21))) (l21 : K.lookup f21 = some ⟨oc21, od21, .func (PySem.W.fnOf "row_states" "row_states" (defArgs s_row_states) (defBody s_row_states) (defScope s_row_states) .none kV21 dc21 pm21 an21 cd21 ct21), sl21⟩) (c21 : PySem.W.codeIn K cd21 "row_states" = true) (k21 : PySem.W.keepIn K (.ref f21) = true)
    (a22 : PySem.W.nsIn K mainGlobals "states_together" = some (some (.ref f22))) (l22 : K.lookup f22 = some ⟨oc22, od22, .func (PySem.W.fnOf "states_together" "states_together" (defArgs s_states_together) (defBody s_states_together) (defScope s_states_together) .none kV22 dc22 pm22 an22 cd22 ct22), sl22⟩) (c22 : PySem.W.codeIn K cd22 "states_together" = true) (k22 : PySem.W.keepIn K (.ref f22) = true)
    (a23 : PySem.W.nsIn K mainGlobals "together" = some (some (.ref f23))) (l23 : K.lookup f23 = some ⟨oc23, od23, .func (PySem.W.fnOf "together" "together" (defArgs s_together) (defBody s_together) (defScope s_together) .none kV23 dc23 pm23 an23 cd23 ct23), sl23⟩) (c23 : PySem.W.codeIn K cd23 "together" = true) (k23 : PySem.W.keepIn K (.ref f23) = true)
    (a24 : PySem.W.nsIn K mainGlobals "rows_told" = some (some (.ref f24))) (l24 : K.lookup f24 = some ⟨oc24, od24, .func (PySem.W.fnOf "rows_told" "rows_told" (defArgs s_rows_told) (defBody s_rows_told) (defScope s_rows_told) .none kV24 dc24 pm24 an24 cd24 ct24), sl24⟩) (c24 : PySem.W.codeIn K cd24 "rows_told" = true) (k24 : PySem.W.keepIn K (.ref f24) = true)
    (a25 : PySem.W.nsIn K mainGlobals "value_sum" = some (some (.ref f25))) (l25 : K.lookup f25 = some ⟨oc25, od25, .func (PySem.W.fnOf "value_sum" "value_sum" (defArgs s_value_sum) (defBody s_value_sum) (defScope s_value_sum) .none kV25 dc25 pm25 an25 cd25 ct25), sl25⟩) (c25 : PySem.W.codeIn K cd25 "value_sum" = true) (k25 : PySem.W.keepIn K (.ref f25) = true)
    (a26 : PySem.W.nsIn K mainGlobals "key_sum" = some (some (.ref f26))) (l26 : K.lookup f26 = some ⟨oc26, od26, .func (PySem.W.fnOf "key_sum" "key_sum" (defArgs s_key_sum) (defBody s_key_sum) (defScope s_key_sum) .none kV26 dc26 pm26 an26 cd26 ct26), sl26⟩) (c26 : PySem.W.codeIn K cd26 "key_sum" = true) (k26 : PySem.W.keepIn K (.ref f26) = true)
    (a27 : PySem.W.nsIn K mainGlobals "name_places" = some (some (.ref f27))) (l27 : K.lookup f27 = some ⟨oc27, od27, .func (PySem.W.fnOf "name_places" "name_places" (defArgs s_name_places) (defBody s_name_places) (defScope s_name_places) .none kV27 dc27 pm27 an27 cd27 ct27), sl27⟩) (c27 : PySem.W.codeIn K cd27 "name_places" = true) (k27 : PySem.W.keepIn K (.ref f27) = true)
    (a28 : PySem.W.nsIn K mainGlobals "hot_keys" = some (some (.ref f28))) (l28 : K.lookup f28 = some ⟨oc28, od28, .func (PySem.W.fnOf "hot_keys" "hot_keys" (defArgs s_hot_keys2) (defBody s_hot_keys2) (defScope s_hot_keys2) .none kV28 dc28 pm28 an28 cd28 ct28), sl28⟩) (c28 : PySem.W.codeIn K cd28 "hot_keys" = true) (k28 : PySem.W.keepIn K (.ref f28) = true)
    (a29 : PySem.W.nsIn K mainGlobals "dealt_rows" = some (some (.ref f29))) (l29 : K.lookup f29 = some ⟨oc29, od29, .func (PySem.W.fnOf "dealt_rows" "dealt_rows" (defArgs s_dealt_rows) (defBody s_dealt_rows) (defScope s_dealt_rows) .none kV29 dc29 pm29 an29 cd29 ct29), sl29⟩) (c29 : PySem.W.codeIn K cd29 "dealt_rows" = true) (k29 : PySem.W.keepIn K (.ref f29) = true)
    (a30 : PySem.W.nsIn K mainGlobals "fold_in_two" = some (some (.ref f30))) (l30 : K.lookup f30 = some ⟨oc30, od30, .func (PySem.W.fnOf "fold_in_two" "fold_in_two" (defArgs s_fold_in_two) (defBody s_fold_in_two) (defScope s_fold_in_two) .none kV30 dc30 pm30 an30 cd30 ct30), sl30⟩) (c30 : PySem.W.codeIn K cd30 "fold_in_two" = true) (k30 : PySem.W.keepIn K (.ref f30) = true)
    (a31 : PySem.W.nsIn K mainGlobals "most_in_piece" = some (some (.ref f31))) (l31 : K.lookup f31 = some ⟨oc31, od31, .func (PySem.W.fnOf "most_in_piece" "most_in_piece" (defArgs s_most_in_piece) (defBody s_most_in_piece) (defScope s_most_in_piece) .none kV31 dc31 pm31 an31 cd31 ct31), sl31⟩) (c31 : PySem.W.codeIn K cd31 "most_in_piece" = true) (k31 : PySem.W.keepIn K (.ref f31) = true)
    (a32 : PySem.W.nsIn K mainGlobals "kind_of_two" = some (some (.ref f32))) (l32 : K.lookup f32 = some ⟨oc32, od32, .func (PySem.W.fnOf "kind_of_two" "kind_of_two" (defArgs s_two) (defBody s_two) (defScope s_two) .none kV32 dc32 pm32 an32 cd32 ct32), sl32⟩) (c32 : PySem.W.codeIn K cd32 "kind_of_two" = true) (k32 : PySem.W.keepIn K (.ref f32) = true)
    (a33 : PySem.W.nsIn K mainGlobals "kind_of" = some (some (.ref f33))) (l33 : K.lookup f33 = some ⟨oc33, od33, .func (PySem.W.fnOf "kind_of" "kind_of" (defArgs s_kind) (defBody s_kind) (defScope s_kind) .none kV33 dc33 pm33 an33 cd33 ct33), sl33⟩) (c33 : PySem.W.codeIn K cd33 "kind_of" = true) (k33 : PySem.W.keepIn K (.ref f33) = true)
    (a34 : PySem.W.nsIn K mainGlobals "check_there" = some (some (.ref f34))) (l34 : K.lookup f34 = some ⟨oc34, od34, .func (PySem.W.fnOf "check_there" "check_there" (defArgs s_check_there) (defBody s_check_there) (defScope s_check_there) .none kV34 dc34 pm34 an34 cd34 ct34), sl34⟩) (c34 : PySem.W.codeIn K cd34 "check_there" = true) (k34 : PySem.W.keepIn K (.ref f34) = true)
    (a35 : PySem.W.nsIn K mainGlobals "unlike_columns" = some (some (.ref f35))) (l35 : K.lookup f35 = some ⟨oc35, od35, .func (PySem.W.fnOf "unlike_columns" "unlike_columns" (defArgs s_unlike_columns) (defBody s_unlike_columns) (defScope s_unlike_columns) .none kV35 dc35 pm35 an35 cd35 ct35), sl35⟩) (c35 : PySem.W.codeIn K cd35 "unlike_columns" = true) (k35 : PySem.W.keepIn K (.ref f35) = true)
    (a36 : PySem.W.nsIn K mainGlobals "columns_of_read" = some (some (.ref f36))) (l36 : K.lookup f36 = some ⟨oc36, od36, .func (PySem.W.fnOf "columns_of_read" "columns_of_read" (defArgs s_columns_of_read) (defBody s_columns_of_read) (defScope s_columns_of_read) .none kV36 dc36 pm36 an36 cd36 ct36), sl36⟩) (c36 : PySem.W.codeIn K cd36 "columns_of_read" = true) (k36 : PySem.W.keepIn K (.ref f36) = true)
    (a37 : PySem.W.nsIn K mainGlobals "columns_of_filter" = some (some (.ref f37))) (l37 : K.lookup f37 = some ⟨oc37, od37, .func (PySem.W.fnOf "columns_of_filter" "columns_of_filter" (defArgs s_columns_of_filter) (defBody s_columns_of_filter) (defScope s_columns_of_filter) .none kV37 dc37 pm37 an37 cd37 ct37), sl37⟩) (c37 : PySem.W.codeIn K cd37 "columns_of_filter" = true) (k37 : PySem.W.keepIn K (.ref f37) = true)
    (a38 : PySem.W.nsIn K mainGlobals "columns_of_map" = some (some (.ref f38))) (l38 : K.lookup f38 = some ⟨oc38, od38, .func (PySem.W.fnOf "columns_of_map" "columns_of_map" (defArgs s_columns_of_map) (defBody s_columns_of_map) (defScope s_columns_of_map) .none kV38 dc38 pm38 an38 cd38 ct38), sl38⟩) (c38 : PySem.W.codeIn K cd38 "columns_of_map" = true) (k38 : PySem.W.keepIn K (.ref f38) = true)
    (a39 : PySem.W.nsIn K mainGlobals "kind_of_fold" = some (some (.ref f39))) (l39 : K.lookup f39 = some ⟨oc39, od39, .func (PySem.W.fnOf "kind_of_fold" "kind_of_fold" (defArgs s_kind_of_fold) (defBody s_kind_of_fold) (defScope s_kind_of_fold) .none kV39 dc39 pm39 an39 cd39 ct39), sl39⟩) (c39 : PySem.W.codeIn K cd39 "kind_of_fold" = true) (k39 : PySem.W.keepIn K (.ref f39) = true)
    (a40 : PySem.W.nsIn K mainGlobals "columns_of_fold" = some (some (.ref f40))) (l40 : K.lookup f40 = some ⟨oc40, od40, .func (PySem.W.fnOf "columns_of_fold" "columns_of_fold" (defArgs s_columns_of_fold) (defBody s_columns_of_fold) (defScope s_columns_of_fold) .none kV40 dc40 pm40 an40 cd40 ct40), sl40⟩) (c40 : PySem.W.codeIn K cd40 "columns_of_fold" = true) (k40 : PySem.W.keepIn K (.ref f40) = true)
    (a41 : PySem.W.nsIn K mainGlobals "columns_of_join" = some (some (.ref f41))) (l41 : K.lookup f41 = some ⟨oc41, od41, .func (PySem.W.fnOf "columns_of_join" "columns_of_join" (defArgs s_columns_of_join) (defBody s_columns_of_join) (defScope s_columns_of_join) .none kV41 dc41 pm41 an41 cd41 ct41), sl41⟩) (c41 : PySem.W.codeIn K cd41 "columns_of_join" = true) (k41 : PySem.W.keepIn K (.ref f41) = true)
    (a42 : PySem.W.nsIn K mainGlobals "columns_of_union" = some (some (.ref f42))) (l42 : K.lookup f42 = some ⟨oc42, od42, .func (PySem.W.fnOf "columns_of_union" "columns_of_union" (defArgs s_columns_of_union) (defBody s_columns_of_union) (defScope s_columns_of_union) .none kV42 dc42 pm42 an42 cd42 ct42), sl42⟩) (c42 : PySem.W.codeIn K cd42 "columns_of_union" = true) (k42 : PySem.W.keepIn K (.ref f42) = true)
    (a43 : PySem.W.nsIn K mainGlobals "columns_of_unlike" = some (some (.ref f43))) (l43 : K.lookup f43 = some ⟨oc43, od43, .func (PySem.W.fnOf "columns_of_unlike" "columns_of_unlike" (defArgs s_columns_of_unlike) (defBody s_columns_of_unlike) (defScope s_columns_of_unlike) .none kV43 dc43 pm43 an43 cd43 ct43), sl43⟩) (c43 : PySem.W.codeIn K cd43 "columns_of_unlike" = true) (k43 : PySem.W.keepIn K (.ref f43) = true)
    (a44 : PySem.W.nsIn K mainGlobals "columns_of_sort" = some (some (.ref f44))) (l44 : K.lookup f44 = some ⟨oc44, od44, .func (PySem.W.fnOf "columns_of_sort" "columns_of_sort" (defArgs s_columns_of_sort) (defBody s_columns_of_sort) (defScope s_columns_of_sort) .none kV44 dc44 pm44 an44 cd44 ct44), sl44⟩) (c44 : PySem.W.codeIn K cd44 "columns_of_sort" = true) (k44 : PySem.W.keepIn K (.ref f44) = true)
    (a45 : PySem.W.nsIn K mainGlobals "columns_of" = some (some (.ref f45))) (l45 : K.lookup f45 = some ⟨oc45, od45, .func (PySem.W.fnOf "columns_of" "columns_of" (defArgs s_columns_of) (defBody s_columns_of) (defScope s_columns_of) .none kV45 dc45 pm45 an45 cd45 ct45), sl45⟩) (c45 : PySem.W.codeIn K cd45 "columns_of" = true) (k45 : PySem.W.keepIn K (.ref f45) = true)
    (a46 : PySem.W.nsIn K mainGlobals "is_row" = some (some (.ref f46))) (l46 : K.lookup f46 = some ⟨oc46, od46, .func (PySem.W.fnOf "is_row" "is_row" (defArgs Kc.sIsRow) (defBody Kc.sIsRow) (defScope Kc.sIsRow) .none kV46 dc46 pm46 an46 cd46 ct46), sl46⟩) (c46 : PySem.W.codeIn K cd46 "is_row" = true) (k46 : PySem.W.keepIn K (.ref f46) = true)
    (a47 : PySem.W.nsIn K mainGlobals "are_rows" = some (some (.ref f47))) (l47 : K.lookup f47 = some ⟨oc47, od47, .func (PySem.W.fnOf "are_rows" "are_rows" (defArgs Kc.sAreRows) (defBody Kc.sAreRows) (defScope Kc.sAreRows) .none kV47 dc47 pm47 an47 cd47 ct47), sl47⟩) (c47 : PySem.W.codeIn K cd47 "are_rows" = true) (k47 : PySem.W.keepIn K (.ref f47) = true)
    (a48 : PySem.W.nsIn K mainGlobals "check_tables" = some (some (.ref f48))) (l48 : K.lookup f48 = some ⟨oc48, od48, .func (PySem.W.fnOf "check_tables" "check_tables" (defArgs s_check_tables) (defBody s_check_tables) (defScope s_check_tables) .none kV48 dc48 pm48 an48 cd48 ct48), sl48⟩) (c48 : PySem.W.codeIn K cd48 "check_tables" = true) (k48 : PySem.W.keepIn K (.ref f48) = true)
    (a49 : PySem.W.nsIn K mainGlobals "meaning" = some (some (.ref f49))) (l49 : K.lookup f49 = some ⟨oc49, od49, .func (PySem.W.fnOf "meaning" "meaning" (defArgs s_meaning) (defBody s_meaning) (defScope s_meaning) .none kV49 dc49 pm49 an49 cd49 ct49), sl49⟩) (c49 : PySem.W.codeIn K cd49 "meaning" = true) (k49 : PySem.W.keepIn K (.ref f49) = true)
    (a50 : PySem.W.nsIn K mainGlobals "_law_cell_at" = some (some (.ref f50))) (l50 : K.lookup f50 = some ⟨oc50, od50, .func (PySem.W.fnOf "_law_cell_at" "_law_cell_at" (defArgs sCell) (defBody sCell) (defScope sCell) .none kV50 dc50 pm50 an50 cd50 ct50), sl50⟩) (c50 : PySem.W.codeIn K cd50 "_law_cell_at" = true) (k50 : PySem.W.keepIn K (.ref f50) = true)
    (a51 : PySem.W.nsIn K mainGlobals "_law_draw" = some (some (.ref f51))) (l51 : K.lookup f51 = some ⟨oc51, od51, .func (PySem.W.fnOf "_law_draw" "_law_draw" (defArgs sDraw) (defBody sDraw) (defScope sDraw) .none kV51 dc51 pm51 an51 cd51 ct51), sl51⟩) (c51 : PySem.W.codeIn K cd51 "_law_draw" = true) (k51 : PySem.W.keepIn K (.ref f51) = true)
    (a52 : PySem.W.nsIn K mainGlobals "_law_number" = some (some (.ref f52))) (l52 : K.lookup f52 = some ⟨oc52, od52, .func (PySem.W.fnOf "_law_number" "_law_number" (defArgs sNumb) (defBody sNumb) (defScope sNumb) .none kV52 dc52 pm52 an52 cd52 ct52), sl52⟩) (c52 : PySem.W.codeIn K cd52 "_law_number" = true) (k52 : PySem.W.keepIn K (.ref f52) = true)
    (a53 : PySem.W.nsIn K mainGlobals "_law_next" = some (some (.ref f53))) (l53 : K.lookup f53 = some ⟨oc53, od53, .func (PySem.W.fnOf "_law_next" "_law_next" (defArgs sNext) (defBody sNext) (defScope sNext) .none kV53 dc53 pm53 an53 cd53 ct53), sl53⟩) (c53 : PySem.W.codeIn K cd53 "_law_next" = true) (k53 : PySem.W.keepIn K (.ref f53) = true)
    (a54 : PySem.W.nsIn K mainGlobals "_law_pick" = some (some (.ref f54))) (l54 : K.lookup f54 = some ⟨oc54, od54, .func (PySem.W.fnOf "_law_pick" "_law_pick" (defArgs sPick) (defBody sPick) (defScope sPick) .none kV54 dc54 pm54 an54 cd54 ct54), sl54⟩) (c54 : PySem.W.codeIn K cd54 "_law_pick" = true) (k54 : PySem.W.keepIn K (.ref f54) = true)
    (a55 : PySem.W.nsIn K mainGlobals "_law_int" = some (some (.ref f55))) (l55 : K.lookup f55 = some ⟨oc55, od55, .func (PySem.W.fnOf "_law_int" "_law_int" (defArgs sInt) (defBody sInt) (defScope sInt) .none kV55 dc55 pm55 an55 cd55 ct55), sl55⟩) (c55 : PySem.W.codeIn K cd55 "_law_int" = true) (k55 : PySem.W.keepIn K (.ref f55) = true)
    (a56 : PySem.W.nsIn K mainGlobals "_law_fold" = some (some (.ref f56))) (l56 : K.lookup f56 = some ⟨oc56, od56, .func (PySem.W.fnOf "_law_fold" "_law_fold" (defArgs s_law_fold) (defBody s_law_fold) (defScope s_law_fold) .none kV56 dc56 pm56 an56 cd56 ct56), sl56⟩) (c56 : PySem.W.codeIn K cd56 "_law_fold" = true) (k56 : PySem.W.keepIn K (.ref f56) = true)
    (a57 : PySem.W.nsIn K mainGlobals "law" = some (some (.ref f57))) (l57 : K.lookup f57 = some ⟨oc57, od57, .func (PySem.W.fnOf "law" "law" (defArgs sLaw) (defBody sLaw) (defScope sLaw) .none kV57 dc57 pm57 an57 cd57 ct57), sl57⟩) (c57 : PySem.W.codeIn K cd57 "law" = true) (k57 : PySem.W.keepIn K (.ref f57) = true)
    (z1 : PySem.W.nsIn K mainGlobals "len" = some none)
    (z2 : PySem.W.nsIn K mainGlobals "int" = some none)
    (z3 : PySem.W.nsIn K mainGlobals "range" = some none)
    (z4 : PySem.W.nsIn K mainGlobals "str" = some none)
    (z5 : PySem.W.nsIn K mainGlobals "tuple" = some none)
    (z6 : PySem.W.nsIn K mainGlobals "list" = some none)
    (z7 : PySem.W.nsIn K mainGlobals "dict" = some none)
    (z8 : PySem.W.nsIn K mainGlobals "all" = some none)
    (z9 : PySem.W.nsIn K mainGlobals "set" = some none)
    (z10 : PySem.W.nsIn K mainGlobals "sorted" = some none)
    (z11 : PySem.W.nsIn K mainGlobals "isinstance" = some none)
    (z12 : PySem.W.nsIn K mainGlobals "bool" = some none)
    (z13 : PySem.W.nsIn K mainGlobals "enumerate" = some none)
    (z14 : PySem.W.nsIn K mainGlobals "zip" = some none)
    (z15 : PySem.W.nsIn K mainGlobals "max" = some none)
    (z16 : PySem.W.nsIn K mainGlobals "ord" = some none)
    (g1 : PySem.W.nsIn K mainGlobals "LEAST_INT" = some (some (.int (-9223372036854775808) u1)))
    (g2 : PySem.W.nsIn K mainGlobals "GREATEST_INT" = some (some (.int (9223372036854775807) u2)))
    (g3 : PySem.W.nsIn K mainGlobals "FACTOR" = some (some (.int (1000003) u3)))
    (g4 : PySem.W.nsIn K mainGlobals "MOST_SUM" = some (some (.int (2305843009213693951) u4)))
    (g5 : PySem.W.nsIn K mainGlobals "MIXED" = some (some (.int (1024) u5)))
    (aC : PySem.W.nsIn K mainGlobals "BadJob" = some (some (.ref C)))
    (xL : K.lookup C = some (excClassObj nm qn C N bs [.ref BE, .type "Exception", .type "BaseException", .type "object"] true sn sub ab col dd n0 n1 n2 n3 n5 "Exception.__new__"))
    (sa : PySem.W.findIn K (.ref C) "__setattr__" = some (some (.builtin "object.__setattr__"))) (gat : PySem.W.findIn K (.ref C) "__getattribute__" = some (some (.builtin "BaseException.__getattribute__"))) (gg : PySem.W.findIn K (.ref C) "__getattr__" = some none) (nb : PySem.W.findIn K (.ref C) "name" = some none) (nw : PySem.W.findIn K (.ref C) "why" = some none)
    (ai : PySem.W.findIn K (.ref C) "__init__" = some (some (.ref fI))) (ti : PySem.W.typeIn K (.ref fI) = some (.type "function"))
    (li : K.lookup fI = some ⟨ocI, odI, .func (PySem.W.fnOf "__init__" "BadJob.__init__" (PySem.BadY.iA ⟨259, 17, 259, 21⟩ ⟨259, 23, 259, 27⟩ ⟨259, 29, 259, 32⟩) (PySem.BadY.iB ⟨260, 8, 260, 12⟩ ⟨260, 8, 260, 17⟩ ⟨260, 20, 260, 24⟩ ⟨260, 8, 260, 24⟩ ⟨261, 8, 261, 12⟩ ⟨261, 8, 261, 16⟩ ⟨261, 19, 261, 22⟩ ⟨261, 8, 261, 22⟩) PySem.BadY.iS .none .none dcI pmI anI cdI ctI), slI⟩) (ci : PySem.W.codeIn K cdI "BadJob.__init__" = true)
    (kC : PySem.W.keepIn K (.ref C) = true) (eC : PySem.W.subIn K (.ref C) (.type "BaseException") = some true) (tyC : PySem.W.typeIn K (.ref C) = some (.type "type")) (hC : PySem.W.hasDictIn K C = true) (iC : PySem.W.isClsIn K C = true) (sC : PySem.W.subIn K (.ref C) (.ref C) = some true)
    (gCmp : PySem.W.nsIn K mainGlobals "COMPARISON" = some (some (.int 4 uCmp))) (gD : PySem.W.nsIn K mainGlobals "LEVELS" = some (some (.ref dl))) (lD : K.lookup dl = some ⟨.type "dict", none, .dict es nn, #[]⟩) (o1 : PySem.W.nsIn K dl "or" = some (some (.int 1 w1))) (o2 : PySem.W.nsIn K dl "and" = some (some (.int 2 w2))) (o3 : PySem.W.nsIn K dl "=" = some (some (.int 4 w3))) (o4 : PySem.W.nsIn K dl "!=" = some (some (.int 4 w4))) (o5 : PySem.W.nsIn K dl "<" = some (some (.int 4 w5))) (o6 : PySem.W.nsIn K dl "<=" = some (some (.int 4 w6))) (o7 : PySem.W.nsIn K dl ">" = some (some (.int 4 w7))) (o8 : PySem.W.nsIn K dl ">=" = some (some (.int 4 w8))) (o9 : PySem.W.nsIn K dl "+" = some (some (.int 5 w9))) (o10 : PySem.W.nsIn K dl "-" = some (some (.int 5 w10))) (o11 : PySem.W.nsIn K dl "*" = some (some (.int 6 w11))) (o12 : PySem.W.nsIn K dl "/" = some (some (.int 6 w12))) (o13 : PySem.W.nsIn K dl "mod" = some (some (.int 6 w13))) (gK : PySem.W.KeysLit w.params es.toList)
    (gC2 : PySem.W.nsIn K mainGlobals "CHECKERS" = some (some (.ref dc))) (lC : K.lookup dc = some ⟨.type "dict", none, .dict es2 nn2, #[]⟩) (p1 : PySem.W.nsIn K dc "read" = some (some (.ref f36))) (p2 : PySem.W.nsIn K dc "filter" = some (some (.ref f37))) (p3 : PySem.W.nsIn K dc "map" = some (some (.ref f38))) (p4 : PySem.W.nsIn K dc "fold" = some (some (.ref f40))) (p5 : PySem.W.nsIn K dc "join" = some (some (.ref f41))) (p6 : PySem.W.nsIn K dc "union" = some (some (.ref f42))) (p7 : PySem.W.nsIn K dc "unlike" = some (some (.ref f43))) (p8 : PySem.W.nsIn K dc "sort" = some (some (.ref f44))) (gK2 : PySem.W.KeysLit w.params es2.toList) :
    ∃ fd : FuncData, (∀ (s : Shared) (v : Value), BindsTo s fd ⟨[v], []⟩ [("script", v)]) ∧ ∀ base : Heap, K.In base → base.Ns mainGlobals mg → FnOk l.prog w K mg base CX0 21 fa fd ["script"] (spLaw K) := by
  have e := hfa.symm.trans (PySem.W.mg_of X G a57)
  cases e
  have F1 := fun_mk (st := sWrap) l1 c1 k1
  have b1 := F1.binds (ps := ["number"]) fun _ _ _ _ _ _ us hl => match us, hl with | [_], _ => rfl
  have m1 := PySem.W.mg_of X G a1
  have F2 := fun_mk (st := Kc.sOfKind) l2 c2 k2
  have b2 := F2.binds (ps := ["thing", "kind"]) fun _ _ _ _ _ _ us hl => match us, hl with | [_, _], _ => rfl
  have m2 := PySem.W.mg_of X G a2
  have F3 := fun_mk (st := Kb.sNo) l3 c3 k3
  have b3 := F3.binds (ps := ["kind"]) fun _ _ _ _ _ _ us hl => match us, hl with | [_], _ => rfl
  have m3 := PySem.W.mg_of X G a3
  have F4 := fun_mk (st := Kb.sOne) l4 c4 k4
  have b4 := F4.binds (ps := ["kind", "value"]) fun _ _ _ _ _ _ us hl => match us, hl with | [_, _], _ => rfl
  have m4 := PySem.W.mg_of X G a4
  have F5 := fun_mk (st := Kb.sPut) l5 c5 k5
  have b5 := F5.binds (ps := ["kind", "one", "other"]) fun _ _ _ _ _ _ us hl => match us, hl with | [_, _, _], _ => rfl
  have m5 := PySem.W.mg_of X G a5
  have F6 := fun_mk (st := Kb.sTold) l6 c6 k6
  have b6 := F6.binds (ps := ["kind", "state"]) fun _ _ _ _ _ _ us hl => match us, hl with | [_, _], _ => rfl
  have m6 := PySem.W.mg_of X G a6
  have F7 := fun_mk (st := sIsSo) l7 c7 k7
  have b7 := F7.binds (ps := ["op", "one", "other"]) fun _ _ _ _ _ _ us hl => match us, hl with | [_, _, _], _ => rfl
  have m7 := PySem.W.mg_of X G a7
  have F8 := fun_mk (st := sCount) l8 c8 k8
  have b8 := F8.binds (ps := ["op", "one", "other"]) fun _ _ _ _ _ _ us hl => match us, hl with | [_, _, _], _ => rfl
  have m8 := PySem.W.mg_of X G a8
  have F9 := fun_mk (st := sTwo) l9 c9 k9
  have b9 := F9.binds (ps := ["op", "one", "other"]) fun _ _ _ _ _ _ us hl => match us, hl with | [_, _, _], _ => rfl
  have m9 := PySem.W.mg_of X G a9
  have F10 := fun_mk (st := sWorth) l10 c10 k10
  have b10 := F10.binds (ps := ["told", "places", "row"]) fun _ _ _ _ _ _ us hl => match us, hl with | [_, _, _], _ => rfl
  have m10 := PySem.W.mg_of X G a10
  have F11 := fun_mk (st := s_places_of) l11 c11 k11
  have b11 := F11.binds (ps := ["columns"]) fun _ _ _ _ _ _ us hl => match us, hl with | [_], _ => rfl
  have m11 := PySem.W.mg_of X G a11
  have F12 := fun_mk (st := s_values_at) l12 c12 k12
  have b12 := F12.binds (ps := ["row", "ats"]) fun _ _ _ _ _ _ us hl => match us, hl with | [_, _], _ => rfl
  have m12 := PySem.W.mg_of X G a12
  have F13 := fun_mk (st := s_ats_of) l13 c13 k13
  have b13 := F13.binds (ps := ["names", "places"]) fun _ _ _ _ _ _ us hl => match us, hl with | [_, _], _ => rfl
  have m13 := PySem.W.mg_of X G a13
  have F14 := fun_mk (st := s_fold_value) l14 c14 k14
  have b14 := F14.binds (ps := ["told", "places", "row"]) fun _ _ _ _ _ _ us hl => match us, hl with | [_, _, _], _ => rfl
  have m14 := PySem.W.mg_of X G a14
  have F15 := fun_mk (st := s_with_row) l15 c15 k15
  have b15 := F15.binds (ps := ["states", "folds", "places", "row"]) fun _ _ _ _ _ _ us hl => match us, hl with | [_, _, _, _], _ => rfl
  have m15 := PySem.W.mg_of X G a15
  have F16 := fun_mk (st := s_states_by_key) l16 c16 k16
  have b16 := F16.binds (ps := ["rows", "details", "places"]) fun _ _ _ _ _ _ us hl => match us, hl with | [_, _, _], _ => rfl
  have m16 := PySem.W.mg_of X G a16
  have F17 := fun_mk (st := s_folded) l17 c17 k17
  have b17 := F17.binds (ps := ["rows", "details", "places"]) fun _ _ _ _ _ _ us hl => match us, hl with | [_, _, _], _ => rfl
  have m17 := PySem.W.mg_of X G a17
  have F18 := fun_mk (st := s_rows_by_key) l18 c18 k18
  have b18 := F18.binds (ps := ["rows", "ats"]) fun _ _ _ _ _ _ us hl => match us, hl with | [_, _], _ => rfl
  have m18 := PySem.W.mg_of X G a18
  have F19 := fun_mk (st := s_step_rows) l19 c19 k19
  have b19 := F19.binds (ps := ["what", "details", "lists", "columns"]) fun _ _ _ _ _ _ us hl => match us, hl with | [_, _, _, _], _ => rfl
  have m19 := PySem.W.mg_of X G a19
  have F20 := fun_mk (st := s_plainly) l20 c20 k20
  have b20 := F20.binds (ps := ["rows"]) fun _ _ _ _ _ _ us hl => match us, hl with | [_], _ => rfl
  have m20 := PySem.W.mg_of X G a20
  have F21 := fun_mk (st := s_row_states) l21 c21 k21
  have b21 := F21.binds (ps := ["rows", "details", "places"]) fun _ _ _ _ _ _ us hl => match us, hl with | [_, _, _], _ => rfl
  have m21 := PySem.W.mg_of X G a21
  have F22 := fun_mk (st := s_states_together) l22 c22 k22
  have b22 := F22.binds (ps := ["folds", "ones", "others"]) fun _ _ _ _ _ _ us hl => match us, hl with | [_, _, _], _ => rfl
  have m22 := PySem.W.mg_of X G a22
  have F23 := fun_mk (st := s_together) l23 c23 k23
  have b23 := F23.binds (ps := ["pairs", "folds", "sorter"]) fun _ _ _ _ _ _ us hl => match us, hl with | [_, _, _], _ => rfl
  have m23 := PySem.W.mg_of X G a23
  have F24 := fun_mk (st := s_rows_told) l24 c24 k24
  have b24 := F24.binds (ps := ["pairs", "folds"]) fun _ _ _ _ _ _ us hl => match us, hl with | [_, _], _ => rfl
  have m24 := PySem.W.mg_of X G a24
  have F25 := fun_mk (st := s_value_sum) l25 c25 k25
  have b25 := F25.binds (ps := ["value"]) fun _ _ _ _ _ _ us hl => match us, hl with | [_], _ => rfl
  have m25 := PySem.W.mg_of X G a25
  have F26 := fun_mk (st := s_key_sum) l26 c26 k26
  have b26 := F26.binds (ps := ["key"]) fun _ _ _ _ _ _ us hl => match us, hl with | [_], _ => rfl
  have m26 := PySem.W.mg_of X G a26
  have F27 := fun_mk (st := s_name_places) l27 c27 k27
  have b27 := F27.binds (ps := ["names"]) fun _ _ _ _ _ _ us hl => match us, hl with | [_], _ => rfl
  have m27 := PySem.W.mg_of X G a27
  have F28 := fun_mk (st := s_hot_keys2) l28 c28 k28
  have b28 := F28.binds (ps := ["rows", "keys", "names", "most"]) fun _ _ _ _ _ _ us hl => match us, hl with | [_, _, _, _], _ => rfl
  have m28 := PySem.W.mg_of X G a28
  have F29 := fun_mk (st := s_dealt_rows) l29 c29 k29
  have b29 := F29.binds (ps := ["rows", "keys", "names", "hot", "pieces"]) fun _ _ _ _ _ _ us hl => match us, hl with | [_, _, _, _, _], _ => rfl
  have m29 := PySem.W.mg_of X G a29
  have F30 := fun_mk (st := s_fold_in_two) l30 c30 k30
  have b30 := F30.binds (ps := ["rows", "details", "names", "hot", "pieces"]) fun _ _ _ _ _ _ us hl => match us, hl with | [_, _, _, _, _], _ => rfl
  have m30 := PySem.W.mg_of X G a30
  have F31 := fun_mk (st := s_most_in_piece) l31 c31 k31
  have b31 := F31.binds (ps := ["rows", "keys", "names", "hot", "pieces"]) fun _ _ _ _ _ _ us hl => match us, hl with | [_, _, _, _, _], _ => rfl
  have m31 := PySem.W.mg_of X G a31
  have F32 := fun_mk (st := s_two) l32 c32 k32
  have b32 := F32.binds (ps := ["op", "one", "other"]) fun _ _ _ _ _ _ us hl => match us, hl with | [_, _, _], _ => rfl
  have m32 := PySem.W.mg_of X G a32
  have F33 := fun_mk (st := s_kind) l33 c33 k33
  have b33 := F33.binds (ps := ["told", "kinds"]) fun _ _ _ _ _ _ us hl => match us, hl with | [_, _], _ => rfl
  have m33 := PySem.W.mg_of X G a33
  have F34 := fun_mk (st := s_check_there) l34 c34 k34
  have b34 := F34.binds (ps := ["name", "words", "kinds"]) fun _ _ _ _ _ _ us hl => match us, hl with | [_, _, _], _ => rfl
  have m34 := PySem.W.mg_of X G a34
  have F35 := fun_mk (st := s_unlike_columns) l35 c35 k35
  have b35 := F35.binds (ps := ["name", "columns"]) fun _ _ _ _ _ _ us hl => match us, hl with | [_, _], _ => rfl
  have m35 := PySem.W.mg_of X G a35
  have F36 := fun_mk (st := s_columns_of_read) l36 c36 k36
  have b36 := F36.binds (ps := ["name", "given", "details"]) fun _ _ _ _ _ _ us hl => match us, hl with | [_, _, _], _ => rfl
  have m36 := PySem.W.mg_of X G a36
  have F37 := fun_mk (st := s_columns_of_filter) l37 c37 k37
  have b37 := F37.binds (ps := ["name", "given", "details"]) fun _ _ _ _ _ _ us hl => match us, hl with | [_, _, _], _ => rfl
  have m37 := PySem.W.mg_of X G a37
  have F38 := fun_mk (st := s_columns_of_map) l38 c38 k38
  have b38 := F38.binds (ps := ["name", "given", "details"]) fun _ _ _ _ _ _ us hl => match us, hl with | [_, _, _], _ => rfl
  have m38 := PySem.W.mg_of X G a38
  have F39 := fun_mk (st := s_kind_of_fold) l39 c39 k39
  have b39 := F39.binds (ps := ["name", "fold", "told", "kinds"]) fun _ _ _ _ _ _ us hl => match us, hl with | [_, _, _, _], _ => rfl
  have m39 := PySem.W.mg_of X G a39
  have F40 := fun_mk (st := s_columns_of_fold) l40 c40 k40
  have b40 := F40.binds (ps := ["name", "given", "details"]) fun _ _ _ _ _ _ us hl => match us, hl with | [_, _, _], _ => rfl
  have m40 := PySem.W.mg_of X G a40
  have F41 := fun_mk (st := s_columns_of_join) l41 c41 k41
  have b41 := F41.binds (ps := ["name", "given", "details"]) fun _ _ _ _ _ _ us hl => match us, hl with | [_, _, _], _ => rfl
  have m41 := PySem.W.mg_of X G a41
  have F42 := fun_mk (st := s_columns_of_union) l42 c42 k42
  have b42 := F42.binds (ps := ["name", "given", "details"]) fun _ _ _ _ _ _ us hl => match us, hl with | [_, _, _], _ => rfl
  have m42 := PySem.W.mg_of X G a42
  have F43 := fun_mk (st := s_columns_of_unlike) l43 c43 k43
  have b43 := F43.binds (ps := ["name", "given", "details"]) fun _ _ _ _ _ _ us hl => match us, hl with | [_, _, _], _ => rfl
  have m43 := PySem.W.mg_of X G a43
  have F44 := fun_mk (st := s_columns_of_sort) l44 c44 k44
  have b44 := F44.binds (ps := ["name", "given", "details"]) fun _ _ _ _ _ _ us hl => match us, hl with | [_, _, _], _ => rfl
  have m44 := PySem.W.mg_of X G a44
  have F45 := fun_mk (st := s_columns_of) l45 c45 k45
  have b45 := F45.binds (ps := ["job"]) fun _ _ _ _ _ _ us hl => match us, hl with | [_], _ => rfl
  have m45 := PySem.W.mg_of X G a45
  have F46 := fun_mk (st := Kc.sIsRow) l46 c46 k46
  have b46 := F46.binds (ps := ["thing", "columns"]) fun _ _ _ _ _ _ us hl => match us, hl with | [_, _], _ => rfl
  have m46 := PySem.W.mg_of X G a46
  have F47 := fun_mk (st := Kc.sAreRows) l47 c47 k47
  have b47 := F47.binds (ps := ["thing", "columns"]) fun _ _ _ _ _ _ us hl => match us, hl with | [_, _], _ => rfl
  have m47 := PySem.W.mg_of X G a47
  have F48 := fun_mk (st := s_check_tables) l48 c48 k48
  have b48 := F48.binds (ps := ["job", "data"]) fun _ _ _ _ _ _ us hl => match us, hl with | [_, _], _ => rfl
  have m48 := PySem.W.mg_of X G a48
  have F49 := fun_mk (st := s_meaning) l49 c49 k49
  have b49 := F49.binds (ps := ["job", "data"]) fun _ _ _ _ _ _ us hl => match us, hl with | [_, _], _ => rfl
  have m49 := PySem.W.mg_of X G a49
  have F50 := fun_mk (st := sCell) l50 c50 k50
  have b50 := F50.binds (ps := ["script", "k"]) fun _ _ _ _ _ _ us hl => match us, hl with | [_, _], _ => rfl
  have m50 := PySem.W.mg_of X G a50
  have F51 := fun_mk (st := sDraw) l51 c51 k51
  have b51 := F51.binds (ps := ["cell", "k", "bound"]) fun _ _ _ _ _ _ us hl => match us, hl with | [_, _, _], _ => rfl
  have m51 := PySem.W.mg_of X G a51
  have F52 := fun_mk (st := sNumb) l52 c52 k52
  have b52 := F52.binds (ps := ["cell", "k", "bound"]) fun _ _ _ _ _ _ us hl => match us, hl with | [_, _, _], _ => rfl
  have m52 := PySem.W.mg_of X G a52
  have F53 := fun_mk (st := sNext) l53 c53 k53
  have b53 := F53.binds (ps := ["draw", "bound"]) fun _ _ _ _ _ _ us hl => match us, hl with | [_, _], _ => rfl
  have m53 := PySem.W.mg_of X G a53
  have F54 := fun_mk (st := sPick) l54 c54 k54
  have b54 := F54.binds (ps := ["draw", "things"]) fun _ _ _ _ _ _ us hl => match us, hl with | [_, _], _ => rfl
  have m54 := PySem.W.mg_of X G a54
  have F55 := fun_mk (st := sInt) l55 c55 k55
  have b55 := F55.binds (ps := ["draw", "columns", "deep"]) fun _ _ _ _ _ _ us hl => match us, hl with | [_, _, _], _ => rfl
  have m55 := PySem.W.mg_of X G a55
  have F56 := fun_mk (st := s_law_fold) l56 c56 k56
  have b56 := F56.binds (ps := ["draw", "columns"]) fun _ _ _ _ _ _ us hl => match us, hl with | [_, _], _ => rfl
  have m56 := PySem.W.mg_of X G a56
  have F57 := fun_mk (st := sLaw) l57 c57 k57
  have m_len := PySem.W.mg_none_of X G z1
  have m_int := PySem.W.mg_none_of X G z2
  have m_range := PySem.W.mg_none_of X G z3
  have m_str := PySem.W.mg_none_of X G z4
  have m_tuple := PySem.W.mg_none_of X G z5
  have m_list := PySem.W.mg_none_of X G z6
  have m_dict := PySem.W.mg_none_of X G z7
  have m_all := PySem.W.mg_none_of X G z8
  have m_set := PySem.W.mg_none_of X G z9
  have m_sorted := PySem.W.mg_none_of X G z10
  have m_isinstance := PySem.W.mg_none_of X G z11
  have m_bool := PySem.W.mg_none_of X G z12
  have m_enumerate := PySem.W.mg_none_of X G z13
  have m_zip := PySem.W.mg_none_of X G z14
  have m_max := PySem.W.mg_none_of X G z15
  have m_ord := PySem.W.mg_none_of X G z16
  have m_LEAST_INT := PySem.W.mg_of X G g1
  have m_GREATEST_INT := PySem.W.mg_of X G g2
  have m_FACTOR := PySem.W.mg_of X G g3
  have m_MOST_SUM := PySem.W.mg_of X G g4
  have m_MIXED := PySem.W.mg_of X G g5
  have bad : PySem.BadY.BadTxt K mg C fI :=
    { gC := PySem.W.mg_of X G aC, cls := ⟨nm, qn, N, bs, _, sn, sub, ab, col, dd, n0, n1, n2, n3, n5, xL, rfl⟩, sa := sa, ga := gat, gg := gg, noN := nb, noW := nw, iC := ai, tC := ti, kC := kC, exC := eC, tyC := tyC, hdC := hC, te := exm_own eC iC tyC sC,
      fn := ⟨_, _, _, _, _, _, _, _, _, _, _, _, _, _, _, _, _, _, _, li, ci⟩ }
  have Lev : Lv K w mg := by
    refine ⟨⟨dl, PySem.W.mg_of X G gD, fun op h => ?_, fun op h => ?_⟩, _, PySem.W.mg_of X G gCmp⟩
    · have h' : op ∈ (["=", "!=", "<", "<=", ">", ">="] : List Str) := h
      simp only [List.mem_cons, List.not_mem_nil, or_false] at h'
      rcases h' with rfl | rfl | rfl | rfl | rfl | rfl
      · exact ⟨_, _, _, lD, gK, o3, _, rfl⟩
      · exact ⟨_, _, _, lD, gK, o4, _, rfl⟩
      · exact ⟨_, _, _, lD, gK, o5, _, rfl⟩
      · exact ⟨_, _, _, lD, gK, o6, _, rfl⟩
      · exact ⟨_, _, _, lD, gK, o7, _, rfl⟩
      · exact ⟨_, _, _, lD, gK, o8, _, rfl⟩
    · have h' : op ∈ (["+", "-", "*", "/", "mod", "and", "or"] : List Str) := h
      simp only [List.mem_cons, List.not_mem_nil, or_false] at h'
      rcases h' with rfl | rfl | rfl | rfl | rfl | rfl | rfl
      · exact ⟨5, by decide, _, _, _, lD, gK, o9, _, rfl⟩
      · exact ⟨5, by decide, _, _, _, lD, gK, o10, _, rfl⟩
      · exact ⟨6, by decide, _, _, _, lD, gK, o11, _, rfl⟩
      · exact ⟨6, by decide, _, _, _, lD, gK, o12, _, rfl⟩
      · exact ⟨6, by decide, _, _, _, lD, gK, o13, _, rfl⟩
      · exact ⟨2, by decide, _, _, _, lD, gK, o2, _, rfl⟩
      · exact ⟨1, by decide, _, _, _, lD, gK, o1, _, rfl⟩
  have LevW : Levels K w mg := by
    refine ⟨⟨dl, PySem.W.mg_of X G gD, fun op h => ?_, fun op h => ?_⟩, _, PySem.W.mg_of X G gCmp⟩
    · have h' : op ∈ (["=", "!=", "<", "<=", ">", ">="] : List Str) := h
      simp only [List.mem_cons, List.not_mem_nil, or_false] at h'
      rcases h' with rfl | rfl | rfl | rfl | rfl | rfl
      · exact ⟨_, _, _, lD, gK, o3, _, rfl⟩
      · exact ⟨_, _, _, lD, gK, o4, _, rfl⟩
      · exact ⟨_, _, _, lD, gK, o5, _, rfl⟩
      · exact ⟨_, _, _, lD, gK, o6, _, rfl⟩
      · exact ⟨_, _, _, lD, gK, o7, _, rfl⟩
      · exact ⟨_, _, _, lD, gK, o8, _, rfl⟩
    · have h' : op ∈ (["+", "-", "*", "/", "mod"] : List Str) := h
      simp only [List.mem_cons, List.not_mem_nil, or_false] at h'
      rcases h' with rfl | rfl | rfl | rfl | rfl
      · exact ⟨5, by decide, _, _, _, lD, gK, o9, _, rfl⟩
      · exact ⟨5, by decide, _, _, _, lD, gK, o10, _, rfl⟩
      · exact ⟨6, by decide, _, _, _, lD, gK, o11, _, rfl⟩
      · exact ⟨6, by decide, _, _, _, lD, gK, o12, _, rfl⟩
      · exact ⟨6, by decide, _, _, _, lD, gK, o13, _, rfl⟩
  refine ⟨PySem.W.fnOf "law" "law" (defArgs sLaw) (defBody sLaw) (defScope sLaw) .none kV57 dc57 pm57 an57 cd57 ct57, fun s v => .of_eq rfl, fun base _ _ => ?_⟩
  have R_wrap : Ready l.prog w K mg base 1 "wrapped" ["number"] spWrap := ⟨⟨f1, _, ok_wrap F1 ⟨_, m_LEAST_INT⟩, b1, m1, k1⟩⟩
  have R_wrapB : Ready l.prog w K mg base 1 "wrapped" ["number"] Kb.spWrap := ⟨⟨f1, _, Kb.ok_wrap F1 ⟨_, m_LEAST_INT⟩, b1, m1, k1⟩⟩
  have R_ofkind : Ready l.prog w K mg base 1 "is_of_kind" ["thing", "kind"] Kc.spOfKind := ⟨⟨f2, _, Kc.ok_ofkind F2 m_isinstance m_str m_int m_bool ⟨_, m_LEAST_INT⟩ ⟨_, m_GREATEST_INT⟩, b2, m2, k2⟩⟩
  have R_no : Ready l.prog w K mg base 1 "no_state" ["kind"] (Kb.spNo K) := ⟨⟨f3, _, Kb.ok_no F3, b3, m3, k3⟩⟩
  have R_one : Ready l.prog w K mg base 1 "one_state" ["kind", "value"] (Kb.spOne K) := ⟨⟨f4, _, Kb.ok_one F4, b4, m4, k4⟩⟩
  have R_put : Ready l.prog w K mg base 2 "put_together" ["kind", "one", "other"] (Kb.spPut K) := ⟨⟨f5, _, Kb.ok_put F5 m_sorted m_set m_tuple R_wrapB, b5, m5, k5⟩⟩
  have R_stold : Ready l.prog w K mg base 1 "state_told" ["kind", "state"] (Kb.spTold K) := ⟨⟨f6, _, Kb.ok_told F6 m_len, b6, m6, k6⟩⟩
  have R_isso : Ready l.prog w K mg base 1 "is_so" ["op", "one", "other"] spIsSo := ⟨⟨f7, _, ok_isso F7, b7, m7, k7⟩⟩
  have R_count : Ready l.prog w K mg base 1 "counted" ["op", "one", "other"] spCount := ⟨⟨f8, _, ok_count F8, b8, m8, k8⟩⟩
  have R_wtwo : Ready l.prog w K mg base 2 "worth_of_two" ["op", "one", "other"] spTwo := ⟨⟨f9, _, ok_two F9 m_int LevW R_isso R_count R_wrap, b9, m9, k9⟩⟩
  have R_worth : ∀ m, Ready l.prog w K mg base (m + 2) "worth" ["told", "places", "row"] (spWorth m) := fun m => by
    induction m with
    | zero => exact ⟨⟨f10, _, no_worth, b10, m10, k10⟩⟩
    | succ m ih => exact ⟨⟨f10, _, ok_worth F10 m_int m_len R_wtwo R_wrap ih, b10, m10, k10⟩⟩
  have R_places : Ready l.prog w K mg base 1 "places_of" ["columns"] (spPlaces K) := ⟨⟨f11, _, ok_places F11 m_enumerate, b11, m11, k11⟩⟩
  have R_vals : Ready l.prog w K mg base 1 "values_at" ["row", "ats"] (spVals K) := ⟨⟨f12, _, ok_vals F12 m_tuple, b12, m12, k12⟩⟩
  have R_ats : Ready l.prog w K mg base 1 "ats_of" ["names", "places"] (spAts K) := ⟨⟨f13, _, ok_ats F13, b13, m13, k13⟩⟩
  have R_fval : Ready l.prog w K mg base 15 "fold_value" ["told", "places", "row"] (spFval 12) := ⟨⟨f14, _, ok_fval F14 (R_worth 12), b14, m14, k14⟩⟩
  have R_wrow : Ready l.prog w K mg base 16 "with_row" ["states", "folds", "places", "row"] (spWithRow K) := ⟨⟨f15, _, ok_withrow (k := 15) F15 (by decide) (by decide) m_zip R_put R_one R_fval, b15, m15, k15⟩⟩
  have R_states : Ready l.prog w K mg base 17 "states_by_key" ["rows", "details", "places"] (spStates K) := ⟨⟨f16, _, ok_states (k := 16) F16 (by decide) (by decide) R_ats R_vals R_no R_wrow, b16, m16, k16⟩⟩
  have R_folded : Ready l.prog w K mg base 18 "folded" ["rows", "details", "places"] (spFolded K) := ⟨⟨f17, _, ok_folded (k := 17) F17 (by decide) m_tuple m_zip R_states R_stold, b17, m17, k17⟩⟩
  have R_rbk : Ready l.prog w K mg base 2 "rows_by_key" ["rows", "ats"] (spRByKey K) := ⟨⟨f18, _, ok_rbykey F18 R_vals, b18, m18, k18⟩⟩
  have R_step : Ready l.prog w K mg base 19 "step_rows" ["what", "details", "lists", "columns"] (spStepF K) := ⟨⟨f19, _, ok_stepF (k := 18) F19 (by decide) R_places R_folded, b19, m19, k19⟩⟩
  have R_plain : Ready l.prog w K mg base 1 "plainly" ["rows"] (spPlain K) := ⟨⟨f20, _, ok_plainly F20 m_sorted, b20, m20, k20⟩⟩
  have R_rstates : Ready l.prog w K mg base 16 "row_states" ["rows", "details", "places"] (spRStates K) := ⟨⟨f21, _, ok_rstates (k := 15) F21 (by decide) (by decide) m_tuple R_ats R_vals R_one R_fval, b21, m21, k21⟩⟩
  have R_stog : Ready l.prog w K mg base 3 "states_together" ["folds", "ones", "others"] (spSTog K) := ⟨⟨f22, _, ok_stog F22 m_tuple m_zip R_put, b22, m22, k22⟩⟩
  have R_tog : Ready l.prog w K mg base 4 "together" ["pairs", "folds", "sorter"] (spTog K f20) := ⟨⟨f23, _, ok_tog F23 ⟨_, _, ok_plainly F20 m_sorted, k20, b20⟩ R_stog, b23, m23, k23⟩⟩
  have R_rtold : Ready l.prog w K mg base 2 "rows_told" ["pairs", "folds"] (spRTold K) := ⟨⟨f24, _, ok_rtold F24 m_tuple m_zip R_stold, b24, m24, k24⟩⟩
  have R_vsum : Ready l.prog w K mg base 1 "value_sum" ["value"] spVSum := ⟨⟨f25, _, ok_vsum F25 m_isinstance m_str m_len m_ord ⟨_, m_FACTOR⟩ ⟨_, m_MOST_SUM⟩, b25, m25, k25⟩⟩
  have R_ksum : Ready l.prog w K mg base 2 "key_sum" ["key"] (spKSum K) := ⟨⟨f26, _, ok_ksum F26 R_vsum ⟨_, m_FACTOR⟩ ⟨_, m_MOST_SUM⟩ ⟨_, m_MIXED⟩, b26, m26, k26⟩⟩
  have R_np : Ready l.prog w K mg base 1 "name_places" ["names"] (spNPlaces K) := ⟨⟨f27, _, ok_nplaces F27 m_enumerate, b27, m27, k27⟩⟩
  have R_hot : Ready l.prog w K mg base 3 "hot_keys" ["rows", "keys", "names", "most"] (spHot K) := ⟨⟨f28, _, ok_hot F28 m_sorted m_len R_np R_ats R_rbk, b28, m28, k28⟩⟩
  have R_dealt : Ready l.prog w K mg base 3 "dealt_rows" ["rows", "keys", "names", "hot", "pieces"] (spDealt K) := ⟨⟨f29, _, ok_dealt F29 m_range R_np R_ats R_vals R_ksum, b29, m29, k29⟩⟩
  have R_intwo : Ready l.prog w K mg base 17 "fold_in_two" ["rows", "details", "names", "hot", "pieces"] (spInTwo K) := ⟨⟨f30, _, ok_intwo (k := 16) F30 (by decide) (by decide) m20 R_np R_dealt R_rstates R_tog R_rtold, b30, m30, k30⟩⟩
  have R_pmost : Ready l.prog w K mg base 4 "most_in_piece" ["rows", "keys", "names", "hot", "pieces"] (spPMost K) := ⟨⟨f31, _, ok_most F31 m_max m_len R_dealt, b31, m31, k31⟩⟩
  have R_two : Ready l.prog w K mg base 1 "kind_of_two" ["op", "one", "other"] spTwoK := ⟨⟨f32, _, ok_twoK F32 Lev, b32, m32, k32⟩⟩
  have R_kind : ∀ m, Ready l.prog w K mg base (m + 1) "kind_of" ["told", "kinds"] (spKind m) := fun m => by
    induction m with
    | zero => exact ⟨⟨f33, _, no_kind, b33, m33, k33⟩⟩
    | succ m ih => exact ⟨⟨f33, _, ok_kind F33 R_two ih, b33, m33, k33⟩⟩
  have R_there : ReadyX l.prog w K mg base 2 "check_there" ["name", "words", "kinds"] (spThere K C) := ⟨⟨f34, _, ok_there F34 bad, b34, m34, k34⟩⟩
  have R_unl : ReadyX l.prog w K mg base 2 "unlike_columns" ["name", "columns"] (spUnl K C) := ⟨⟨f35, _, ok_unl F35 bad m_len m_set m_tuple, b35, m35, k35⟩⟩
  have R_kf : ReadyX l.prog w K mg base 14 "kind_of_fold" ["name", "fold", "told", "kinds"] (spKF C) := ⟨⟨f39, _, ok_kf F39 bad (R_kind 12), b39, m39, k39⟩⟩
  have CK : CkAt l.prog w K mg base C := by
    let ff : Str → Addr := fun wh => if wh = "read" then f36 else if wh = "filter" then f37 else if wh = "map" then f38 else if wh = "fold" then f40 else if wh = "join" then f41 else if wh = "union" then f42 else if wh = "unlike" then f43 else f44
    refine ⟨dc, ff, PySem.W.mg_of X G gC2, fun wh hw => ?_⟩
    have hw' : wh ∈ (["read", "filter", "map", "fold", "join", "union", "unlike", "sort"] : List Str) := hw
    simp only [List.mem_cons, List.not_mem_nil, or_false] at hw'
    rcases hw' with rfl | rfl | rfl | rfl | rfl | rfl | rfl | rfl
    · have e : ff "read" = f36 := if_pos rfl
      rw [e]
      exact ⟨⟨_, _, _, lC, gK2, p1, rfl⟩, ⟨3, by decide, ⟨⟨_, _, ok_read F36 R_unl, k36, b36⟩⟩⟩⟩
    · have e : ff "filter" = f37 := (if_neg (by decide +kernel)).trans (if_pos rfl)
      rw [e]
      exact ⟨⟨_, _, _, lC, gK2, p2, rfl⟩, ⟨14, by decide, ⟨⟨_, _, ok_filter F37 bad m_dict (R_kind 12), k37, b37⟩⟩⟩⟩
    · have e : ff "map" = f38 := (if_neg (by decide +kernel)).trans ((if_neg (by decide +kernel)).trans (if_pos rfl))
      rw [e]
      exact ⟨⟨_, _, _, lC, gK2, p3, rfl⟩, ⟨14, by decide, ⟨⟨_, _, ok_cmap F38 bad m_dict (R_kind 12) R_unl, k38, b38⟩⟩⟩⟩
    · have e : ff "fold" = f40 := (if_neg (by decide +kernel)).trans ((if_neg (by decide +kernel)).trans ((if_neg (by decide +kernel)).trans (if_pos rfl)))
      rw [e]
      exact ⟨⟨_, _, _, lC, gK2, p4, rfl⟩, ⟨15, by decide, ⟨⟨_, _, ok_cfold F40 bad m_dict R_kf R_there R_unl, k40, b40⟩⟩⟩⟩
    · have e : ff "join" = f41 := (if_neg (by decide +kernel)).trans ((if_neg (by decide +kernel)).trans ((if_neg (by decide +kernel)).trans ((if_neg (by decide +kernel)).trans (if_pos rfl))))
      rw [e]
      exact ⟨⟨_, _, _, lC, gK2, p5, rfl⟩, ⟨3, by decide, ⟨⟨_, _, ok_cjoin F41 bad m_dict R_there R_unl, k41, b41⟩⟩⟩⟩
    · have e : ff "union" = f42 := (if_neg (by decide +kernel)).trans ((if_neg (by decide +kernel)).trans ((if_neg (by decide +kernel)).trans ((if_neg (by decide +kernel)).trans ((if_neg (by decide +kernel)).trans (if_pos rfl)))))
      rw [e]
      exact ⟨⟨_, _, _, lC, gK2, p6, rfl⟩, ⟨3, by decide, ⟨⟨_, _, ok_union F42 bad, k42, b42⟩⟩⟩⟩
    · have e : ff "unlike" = f43 := (if_neg (by decide +kernel)).trans ((if_neg (by decide +kernel)).trans ((if_neg (by decide +kernel)).trans ((if_neg (by decide +kernel)).trans ((if_neg (by decide +kernel)).trans ((if_neg (by decide +kernel)).trans (if_pos rfl))))))
      rw [e]
      exact ⟨⟨_, _, _, lC, gK2, p7, rfl⟩, ⟨3, by decide, ⟨⟨_, _, ok_unlike F43, k43, b43⟩⟩⟩⟩
    · have e : ff "sort" = f44 := (if_neg (by decide +kernel)).trans ((if_neg (by decide +kernel)).trans ((if_neg (by decide +kernel)).trans ((if_neg (by decide +kernel)).trans ((if_neg (by decide +kernel)).trans ((if_neg (by decide +kernel)).trans ((if_neg (by decide +kernel)).trans (rfl)))))))
      rw [e]
      exact ⟨⟨_, _, _, lC, gK2, p8, rfl⟩, ⟨3, by decide, ⟨⟨_, _, ok_sort F44 m_dict R_there, k44, b44⟩⟩⟩⟩
  have R_cols : ReadyX l.prog w K mg base 16 "columns_of" ["job"] (spColsJ K C) := ⟨⟨f45, _, ok_cols F45 bad CK, b45, m45, k45⟩⟩
  have R_isrow : Ready l.prog w K mg base 2 "is_row" ["thing", "columns"] (Kc.spIsRow K) := ⟨⟨f46, _, Kc.ok_isrow F46 m_isinstance m_tuple m_len m_all m_zip R_ofkind, b46, m46, k46⟩⟩
  have R_arerows : Ready l.prog w K mg base 3 "are_rows" ["thing", "columns"] (Kc.spAreRows K) := ⟨⟨f47, _, Kc.ok_arerows F47 m_isinstance m_tuple m_list m_all R_isrow, b47, m47, k47⟩⟩
  have R_check : Ready l.prog w K mg base 4 "check_tables" ["job", "data"] (spCheck2 K) := ⟨⟨f48, _, ok_check2 F48 R_arerows, b48, m48, k48⟩⟩
  have R_mean : Ready l.prog w K mg base 20 "meaning" ["job", "data"] (spMean2 K) := ⟨⟨f49, _, ok_mean2 (k := 19) F49 (by decide) (by decide) (by decide) m_sorted R_cols R_check R_step, b49, m49, k49⟩⟩
  have R_cell : Ready l.prog w K mg base 1 "_law_cell_at" ["script", "k"] (spCell K) := ⟨⟨f50, _, ok_cell F50 m_len, b50, m50, k50⟩⟩
  have R_draw : Ready l.prog w K mg base 1 "_law_draw" ["cell", "k", "bound"] spDraw := ⟨⟨f51, _, ok_draw F51 m_int, b51, m51, k51⟩⟩
  have R_numb : Ready l.prog w K mg base 2 "_law_number" ["cell", "k", "bound"] spNumb := ⟨⟨f52, _, ok_numb F52 m_int m_range R_draw, b52, m52, k52⟩⟩
  have R_next : Ready l.prog w K mg base 3 "_law_next" ["draw", "bound"] spNext := ⟨⟨f53, _, ok_next F53 m_int R_cell R_numb, b53, m53, k53⟩⟩
  have R_pick : Ready l.prog w K mg base 4 "_law_pick" ["draw", "things"] (spPick K) := ⟨⟨f54, _, ok_pick F54 m_len R_next, b54, m54, k54⟩⟩
  have R_int : ∀ m, Ready l.prog w K mg base (m + 4) "_law_int" ["draw", "columns", "deep"] (spInt m) := fun m => by
    induction m with
    | zero => exact ⟨⟨f55, _, no_int, b55, m55, k55⟩⟩
    | succ m ih => exact ⟨⟨f55, _, ok_int F55 m_len R_next R_pick ih, b55, m55, k55⟩⟩
  have R_fold : Ready l.prog w K mg base 8 "_law_fold" ["draw", "columns"] spFold := ⟨⟨f56, _, ok_fold F56 m_range m_str m_tuple m_list m_len m_set R_next R_pick (R_int 2), b56, m56, k56⟩⟩
  exact ok_law21 (k := 20) F57 (by decide) (by decide) (by decide) m_range m_tuple m_list m_set m_sorted m_len R_next R_pick R_fold R_hot R_intwo R_mean R_pmost
theorem walk {l : PySem.W.OpenLaw} {q : Program} {loose : List Str} {XP : (Str → Option Value) → Heap → Prop} {YP : World → Heap → Prop} {d : DefRec} {K : Params → PySem.W.Frag} (hn : l.most = some 63) (hdf : d.params.defaults = [])
    (hY : ∀ (w : World) (h : Heap), YP w h → (K w.params).In h)
    (F : ∀ (w : World) (mg : Str → Option Value) (fa : Addr) (h : Heap), (K w.params).In h → h.Ns mainGlobals mg → mg d.name = some (.ref fa) →
      ∃ fd : FuncData, (∀ (s : Shared) (u : Value), BindsTo s fd ⟨[u], []⟩ [("script", u)]) ∧ ∀ base : Heap, (K w.params).In base → base.Ns mainGlobals mg → FnOk l.prog w (K w.params) mg base CX0 21 fa fd ["script"] (spLaw (K w.params))) :
    PySem.W.WalkO q loose XP YP l.row.toRowW d [] (fun f vs => PySem.call f vs) :=
  L2.walk_of (n := 63) (k := 21) (x := "script") (CX := fun _ => CX0) (sp := fun w => spLaw (K w.params)) hn (by decide) hdf ⟨rfl, by decide, by decide⟩ hY F (fun _ _ a ns hl _ hS => ⟨a, ns, rfl, hS, fun _ => rfl⟩) fun _ _ _ _ _ z => z
end Kx
open PySem PySem.W PyProof.Rows
set_option maxRecDepth 100000 in
set_option maxHeartbeats 0 in
theorem PySem.Challenge.cw_countedonce_k21_hot_keys_holds : PySem.Challenge.rw_countedonce_k21_hot_keys.Holds := by
  w_on; o_law; k_head; (case hw => w_witness2)
  k_fill
  refine Kx.walk (l := PySem.Challenge.rw_countedonce_k21_hot_keys) rfl rfl (fun w h Y => PySem.W.kIn_of Y) ?F
  case F =>
    intro w mg fa h KX G hmg
    refine' Kx.all_mk KX G hmg ?a1 ?l1 ?c1 ?k1 ?a2 ?l2 ?c2 ?k2 ?a3 ?l3 ?c3 ?k3 ?a4 ?l4 ?c4 ?k4 ?a5 ?l5 ?c5 ?k5 ?a6 ?l6 ?c6 ?k6 ?a7 ?l7 ?c7 ?k7 ?a8 ?l8 ?c8 ?k8 ?a9 ?l9 ?c9 ?k9 ?a10 ?l10 ?c10 ?k10 ?a11 ?l11 ?c11 ?k11 ?a12 ?l12 ?c12 ?k12 ?a13 ?l13 ?c13 ?k13 ?a14 ?l14 ?c14 ?k14 ?a15 ?l15 ?c15 ?k15 ?a16 ?l16 ?c16 ?k16 ?a17 ?l17 ?c17 ?k17 ?a18 ?l18 ?c18 ?k18 ?a19 ?l19 ?c19 ?k19 ?a20 ?l20 ?c20 ?k20 ?a21 ?l21 ?c21 ?k21 ?a22 ?l22 ?c22 ?k22 ?a23 ?l23 ?c23 ?k23 ?a24 ?l24 ?c24 ?k24 ?a25 ?l25 ?c25 ?k25 ?a26 ?l26 ?c26 ?k26 ?a27 ?l27 ?c27 ?k27 ?a28 ?l28 ?c28 ?k28 ?a29 ?l29 ?c29 ?k29 ?a30 ?l30 ?c30 ?k30 ?a31 ?l31 ?c31 ?k31 ?a32 ?l32 ?c32 ?k32 ?a33 ?l33 ?c33 ?k33 ?a34 ?l34 ?c34 ?k34 ?a35 ?l35 ?c35 ?k35 ?a36 ?l36 ?c36 ?k36 ?a37 ?l37 ?c37 ?k37 ?a38 ?l38 ?c38 ?k38 ?a39 ?l39 ?c39 ?k39 ?a40 ?l40 ?c40 ?k40 ?a41 ?l41 ?c41 ?k41 ?a42 ?l42 ?c42 ?k42 ?a43 ?l43 ?c43 ?k43 ?a44 ?l44 ?c44 ?k44 ?a45 ?l45 ?c45 ?k45 ?a46 ?l46 ?c46 ?k46 ?a47 ?l47 ?c47 ?k47 ?a48 ?l48 ?c48 ?k48 ?a49 ?l49 ?c49 ?k49 ?a50 ?l50 ?c50 ?k50 ?a51 ?l51 ?c51 ?k51 ?a52 ?l52 ?c52 ?k52 ?a53 ?l53 ?c53 ?k53 ?a54 ?l54 ?c54 ?k54 ?a55 ?l55 ?c55 ?k55 ?a56 ?l56 ?c56 ?k56 ?a57 ?l57 ?c57 ?k57 ?z1 ?z2 ?z3 ?z4 ?z5 ?z6 ?z7 ?z8 ?z9 ?z10 ?z11 ?z12 ?z13 ?z14 ?z15 ?z16 ?g1 ?g2 ?g3 ?g4 ?g5 ?aC ?xL ?sa ?gat ?gg ?nb ?nw ?ai ?ti ?li ?ci ?kC ?eC ?tyC ?hC ?iC ?sC ?gCmp ?gD ?lD ?o1 ?o2 ?o3 ?o4 ?o5 ?o6 ?o7 ?o8 ?o9 ?o10 ?o11 ?o12 ?o13 ?gK ?gC2 ?lC ?p1 ?p2 ?p3 ?p4 ?p5 ?p6 ?p7 ?p8 ?gK2
    (case a1 => k_is)
    (case l1 => k_is)
    (case c1 => k_is)
    (case k1 => k_is)
    (case a2 => k_is)
    (case l2 => k_is)
    (case c2 => k_is)
    (case k2 => k_is)
    (case a3 => k_is)
    (case l3 => k_is)
    (case c3 => k_is)
    (case k3 => k_is)
    (case a4 => k_is)
    (case l4 => k_is)
    (case c4 => k_is)
    (case k4 => k_is)
    (case a5 => k_is)
    (case l5 => k_is)
    (case c5 => k_is)
    (case k5 => k_is)
    (case a6 => k_is)
    (case l6 => k_is)
    (case c6 => k_is)
    (case k6 => k_is)
    (case a7 => k_is)
    (case l7 => k_is)
    (case c7 => k_is)
    (case k7 => k_is)
    (case a8 => k_is)
    (case l8 => k_is)
    (case c8 => k_is)
    (case k8 => k_is)
    (case a9 => k_is)
    (case l9 => k_is)
    (case c9 => k_is)
    (case k9 => k_is)
    (case a10 => k_is)
    (case l10 => k_is)
    (case c10 => k_is)
    (case k10 => k_is)
    (case a11 => k_is)
    (case l11 => k_is)
    (case c11 => k_is)
    (case k11 => k_is)
    (case a12 => k_is)
    (case l12 => k_is)
    (case c12 => k_is)
    (case k12 => k_is)
    (case a13 => k_is)
    (case l13 => k_is)
    (case c13 => k_is)
    (case k13 => k_is)
    (case a14 => k_is)
    (case l14 => k_is)
    (case c14 => k_is)
    (case k14 => k_is)
    (case a15 => k_is)
    (case l15 => k_is)
    (case c15 => k_is)
    (case k15 => k_is)
    (case a16 => k_is)
    (case l16 => k_is)
    (case c16 => k_is)
    (case k16 => k_is)
    (case a17 => k_is)
    (case l17 => k_is)
    (case c17 => k_is)
    (case k17 => k_is)
    (case a18 => k_is)
    (case l18 => k_is)
    (case c18 => k_is)
    (case k18 => k_is)
    (case a19 => k_is)
    (case l19 => k_is)
    (case c19 => k_is)
    (case k19 => k_is)
    (case a20 => k_is)
    (case l20 => k_is)
    (case c20 => k_is)
    (case k20 => k_is)
    (case a21 => k_is)
    (case l21 => k_is)
    (case c21 => k_is)
    (case k21 => k_is)
    (case a22 => k_is)
    (case l22 => k_is)
    (case c22 => k_is)
    (case k22 => k_is)
    (case a23 => k_is)
    (case l23 => k_is)
    (case c23 => k_is)
    (case k23 => k_is)
    (case a24 => k_is)
    (case l24 => k_is)
    (case c24 => k_is)
    (case k24 => k_is)
    (case a25 => k_is)
    (case l25 => k_is)
    (case c25 => k_is)
    (case k25 => k_is)
    (case a26 => k_is)
    (case l26 => k_is)
    (case c26 => k_is)
    (case k26 => k_is)
    (case a27 => k_is)
    (case l27 => k_is)
    (case c27 => k_is)
    (case k27 => k_is)
    (case a28 => k_is)
    (case l28 => k_is)
    (case c28 => k_is)
    (case k28 => k_is)
    (case a29 => k_is)
    (case l29 => k_is)
    (case c29 => k_is)
    (case k29 => k_is)
    (case a30 => k_is)
    (case l30 => k_is)
    (case c30 => k_is)
    (case k30 => k_is)
    (case a31 => k_is)
    (case l31 => k_is)
    (case c31 => k_is)
    (case k31 => k_is)
    (case a32 => k_is)
    (case l32 => k_is)
    (case c32 => k_is)
    (case k32 => k_is)
    (case a33 => k_is)
    (case l33 => k_is)
    (case c33 => k_is)
    (case k33 => k_is)
    (case a34 => k_is)
    (case l34 => k_is)
    (case c34 => k_is)
    (case k34 => k_is)
    (case a35 => k_is)
    (case l35 => k_is)
    (case c35 => k_is)
    (case k35 => k_is)
    (case a36 => k_is)
    (case l36 => k_is)
    (case c36 => k_is)
    (case k36 => k_is)
    (case a37 => k_is)
    (case l37 => k_is)
    (case c37 => k_is)
    (case k37 => k_is)
    (case a38 => k_is)
    (case l38 => k_is)
    (case c38 => k_is)
    (case k38 => k_is)
    (case a39 => k_is)
    (case l39 => k_is)
    (case c39 => k_is)
    (case k39 => k_is)
    (case a40 => k_is)
    (case l40 => k_is)
    (case c40 => k_is)
    (case k40 => k_is)
    (case a41 => k_is)
    (case l41 => k_is)
    (case c41 => k_is)
    (case k41 => k_is)
    (case a42 => k_is)
    (case l42 => k_is)
    (case c42 => k_is)
    (case k42 => k_is)
    (case a43 => k_is)
    (case l43 => k_is)
    (case c43 => k_is)
    (case k43 => k_is)
    (case a44 => k_is)
    (case l44 => k_is)
    (case c44 => k_is)
    (case k44 => k_is)
    (case a45 => k_is)
    (case l45 => k_is)
    (case c45 => k_is)
    (case k45 => k_is)
    (case a46 => k_is)
    (case l46 => k_is)
    (case c46 => k_is)
    (case k46 => k_is)
    (case a47 => k_is)
    (case l47 => k_is)
    (case c47 => k_is)
    (case k47 => k_is)
    (case a48 => k_is)
    (case l48 => k_is)
    (case c48 => k_is)
    (case k48 => k_is)
    (case a49 => k_is)
    (case l49 => k_is)
    (case c49 => k_is)
    (case k49 => k_is)
    (case a50 => k_is)
    (case l50 => k_is)
    (case c50 => k_is)
    (case k50 => k_is)
    (case a51 => k_is)
    (case l51 => k_is)
    (case c51 => k_is)
    (case k51 => k_is)
    (case a52 => k_is)
    (case l52 => k_is)
    (case c52 => k_is)
    (case k52 => k_is)
    (case a53 => k_is)
    (case l53 => k_is)
    (case c53 => k_is)
    (case k53 => k_is)
    (case a54 => k_is)
    (case l54 => k_is)
    (case c54 => k_is)
    (case k54 => k_is)
    (case a55 => k_is)
    (case l55 => k_is)
    (case c55 => k_is)
    (case k55 => k_is)
    (case a56 => k_is)
    (case l56 => k_is)
    (case c56 => k_is)
    (case k56 => k_is)
    (case a57 => k_is)
    (case l57 => k_is)
    (case c57 => k_is)
    (case k57 => k_is)
    (case z1 => k_is)
    (case z2 => k_is)
    (case z3 => k_is)
    (case z4 => k_is)
    (case z5 => k_is)
    (case z6 => k_is)
    (case z7 => k_is)
    (case z8 => k_is)
    (case z9 => k_is)
    (case z10 => k_is)
    (case z11 => k_is)
    (case z12 => k_is)
    (case z13 => k_is)
    (case z14 => k_is)
    (case z15 => k_is)
    (case z16 => k_is)
    (case g1 => k_is)
    (case g2 => k_is)
    (case g3 => k_is)
    (case g4 => k_is)
    (case g5 => k_is)
    (case aC => k_is)
    (case xL => k_is)
    (case sa => k_is)
    (case gat => k_is)
    (case gg => k_is)
    (case nb => k_is)
    (case nw => k_is)
    (case ai => k_is)
    (case ti => k_is)
    (case li => k_is)
    (case ci => k_is)
    (case kC => k_is)
    (case eC => k_is)
    (case tyC => k_is)
    (case hC => k_is)
    (case iC => k_is)
    (case gCmp => k_is)
    (case gD => k_is)
    (case lD => k_is)
    (case o1 => k_is)
    (case o2 => k_is)
    (case o3 => k_is)
    (case o4 => k_is)
    (case o5 => k_is)
    (case o6 => k_is)
    (case o7 => k_is)
    (case o8 => k_is)
    (case o9 => k_is)
    (case o10 => k_is)
    (case o11 => k_is)
    (case o12 => k_is)
    (case o13 => k_is)
    (case gC2 => k_is)
    (case lC => k_is)
    (case p1 => k_is)
    (case p2 => k_is)
    (case p3 => k_is)
    (case p4 => k_is)
    (case p5 => k_is)
    (case p6 => k_is)
    (case p7 => k_is)
    (case p8 => k_is)
    (case sC => first | rfl | k_is)
    (case gK => repeat (first | exact True.intro | refine ⟨⟨_, _, rfl, rfl⟩, ?_⟩))
    (case gK2 => repeat (first | exact True.intro | refine ⟨⟨_, _, rfl, rfl⟩, ?_⟩))
#print axioms PySem.Challenge.cw_countedonce_k21_hot_keys_holds

