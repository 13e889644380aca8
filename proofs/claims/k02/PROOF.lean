import PyProof.Rows.All
import Wide.All
import OpenK.AllK
import Wide.FinOn
import HandS.Base
import HandS.Call
import HandS.List
import HandS.Dict
import HandS.Set
import HandS.Strs
import HandS.TupSets
import HandS.Ends
import HandS.Words
import HandS.More
import HandS.Comp
import HandS.WordsList
import HandS.Wide
import HandS.TupAny
import HandS.Style
import PySem.Challenge.RW_countedonce_k02_whole_fold_states
set_option Elab.async false
set_option linter.all false
set_option maxRecDepth 100000
set_option maxHeartbeats 4000000
namespace Yk
open PySem PySem.Spec PyProof.Rows L2
/-! ### sets of ints and texts, their members told -/
def kOf : Value → L2.Key
  | .int i _ => .inl i
  | .str x _ => .inr x
  | _ => .inl 0
/-- an int or a text -/
def Plain (v : Value) : Prop := (∃ i t, v = .int i t) ∨ ∃ x t, v = .str x t
theorem plain_scan {v : Value} (h : Plain v) : v.scannable = true := by
  rcases h with ⟨i, t, rfl⟩ | ⟨x, t, rfl⟩ <;> rfl
section
variable {P : Program} {w : World}
theorem plain_is {v : Value} (h : Plain v) : (mixKind P w).is (kOf v) v = true := by
  rcases h with ⟨i, t, rfl⟩ | ⟨x, t, rfl⟩
  · exact mixKind_int P w i t
  · exact mixKind_str P w x t
theorem is_iff {v : Value} (h : Plain v) (k : L2.Key) : (mixKind P w).is k v = true ↔ kOf v = k :=
  ⟨fun e => (mixKind P w).inj v _ _ (plain_is h) e, fun e => e ▸ plain_is h⟩
theorem rel_plain {k : L2.Key} {u : Value} (r : RelV (kV k) u) : Plain u ∧ kOf u = k := by
  cases k with
  | inl i =>
    obtain ⟨t, rfl⟩ : ∃ t, u = Value.int i t := r
    exact ⟨.inl ⟨i, t, rfl⟩, rfl⟩
  | inr x =>
    obtain ⟨t, rfl⟩ : ∃ t, u = Value.str x t := r
    exact ⟨.inr ⟨x, t, rfl⟩, rfl⟩
def Row (P : Program) (w : World) (e : Int × Value) : Prop := Plain e.2 ∧ e.1 = (mixKind P w).hash (kOf e.2)
/-- at a: a set, its members L in the order of its rows -/
def SetQ (P : Program) (w : World) (h : Heap) (a : Addr) (L : List L2.Key) : Prop :=
  ∃ o es ep t, h.get? a = some o ∧ o.ExactSet ∧ o.data = .set es ep t ∧ (∀ e ∈ es.toList, Row P w e) ∧ L = es.toList.map (fun e => kOf e.2) ∧ L.Nodup ∧
    es.size < scanBound ∧ t.fits es.size = true ∧ Ris t.place.toList ∧ (w.params.followText "set-order" = true ∨ t.led = true)
variable {h h' : Heap} {a : Addr} {L : List L2.Key}
theorem SetQ.at (R : SetQ P w h a L) (k : ∀ o, h.get? a = some o → h'.get? a = some o) : SetQ P w h' a L := by
  obtain ⟨o, es, ep, t, ho, r⟩ := R
  exact ⟨o, es, ep, t, k o ho, r⟩
theorem SetQ.there (R : SetQ P w h a L) : ∃ o, h.get? a = some o := let ⟨o, _, _, _, ho, _⟩ := R; ⟨o, ho⟩
theorem rows_elems {l : List (Int × Value)} (g : ∀ e ∈ l, Row P w e) : ElemsOf (mixKind P w) l := fun e he => ⟨⟨kOf e.2, plain_is (g e he).1, (g e he).2⟩, plain_scan (g e he).1⟩
theorem new_set {led : Bool} (hl : w.params.followText "set-order" = true ∨ led = true) (hg : h.get? a = some { cls := .type "set", dict := none, data := .set #[] 0 (.fresh 0 0 led), slots := #[] }) : SetQ P w h a [] :=
  ⟨_, #[], 0, _, hg, ⟨rfl, rfl, rfl⟩, rfl, fun e he => by simp at he, rfl, List.nodup_nil, by decide, rfl, List.Pairwise.nil, hl⟩
end
section
variable {P : Program} {w : World} {A : Around} {E : Value → Shared → Prop} {s : Shared} {a : Addr} {L : List L2.Key}
/-- behind the laying of a row: perhaps the whole table is laid anew -/
theorem lay_rest {g : Bool → Sem Unit} (hg : ∀ (b : Bool) (s₁ : Shared) (R : Unit → Shared → Prop), R () s₁ → wpAny (model P w) A (g b) R E s₁) {o : Obj} {es : Array (Int × Value)} {ep : Nat} {t : SetTable} (ho : s.heap.get? a = some o) (hx : o.ExactSet)
    (hd : o.data = .set es ep t) {fs : Array (Int × Value)} {u : SetTable} (gr : ∀ e ∈ fs.toList, Row P w e) (nd : (fs.toList.map fun e => kOf e.2).Nodup) (hb : fs.size < scanBound) (hf : u.fits fs.size = true) (hr : Ris u.place.toList)
    (hl : w.params.followText "set-order" = true ∨ u.led = true) {dum : Bool} {R : Option Bool → Shared → Prop}
    (q : ∀ h' M, Heap.SameBut a s.heap h' → M.Perm (fs.toList.map fun e => kOf e.2) → SetQ P w h' a M → R (some true) { s with heap := h' }) :
    wpAny (model P w) A (do
      storeSet a fs u
      if (!dum && u.tooFull) = true then do
        g (relayAll u fs (SetTable.grown fs.size)).2.2
        storeSet a (relayAll u fs (SetTable.grown fs.size)).1 (relayAll u fs (SetTable.grown fs.size)).2.1
        pure (some true)
      else pure (some true)) R E s := by
  refine wpAny_bind (wpAny_storeSet_of ho hd ?_ (fits_of_scanBound hb))
  have o1 := store_at (es' := fs) (t' := u) ho hd
  have b1 := Heap.SameBut.update s.heap a (Obj.putSet fs u)
  split
  · have p1 := relayAll_perm u fs (SetTable.grown fs.size)
    have p2 := relayAll_fits u fs (SetTable.grown fs.size)
    have p3 := relayAll_ris u fs (SetTable.grown fs.size)
    have p4 := relayAll_led u fs (SetTable.grown fs.size)
    generalize relayAll u fs (SetTable.grown fs.size) = Z at p1 p2 p3 p4 ⊢
    obtain ⟨gs, v, gv⟩ := Z
    dsimp only at p1 p2 p3 p4 ⊢
    have sz : gs.size = fs.size := by
      have z := p1.length_eq
      rw [Array.length_toList, Array.length_toList] at z
      exact z
    refine wpAny_bind (hg _ _ _ ?_)
    refine wpAny_bind (wpAny_storeSet_of o1 rfl ?_ (fits_of_scanBound (by rw [sz]; exact hb)))
    have o2 := store_at (es' := gs) (t' := v) o1 rfl
    have pk := p1.map fun e : Int × Value => kOf e.2
    refine wpAny_pure (q _ (gs.toList.map fun e => kOf e.2) (b1.trans (Heap.SameBut.update _ a _)) pk ?_)
    refine ⟨_, gs, _, v, o2, hx, rfl, fun e he => gr e (p1.mem_iff.mp he), rfl, pk.nodup_iff.mpr nd, by rw [sz]; exact hb, p2, p3, ?_⟩
    rcases hl with z | z
    · exact .inl z
    · exact .inr (p4.trans z)
  · exact wpAny_pure (q _ _ b1 (List.Perm.refl _) ⟨_, fs, _, u, o1, hx, rfl, gr, rfl, nd, hb, hf, hr, hl⟩)
/-- s.add(x) behind the hash -/
theorem add_row {x : Value} (hx : Plain x) {Q : Bool → Shared → Prop} (R : SetQ P w s.heap a L) (room : L.length + 1 < scanBound)
    (q : ∀ h' M b, Heap.SameBut a s.heap h' → SetQ P w h' a M → ((kOf x ∈ L ∧ M = L) ∨ (kOf x ∉ L ∧ M.Perm (kOf x :: L))) → Q b { s with heap := h' }) :
    wpAny (model P w) A (setAddHashed a x ((mixKind P w).hash (kOf x))) Q E s := by
  obtain ⟨o, es, ep, t, ho, hex, hd, g, rfl, nd, hb, hf, hr, hl⟩ := R
  have key := plain_is (P := P) (w := w) hx
  have el : ElemsOf (mixKind P w) es.toList := rows_elems g
  unfold setAddHashed setAddHashedIn
  refine wpAny_holding (wpAny_bind (wpAny_setState_of ho hd hf ?_))
  dsimp only
  rw [byScan_of (plain_scan hx) hb el]
  simp only [↓reduceIte]
  unfold setAddByScan
  refine wpAny_bind ?_
  refine wpAny_bind (wpAny_rule ?_)
  refine wpAny_bind (wpAny_setScan_of key ho hd hf el ?_)
  cases fi : List.findIdx? (fun e => (mixKind P w).is (kOf x) e.2) es.toList with
  | some j =>
    dsimp only
    obtain ⟨hj, pj, _⟩ := List.findIdx?_eq_some_iff_getElem.mp fi
    have hm : kOf x ∈ es.toList.map fun e => kOf e.2 := List.mem_map.mpr ⟨es.toList[j], List.getElem_mem hj, (is_iff (g _ (List.getElem_mem hj)).1 _).mp pj⟩
    exact wpAny_pure (wpAny_pure (q s.heap _ _ (Heap.SameBut.refl a s.heap) ⟨o, es, ep, t, ho, hex, hd, g, rfl, nd, hb, hf, hr, hl⟩ (.inl ⟨hm, rfl⟩)))
  | none =>
    dsimp only
    have hm : kOf x ∉ es.toList.map fun e => kOf e.2 := fun z => by
      obtain ⟨e, he, k⟩ := List.mem_map.mp z
      have c := List.findIdx?_eq_none_iff.mp fi e he
      rw [(is_iff (g e he).1 _).mpr k] at c
      cases c
    have gw : ∀ (b : Bool) {s₁ : Shared} {R : Unit → Shared → Prop}, R () s₁ → wpAny (model P w) A (match b with | true => rule "set.scan.the-table-gave-way" | false => pure ()) R E s₁ := fun b s₁ R z => by
      cases b
      · exact wpAny_pure z
      · exact wpAny_rule z
    have p1 := layNew_perm t es ((mixKind P w).hash (kOf x)) x
    have p2 := layNew_fits t es ((mixKind P w).hash (kOf x)) x
    have p3 := layNew_ris t es ((mixKind P w).hash (kOf x)) x hr
    have p4 := layNew_led t es ((mixKind P w).hash (kOf x)) x
    generalize layNew t es ((mixKind P w).hash (kOf x)) x = Z at p1 p2 p3 p4 ⊢
    obtain ⟨fs, u, dum, gv⟩ := Z
    dsimp only at p1 p2 p3 p4 ⊢
    rw [Array.toList_push] at p1
    have pc : fs.toList.Perm (((mixKind P w).hash (kOf x), x) :: es.toList) := p1.trans (List.perm_append_singleton _ _)
    have pk : (fs.toList.map fun e => kOf e.2).Perm (kOf x :: es.toList.map fun e => kOf e.2) := pc.map fun e : Int × Value => kOf e.2
    have gr : ∀ e ∈ fs.toList, Row P w e := fun e he => by
      rcases List.mem_cons.mp (pc.mem_iff.mp he) with rfl | z
      · exact ⟨hx, rfl⟩
      · exact g e z
    have n1 : (fs.toList.map fun e => kOf e.2).Nodup := pk.nodup_iff.mpr (List.nodup_cons.mpr ⟨hm, nd⟩)
    have sz : fs.size < scanBound := by
      have z := pc.length_eq
      rw [Array.length_toList, List.length_cons] at z
      rw [List.length_map] at room
      omega
    have ld : w.params.followText "set-order" = true ∨ u.led = true := by
      rcases hl with z | z
      · exact .inl z
      · exact .inr (p4.trans z)
    have fin : ∀ h' M, Heap.SameBut a s.heap h' → M.Perm (fs.toList.map fun e => kOf e.2) → SetQ P w h' a M → Q true { s with heap := h' } := fun h' M sb pm r => q h' M true sb r (.inr ⟨hm, pm.trans pk⟩)
    refine wpAny_bind (gw _ ?_)
    split
    · refine wpAny_bind ?_
      rw [hashByValue_scannable 8 (plain_scan hx)]
      refine wpAny_pure ?_
      refine lay_rest (fun b s₁ R z => gw b z) ho hex hd gr n1 sz ?_ ?_ ?_ fun h' M sb pm r => ?_
      · split
        · exact p2
        · exact SetTable.fits_plain_off p2
      · split <;> exact p3
      · split <;> exact ld
      · dsimp only
        exact wpAny_pure (fin h' M sb pm r)
    · refine wpAny_bind (wpAny_pure ?_)
      simp only [↓reduceIte]
      refine lay_rest (fun b s₁ R z => gw b z) ho hex hd gr n1 sz p2 p3 ld fun h' M sb pm r => ?_
      dsimp only
      exact wpAny_pure (fin h' M sb pm r)
/-- the loop of set(xs) -/
theorem fill {R : Result → Shared → Prop} {I : Addr} {fp wr : List Addr} {G : Array GenState → Array GenState → Prop} {n : Nat} {V : Nat → Value → Prop} {St : Nat → Shared → Prop} (W : WalksS P w A.in1 I fp wr G n V St) (S : Addr) (hS : S ∉ fp)
    (ks : List L2.Key) (hn : ks.length = n) (hb : n < 1000) (hv : ∀ i v, V i v → Plain v ∧ ks[i]? = some (kOf v)) :
    ∀ (k i : Nat) (s : Shared) (M : List L2.Key), n - i = k → i ≤ n → St i s → SetQ P w s.heap S M → M.length ≤ i → (∀ z, z ∈ M ↔ z ∈ ks.take i) →
      (∀ s' M', Moved (S :: wr) G s s' → SetQ P w s'.heap S M' → (∀ z, z ∈ M' ↔ z ∈ ks) → R (.ok (.ret .none)) s') → codeAny (model P w) A (.builtin "set.update.loop" ⟨[.ref S, .ref I], []⟩) R s := by
  have hw : S ∉ wr := fun z => hS (W.sub _ z)
  have sub : ∀ b ∈ wr, b ∈ S :: wr := fun b z => List.mem_cons_of_mem _ z
  intro k
  induction k with
  | zero =>
    intro i s M hk hi st hM _ hz q
    have e : i = n := by omega
    subst e
    refine codeAny_builtin PyProof.Rows.F.entry_set_update_loop ?_
    rw [Around.under_plainId PyProof.Rows.F.plain_set_update_loop _]
    show wpAny _ A.in1 (pyNext (.ref I) >>= _) _ _ s
    refine wpAny_bind (W.done s _ _ st fun s' mv => ?_)
    show wpAny _ A.in1 (ret Value.none) _ _ s'
    refine wpAny_pure (q s' M (mv.mono sub) (hM.at fun o z => mv.heap S o hw z) fun z => ?_)
    rw [hz z, ← hn, List.take_length]
  | succ k ih =>
    intro i s M hk hi st hM hl hz q
    have lt : i < n := by omega
    refine codeAny_builtin PyProof.Rows.F.entry_set_update_loop ?_
    rw [Around.under_plainId PyProof.Rows.F.plain_set_update_loop _]
    show wpAny _ A.in1 (pyNext (.ref I) >>= _) _ _ s
    refine wpAny_bind (W.item i s _ _ lt st fun v s' hP st' mv => ?_)
    obtain ⟨pl, kv⟩ := hv i v hP
    have hM' : SetQ P w s'.heap S M := hM.at fun o z => mv.heap S o hw z
    show wpAny _ A.in1 (holding [v] (setAdd S v) >>= _) _ _ s'
    refine wpAny_bind (wpAny_holding ?_)
    unfold setAdd
    refine wpAny_holding ?_
    refine wpAny_bind ((mixKind P w).pyHash (plain_is pl) ?_)
    refine add_row (s := { s' with toks := s'.toks + 1 }) pl hM' (by unfold scanBound; omega) fun h' M' b sb r hM2 => ?_
    have tk : ks.take (i + 1) = ks.take i ++ [kOf v] := by
      obtain ⟨hlt, e⟩ := List.getElem?_eq_some_iff.mp kv
      rw [← e]
      exact List.take_succ_eq_append_getElem hlt
    have l2 : M'.length ≤ i + 1 := by
      rcases hM2 with ⟨_, rfl⟩ | ⟨_, pm⟩
      · omega
      · rw [pm.length_eq, List.length_cons]
        omega
    have z2 : ∀ z, z ∈ M' ↔ z ∈ ks.take (i + 1) := fun z => by
      rw [tk, List.mem_append, List.mem_singleton, ← hz z]
      rcases hM2 with ⟨hm, rfl⟩ | ⟨_, pm⟩
      · exact ⟨.inl, fun y => y.elim id fun e => e ▸ hm⟩
      · rw [pm.mem_iff, List.mem_cons]
        exact Or.comm
    refine wpAny_pure ⟨plainId_quiet PyProof.Rows.F.plain_set_update_loop _, ih (i + 1) _ M' (by omega) lt (W.frame _ s' _ _ st' (Nat.le_succ _) fun c hc o z => ?_) r l2 z2 fun s2 M2 mv2 r2 f2 => ?_⟩
    · exact (sb.2 c fun e => hS (e ▸ hc)).trans z
    · refine q s2 M2 (Moved.trans W.gtrans ((mv.mono sub).then_heap (Nat.le_succ _) fun c o hc z => ?_) mv2) r2 f2
      exact (sb.2 c fun e => hc (e ▸ List.mem_cons_self)).trans z
end
end Yk

namespace Yk
open PySem PySem.Spec PyProof.Rows L2
abbrev ob0 (w : World) : Obj := { cls := .type "set", dict := none, data := .set #[] 0 (.fresh 0 0 (!w.params.followText "set-order")) }
section
variable {P : Program} {w : World} {A : Around} {E : Value → Shared → Prop} {s : Shared}

set_option maxHeartbeats 8000000 in
/-- set(x), x a list of ints and texts -/
theorem call_set_list {l : Addr} {items : Array Value} {ks : List L2.Key} {Q : Value → Shared → Prop} (hh : A.handled = none) (hl : s.heap.IsList l items) (hk : ks.length = items.size) (hv : ∀ (i : Nat) (v : Value), items[i]? = some v → Plain v ∧ ks[i]? = some (kOf v)) (few : ks.length < 1000)
    (q : ∀ (h' : Heap) (tk : Nat) (M : List L2.Key), SetQ P w h' s.heap.objs.size M → (∀ z, z ∈ M ↔ z ∈ ks) → (∀ b o, s.heap.get? b = some o → h'.get? b = some o) → Q (.ref s.heap.objs.size) { s with heap := h', toks := tk }) :
    wpAny (model P w) A (call (.type "set") [.ref l]) Q E s := by
  obtain ⟨c, tl, mr⟩ := PySem.F.called_set.mro
  have md := PySem.F.called_set.made
  have sb := PySem.F.called_set.sub
  refine wpAny_call (codeAny_of_tree ?_)
  show wpAny _ _ (callAny (.type "set") _) _ _ _
  refine wpAny_pure ⟨Code.quiet_builtin _ (by decide +kernel), codeAny_builtin PySem.F.entry_type_call ?_⟩
  rw [Around.under_plain (weight_type_call_type "set" [.ref l] []) rfl]
  have t1 := PySem.F.called_set.notType
  have t2 := PySem.F.called_set.canCreate
  have t3 := PySem.F.typeCall_set_1 (.ref l)
  repeat (any_goals (first | assumption | wp_step))
  refine codeAny_mono (code_set_led1 (.ref l) (E := E) (Q₁ := fun ob s₁ => ob = .ref s.heap.objs.size ∧ s₁ = { s with heap := s.heap.push (ob0 w) }) ⟨rfl, rfl⟩) fun r s₁ hr => ?_
  cases r with
  | error e => exact hr
  | ok fl =>
    cases fl with
    | ret ob =>
      obtain ⟨rfl, rfl⟩ := hr
      have gS : (s.heap.push (ob0 w)).get? s.heap.objs.size = some (ob0 w) := Heap.get?_push_size _ rfl
      have ty : Shared.TypeIs { s with heap := s.heap.push (ob0 w) } (.ref s.heap.objs.size) "set" := ⟨_, gS, rfl⟩
      have i1 := PySem.F.called_set.init.lookup
      have i2 := PySem.F.called_set.init.bind (.ref s.heap.objs.size)
      repeat (any_goals (first | assumption | wp_step))
      refine codeAny_mono (codeAny_call_builtin (R := wants (fun r s₂ => r = .none ∧ ∃ h' tk M, s₂ = { s with heap := h', toks := tk } ∧ SetQ P w h' s.heap.objs.size M ∧ (∀ z, z ∈ M ↔ z ∈ ks) ∧ (∀ b o, s.heap.get? b = some o → h'.get? b = some o)) E)
        PySem.F.called_set.init.plain PySem.F.entry_set_init (check_set_init_1 ty ?_)) fun r₂ s₂ hr₂ => ?_
      · obtain ⟨ol, go, cl, nl, da⟩ := hl
        obtain ⟨oc, od, odt, osl⟩ := ol
        simp only at cl da
        subst cl
        subst da
        have g1 : (s.heap.push (ob0 w)).get? l = some { cls := .type "list", dict := od, data := .seq items nl, slots := osl } := Heap.get?_push_of_some _ go
        have u1 := PySem.F.sub_list_set
        have u2 := PySem.F.sub_list_frozenset
        have u3 : (Value.type "list" == Value.type "dict") = false := by decide
        have l1 : (s.heap.push (ob0 w)).IsList l items := ⟨_, g1, rfl, nl, rfl⟩
        unfold Builtin.«set.__init__» noKeywords Builtin.Frozenset.updateFrom
        generalize hPI : pyIter = PI
        wp_walk
        subst hPI
        refine wpAny_pyIter_list l1 ?_
        refine wpAny_bind (wpAny_runValue ?_)
        have lt : l < s.heap.objs.size := Heap.lt_size go
        have h3 : A.in1.in1.in1.handled = none := by simp [hh]
        have z1 : (s.heap.push (ob0 w)).objs.size = s.heap.objs.size + 1 := Heap.size_push ..
        have n1 : l ≠ (s.heap.push (ob0 w)).objs.size := by
          rw [z1]
          exact Nat.ne_of_lt (Nat.lt_succ_of_lt lt)
        have n2 : s.heap.objs.size ∉ [(s.heap.push (ob0 w)).objs.size, l] := by
          rw [z1]
          simp only [List.mem_cons, List.not_mem_nil, or_false, not_or]
          exact ⟨Nat.ne_of_lt (Nat.lt_succ_self _), Nat.ne_of_gt lt⟩
        refine fill ((Walks.list h3 _ l n1 items).toS) s.heap.objs.size n2 ks hk (by omega) hv (items.size - 0) 0 _ [] rfl (Nat.zero_le _) ⟨⟨_, Heap.get?_push_size _ rfl, rfl, rfl⟩, l1.push _⟩ (new_set (led := !w.params.followText "set-order") ?_ (Heap.get?_push_of_some _ gS)) (Nat.le_refl _)
          (fun z => by simp) fun s' M mv r f => ?_
        · cases w.params.followText "set-order"
          · exact .inr rfl
          · exact .inl rfl
        · obtain ⟨h', g2, d', tk', os'⟩ := s'
          have eg : g2 = s.gens := mv.gens
          have ed : d' = s.drawn := mv.drawn
          have eo : os' = s.os := mv.os
          subst eg
          subst ed
          subst eo
          show wpAny _ _ _ _ _ _
          refine wpAny_pure ?_
          show wpAny _ _ (ret Value.none) _ _ _
          refine wpAny_pure ⟨rfl, h', tk', M, rfl, r, f, fun b o e => ?_⟩
          have hb := Heap.lt_size e
          refine mv.heap b o ?_ (Heap.get?_push_of_some _ (Heap.get?_push_of_some _ e))
          rw [z1]
          simp only [List.mem_cons, List.not_mem_nil, or_false, not_or]
          exact ⟨Nat.ne_of_lt hb, Nat.ne_of_lt (Nat.lt_succ_of_lt hb)⟩
      · cases r₂ with
        | error e => exact hr₂
        | ok fl₂ =>
          cases fl₂ with
          | ret r =>
            obtain ⟨rfl, h', tk, M, rfl, r, f, k⟩ := hr₂
            repeat (any_goals (first | assumption | wp_step))
            exact q _ _ M r f k
          | _ => exact hr₂.elim
    | _ => exact hr.elim

set_option maxHeartbeats 8000000 in
/-- set(x), x a tuple of ints and texts -/
theorem call_set_tuple {l : Addr} {items : Array Value} {ks : List L2.Key} {Q : Value → Shared → Prop} (hh : A.handled = none) (hl : s.heap.IsTuple l items) (hk : ks.length = items.size) (hv : ∀ (i : Nat) (v : Value), items[i]? = some v → Plain v ∧ ks[i]? = some (kOf v)) (few : ks.length < 1000)
    (q : ∀ (h' : Heap) (tk : Nat) (M : List L2.Key), SetQ P w h' s.heap.objs.size M → (∀ z, z ∈ M ↔ z ∈ ks) → (∀ b o, s.heap.get? b = some o → h'.get? b = some o) → Q (.ref s.heap.objs.size) { s with heap := h', toks := tk }) :
    wpAny (model P w) A (call (.type "set") [.ref l]) Q E s := by
  obtain ⟨c, tl, mr⟩ := PySem.F.called_set.mro
  have md := PySem.F.called_set.made
  have sb := PySem.F.called_set.sub
  refine wpAny_call (codeAny_of_tree ?_)
  show wpAny _ _ (callAny (.type "set") _) _ _ _
  refine wpAny_pure ⟨Code.quiet_builtin _ (by decide +kernel), codeAny_builtin PySem.F.entry_type_call ?_⟩
  rw [Around.under_plain (weight_type_call_type "set" [.ref l] []) rfl]
  have t1 := PySem.F.called_set.notType
  have t2 := PySem.F.called_set.canCreate
  have t3 := PySem.F.typeCall_set_1 (.ref l)
  repeat (any_goals (first | assumption | wp_step))
  refine codeAny_mono (code_set_led1 (.ref l) (E := E) (Q₁ := fun ob s₁ => ob = .ref s.heap.objs.size ∧ s₁ = { s with heap := s.heap.push (ob0 w) }) ⟨rfl, rfl⟩) fun r s₁ hr => ?_
  cases r with
  | error e => exact hr
  | ok fl =>
    cases fl with
    | ret ob =>
      obtain ⟨rfl, rfl⟩ := hr
      have gS : (s.heap.push (ob0 w)).get? s.heap.objs.size = some (ob0 w) := Heap.get?_push_size _ rfl
      have ty : Shared.TypeIs { s with heap := s.heap.push (ob0 w) } (.ref s.heap.objs.size) "set" := ⟨_, gS, rfl⟩
      have i1 := PySem.F.called_set.init.lookup
      have i2 := PySem.F.called_set.init.bind (.ref s.heap.objs.size)
      repeat (any_goals (first | assumption | wp_step))
      refine codeAny_mono (codeAny_call_builtin (R := wants (fun r s₂ => r = .none ∧ ∃ h' tk M, s₂ = { s with heap := h', toks := tk } ∧ SetQ P w h' s.heap.objs.size M ∧ (∀ z, z ∈ M ↔ z ∈ ks) ∧ (∀ b o, s.heap.get? b = some o → h'.get? b = some o)) E)
        PySem.F.called_set.init.plain PySem.F.entry_set_init (check_set_init_1 ty ?_)) fun r₂ s₂ hr₂ => ?_
      · obtain ⟨ol, go, cl, nl, da⟩ := hl
        obtain ⟨oc, od, odt, osl⟩ := ol
        simp only at cl da
        subst cl
        subst da
        have g1 : (s.heap.push (ob0 w)).get? l = some { cls := .type "tuple", dict := od, data := .seq items nl, slots := osl } := Heap.get?_push_of_some _ go
        have u1 := PySem.F.sub_tuple_set
        have u2 := PySem.F.sub_tuple_frozenset
        have u3 : (Value.type "tuple" == Value.type "dict") = false := by decide
        have l1 : (s.heap.push (ob0 w)).IsTuple l items := ⟨_, g1, rfl, nl, rfl⟩
        unfold Builtin.«set.__init__» noKeywords Builtin.Frozenset.updateFrom
        generalize hPI : pyIter = PI
        wp_walk
        subst hPI
        refine wpAny_pyIter_tuple l1 ?_
        refine wpAny_bind (wpAny_runValue ?_)
        have lt : l < s.heap.objs.size := Heap.lt_size go
        have h3 : A.in1.in1.in1.handled = none := by simp [hh]
        have z1 : (s.heap.push (ob0 w)).objs.size = s.heap.objs.size + 1 := Heap.size_push ..
        have n1 : l ≠ (s.heap.push (ob0 w)).objs.size := by
          rw [z1]
          exact Nat.ne_of_lt (Nat.lt_succ_of_lt lt)
        have n2 : s.heap.objs.size ∉ [(s.heap.push (ob0 w)).objs.size, l] := by
          rw [z1]
          simp only [List.mem_cons, List.not_mem_nil, or_false, not_or]
          exact ⟨Nat.ne_of_lt (Nat.lt_succ_self _), Nat.ne_of_gt lt⟩
        refine fill ((Walks.tuple h3 _ l n1 items).toS) s.heap.objs.size n2 ks hk (by omega) hv (items.size - 0) 0 _ [] rfl (Nat.zero_le _) ⟨⟨_, Heap.get?_push_size _ rfl, rfl, rfl⟩, l1.push _⟩ (new_set (led := !w.params.followText "set-order") ?_ (Heap.get?_push_of_some _ gS)) (Nat.le_refl _)
          (fun z => by simp) fun s' M mv r f => ?_
        · cases w.params.followText "set-order"
          · exact .inr rfl
          · exact .inl rfl
        · obtain ⟨h', g2, d', tk', os'⟩ := s'
          have eg : g2 = s.gens := mv.gens
          have ed : d' = s.drawn := mv.drawn
          have eo : os' = s.os := mv.os
          subst eg
          subst ed
          subst eo
          show wpAny _ _ _ _ _ _
          refine wpAny_pure ?_
          show wpAny _ _ (ret Value.none) _ _ _
          refine wpAny_pure ⟨rfl, h', tk', M, rfl, r, f, fun b o e => ?_⟩
          have hb := Heap.lt_size e
          refine mv.heap b o ?_ (Heap.get?_push_of_some _ (Heap.get?_push_of_some _ e))
          rw [z1]
          simp only [List.mem_cons, List.not_mem_nil, or_false, not_or]
          exact ⟨Nat.ne_of_lt hb, Nat.ne_of_lt (Nat.lt_succ_of_lt hb)⟩
      · cases r₂ with
        | error e => exact hr₂
        | ok fl₂ =>
          cases fl₂ with
          | ret r =>
            obtain ⟨rfl, h', tk, M, rfl, r, f, k⟩ := hr₂
            repeat (any_goals (first | assumption | wp_step))
            exact q _ _ M r f k
          | _ => exact hr₂.elim
    | _ => exact hr.elim

end
/-! ### as rules -/
def SetKO (P : Program) (w : World) (a : Addr) (L : List L2.Key) : HO := .ext fun h => SetQ P w h a L
theorem setKO_new {P : Program} {w : World} {H : Hp} {h : Heap} {a : Addr} {L : List L2.Key} (R : SetQ P w h a L) : ObjOk P w H h a (SetKO P w a L) := ⟨R, R.there, fun h1 h2 p k => SetQ.at p k⟩
section
variable {X : Cx}
theorem setKO_get {pins : List (Addr × Obj)} {σ : L2.St} {H : Hp} {s : Shared} {a : Addr} {L : List L2.Key} (I : Inv X pins σ H s) (ha : H a = some (SetKO X.prog X.w a L)) : SetQ X.prog X.w s.heap a L := (I.hok a _ ha).1
theorem keys_at {ks : List L2.Key} {us : List Value} (r : Vals (ks.map kV) us) : ks.length = us.toArray.size ∧ ∀ (i : Nat) (v : Value), us.toArray[i]? = some v → Plain v ∧ ks[i]? = some (kOf v) := by
  have hl : ks.length = us.length := by
    have z := r.length
    rw [List.length_map] at z
    exact z
  refine ⟨by simpa using hl, fun i v hv => ?_⟩
  have hv' : us[i]? = some v := by simpa using hv
  have hi : i < ks.length := by
    rw [hl]
    exact (List.getElem?_eq_some_iff.mp hv').1
  obtain ⟨u, hu, ru⟩ := r.get (i := i) (x := kV ks[i]) (by rw [List.getElem?_map, List.getElem?_eq_getElem hi] <;> rfl)
  rw [hv'] at hu
  cases hu
  obtain ⟨p, e⟩ := rel_plain ru
  exact ⟨p, by rw [e]; exact List.getElem?_eq_getElem hi⟩
/-- set(xs), a list or a tuple of ints and texts -/
def rSetK (K : PySem.W.Frag) (P : Program) (w : World) : List V → Hp → VK → Prop := fun xs H Q => ∃ (a : Addr) (ks : List L2.Key), xs = [.ref a] ∧ (SqL K H a (ks.map kV) ∨ SqT K H a (ks.map kV)) ∧ ks.length < 1000 ∧
  ∀ (p : Addr) (M : List L2.Key), M.Nodup → (∀ z, z ∈ M ↔ z ∈ ks) → H p = none → Q (.ref p) (upd H p (SetKO P w p M))
theorem SetQ.nd {P : Program} {w : World} {h : Heap} {a : Addr} {L : List L2.Key} (R : SetQ P w h a L) : L.Nodup := let ⟨_, _, _, _, _, _, _, _, _, n, _⟩ := R; n
theorem cr_setK (hc : X.calm = true) : CallR X (.type "set") (rSetK X.K X.prog X.w) := by
  intro pins s σ H xs us Q I r h
  obtain ⟨a, ks, rfl, hs, few, q⟩ := h
  rw [Vals.ref1 r]
  have fin : ∀ (h' : Heap) (tk : Nat) (M : List L2.Key), SetQ X.prog X.w h' s.heap.objs.size M → (∀ z, z ∈ M ↔ z ∈ ks) → (∀ b o, s.heap.get? b = some o → h'.get? b = some o) → EP X pins σ Q (.ref s.heap.objs.size) { s with heap := h', toks := tk } := fun h' tk M R f k =>
    ⟨.ref _, upd H s.heap.objs.size (SetKO X.prog X.w s.heap.objs.size M), I.laid (t' := tk) k (Nat.le_refl _) (setKO_new R), rfl, q _ M R.nd f (I.hok.fresh (Nat.le_refl _))⟩
  rcases hs with hs | hs
  · obtain ⟨its, rv, pl, _⟩ := I.list hs
    obtain ⟨e, v⟩ := keys_at rv
    exact call_set_list (I.ok.hd hc) pl.isList e v few fin
  · obtain ⟨its, rv, pl, _⟩ := I.tuple hs
    obtain ⟨e, v⟩ := keys_at rv
    exact call_set_tuple (I.ok.hd hc) (show s.heap.IsTuple a its.toArray from pl) e v few fin
end
end Yk

namespace Yk
open PySem PySem.Spec PyProof.Rows L2
section
variable {P : Program} {w : World} {A : Around} {E : Value → Shared → Prop} {s : Shared} {a : Addr} {L : List L2.Key}
/-- what sorted makes of a set: the list of its members, in some order, put in order by list.sort -/
theorem sorted_of {Q : Value → Shared → Prop} (R : SetQ P w s.heap a L) (hh : A.handled = none)
    (q : ∀ (s1 : Shared) (vs : List Value), (∀ b o, s.heap.get? b = some o → s1.heap.get? b = some o) → s.heap.objs.size ≤ s1.heap.objs.size → s1.gens = s.gens → s1.os = s.os → (∀ v ∈ vs, Plain v) → (vs.map kOf).Perm L →
      wpAny (model P w) A.in1 (call (.builtin "list.sort") [.ref s1.heap.objs.size]) (fun _ s2 => Q (.ref s1.heap.objs.size) s2) E { s1 with heap := s1.heap.push (seqObj "list" vs.toArray 0) }) :
    wpAny (model P w) A (call (.builtin "sorted") [.ref a]) Q E s := by
  obtain ⟨o, es, ep, t, ho, hex, hd, g, rfl, nd, hb, hf, hr, hl⟩ := R
  refine Calls.call_function_entry kind_sorted plain_sorted entry_sorted (args_sorted1 _) ?_
  unfold Builtin.«sorted»
  refine wpAny_bind (m := checkCount "sorted" 1 1 _) (wpAny_pure ?_)
  refine wpAny_bind (collect_set (A := A.in1) hh ⟨o, ho, hex.1, hd⟩ hf hb hr hl fun s1 vs k1 hz g1 o1 pm => ?_)
  have sz : vs.length = es.size := by
    have z := pm.length_eq
    rw [List.length_map, Array.length_toList] at z
    exact z
  have pl : ∀ v ∈ vs, Plain v := fun v hv => by
    obtain ⟨e, he, rfl⟩ := List.mem_map.mp (pm.mem_iff.mp hv)
    exact (g e he).1
  have pk : (vs.map kOf).Perm (es.toList.map fun e => kOf e.2) := by
    have z := pm.map kOf
    rw [List.map_map] at z
    exact z
  refine wpAny_bind (wpAny_newList ?_ (by rw [sz]; exact fits_of_scanBound hb))
  refine wpAny_bind (wpAny_holding (wpAny_mono (q s1 vs k1 hz g1 o1 pl pk) (fun r s2 z => ?_) fun _ _ z => z))
  exact wpAny_pure ⟨_, rfl, z⟩
end
section
variable {X : Cx}
theorem ints_keys : ∀ {vs : List Value} {ns : List Int}, (∀ v ∈ vs, Plain v) → vs.map kOf = ns.map Sum.inl → IntsAre vs ns
  | [], [], _, _ => .nil
  | v :: vs, n :: ns, p, e => by
    injection e with e1 e2
    rcases p v List.mem_cons_self with ⟨i, t, rfl⟩ | ⟨x, t, rfl⟩
    · have : i = n := Sum.inl.inj e1
      subst this
      exact .cons _ _ (ints_keys (fun u hu => p u (List.mem_cons_of_mem _ hu)) e2)
    · cases e1
theorem strs_keys : ∀ {vs : List Value} {ns : List Str}, (∀ v ∈ vs, Plain v) → vs.map kOf = ns.map Sum.inr → StrsAre vs ns
  | [], [], _, _ => .nil
  | v :: vs, n :: ns, p, e => by
    injection e with e1 e2
    rcases p v List.mem_cons_self with ⟨i, t, rfl⟩ | ⟨x, t, rfl⟩
    · cases e1
    · have : x = n := Sum.inr.inj e1
      subst this
      exact .cons _ _ (strs_keys (fun u hu => p u (List.mem_cons_of_mem _ hu)) e2)
theorem perm_ints {l : List L2.Key} {ms : List Int} (h : l.Perm (ms.map Sum.inl)) : ∃ ns : List Int, l = ns.map Sum.inl ∧ ns.Perm ms := by
  have all : ∀ k ∈ l, ∃ n : Int, k = Sum.inl n := fun k hk => by
    obtain ⟨n, _, e⟩ := List.mem_map.mp (h.mem_iff.mp hk)
    exact ⟨n, e.symm⟩
  have e : l = (l.map fun k => match k with | Sum.inl n => n | Sum.inr _ => (0 : Int)).map Sum.inl := by
    rw [List.map_map]
    conv => lhs; rw [← List.map_id l]
    refine List.map_congr_left fun k hk => ?_
    obtain ⟨n, rfl⟩ := all k hk
    rfl
  refine ⟨_, e, ?_⟩
  have z := h.map fun k : L2.Key => match k with | Sum.inl n => n | Sum.inr _ => (0 : Int)
  rw [List.map_map] at z
  have e2 : ms.map ((fun k : L2.Key => match k with | Sum.inl n => n | Sum.inr _ => (0 : Int)) ∘ Sum.inl) = ms := by
    conv => rhs; rw [← List.map_id ms]
    exact List.map_congr_left fun _ _ => rfl
  rw [e2] at z
  exact z
theorem perm_strs {l : List L2.Key} {ms : List Str} (h : l.Perm (ms.map Sum.inr)) : ∃ ns : List Str, l = ns.map Sum.inr ∧ ns.Perm ms := by
  have all : ∀ k ∈ l, ∃ n : Str, k = Sum.inr n := fun k hk => by
    obtain ⟨n, _, e⟩ := List.mem_map.mp (h.mem_iff.mp hk)
    exact ⟨n, e.symm⟩
  have e : l = (l.map fun k => match k with | Sum.inl _ => Str.empty | Sum.inr n => n).map Sum.inr := by
    rw [List.map_map]
    conv => lhs; rw [← List.map_id l]
    refine List.map_congr_left fun k hk => ?_
    obtain ⟨n, rfl⟩ := all k hk
    rfl
  refine ⟨_, e, ?_⟩
  have z := h.map fun k : L2.Key => match k with | Sum.inl _ => Str.empty | Sum.inr n => n
  rw [List.map_map] at z
  have e2 : ms.map ((fun k : L2.Key => match k with | Sum.inl _ => Str.empty | Sum.inr n => n) ∘ Sum.inr) = ms := by
    conv => rhs; rw [← List.map_id ms]
    exact List.map_congr_left fun _ _ => rfl
  rw [e2] at z
  exact z
/-- sorted of such a set, fewer than 64 members -/
def rSortedK (P : Program) (w : World) : List V → Hp → VK → Prop := fun vs H Q => ∃ (a : Addr) (L : List L2.Key), vs = [.ref a] ∧ H a = some (SetKO P w a L) ∧ L.length < 64 ∧
  ((∃ ms : List Int, L = ms.map Sum.inl ∧ ∀ (ns : List Int) (p : Addr), ns.Perm ms → ns.Pairwise (· ≤ ·) → H p = none → Q (.ref p) (upd H p (.lst (ns.map V.int)))) ∨
   ∃ ms : List Str, L = ms.map Sum.inr ∧ ∀ (ns : List Str) (p : Addr), ns.Perm ms → sortedS ns = true → H p = none → Q (.ref p) (upd H p (.lst (ns.map V.str))))
theorem cr_sortedK (hc : X.calm = true) : CallR X (.builtin "sorted") (rSortedK X.prog X.w) := by
  intro pins s σ H xs us Q I r h
  obtain ⟨a, L, rfl, ha, h64, q⟩ := h
  rw [Vals.ref1 r]
  refine sorted_of (setKO_get I ha) (I.ok.hd hc) fun s1 vs k1 hz g1 o1 pl pk => ?_
  have hv : vs.length < 64 := by
    have z := pk.length_eq
    rw [List.length_map] at z
    omega
  have gL : (s1.heap.push (seqObj "list" vs.toArray 0)).get? s1.heap.objs.size = some (seqObj "list" vs.toArray 0) := Heap.get?_push_size _ rfl
  have fin : ∀ (ys : List V) (out : Array Value), Vals ys out.toList → ys.length ≤ sizeLine → Q (.ref s1.heap.objs.size) (upd H s1.heap.objs.size (.lst ys)) →
      EP X pins σ Q (.ref s1.heap.objs.size) { s1 with heap := sortedHeap (s1.heap.push (seqObj "list" vs.toArray 0)) s1.heap.objs.size vs out } := fun ys out rv hy z => by
    obtain ⟨c, hcc⟩ := sortedHeap_at (vs := vs) (out := out) gL
    have k : ∀ b u, s.heap.get? b = some u → (sortedHeap (s1.heap.push (seqObj "list" vs.toArray 0)) s1.heap.objs.size vs out).get? b = some u := fun b u e => by
      have e1 := k1 b u e
      have lt := Heap.lt_size e1
      rw [sortedHeap_old (Nat.ne_of_lt lt) (by rw [size_push']; exact Nat.lt_succ_of_lt lt)]
      exact Heap.get?_push_of_some _ e1
    have hn := I.hok.fresh hz
    have J : Inv X pins σ (upd H s1.heap.objs.size (.lst ys)) { s with heap := sortedHeap (s1.heap.push (seqObj "list" vs.toArray 0)) s1.heap.objs.size vs out, gens := s1.gens, drawn := s1.drawn, toks := s1.toks } :=
      I.call (ch := []) (Un.laid k hz hn) (I.hok.laid k hz ⟨hy, out.toList, c, rv, hcc⟩) (by rw [g1]; exact I.bare) (fun _ z => nomatch z)
    have e : { s1 with heap := sortedHeap (s1.heap.push (seqObj "list" vs.toArray 0)) s1.heap.objs.size vs out } = { s with heap := sortedHeap (s1.heap.push (seqObj "list" vs.toArray 0)) s1.heap.objs.size vs out, gens := s1.gens, drawn := s1.drawn, toks := s1.toks } := by
      cases s1
      cases s
      cases o1
      rfl
    rw [e]
    exact ⟨.ref _, _, J, rfl, z⟩
  rcases q with ⟨ms, rfl, q⟩ | ⟨ms, rfl, q⟩
  · obtain ⟨ns, en, pn⟩ := perm_ints pk
    have iv := ints_keys pl en
    refine wpAny_call_entry slot_list_sort ⟨_, gL, rfl⟩ entry_list_sort (list_sort_tree gL iv hv fun out ns' a1 a2 a3 => ⟨_, rfl, ?_⟩) (args_list_sort _)
    refine fin (ns'.map V.int) out (vals_of_ints a1) ?_ (q ns' _ (a2.trans pn) a3 (I.hok.fresh hz))
    rw [List.length_map, (a2.trans pn).length_eq]
    rw [List.length_map] at h64
    exact Nat.le_trans (Nat.le_of_lt h64) (by decide)
  · obtain ⟨ns, en, pn⟩ := perm_strs pk
    have iv := strs_keys pl en
    refine wpAny_call_entry slot_list_sort ⟨_, gL, rfl⟩ entry_list_sort (list_sort_treeK strKind_oneLt gL iv.keysOf (fun v₁ v₂ rest e => keyKind_strs (by rw [← e]; exact iv)) hv fun st' hp hs => ?_) (args_list_sort _)
    obtain ⟨ys, b1, b2, b3⟩ := sorted_out_str iv hp hs
    refine ⟨_, rfl, ?_⟩
    refine fin (ys.map V.str) _ (vals_of_strs b1) ?_ (q ys _ (b2.trans pn) b3 (I.hok.fresh hz))
    rw [List.length_map, (b2.trans pn).length_eq]
    rw [List.length_map] at h64
    exact Nat.le_trans (Nat.le_of_lt h64) (by decide)
end
end Yk

namespace Kx
open PySem PySem.Spec PyProof.Rows L2
/-! ### keys in order: ints by their size, texts sign by sign -/
def lt : L2.Key → L2.Key → Prop
  | .inl a, .inl b => a < b
  | .inl _, .inr _ => True
  | .inr _, .inl _ => False
  | .inr a, .inr b => a.cps.toList < b.cps.toList
instance : ∀ a b, Decidable (lt a b)
  | .inl a, .inl b => inferInstanceAs (Decidable (a < b))
  | .inl _, .inr _ => inferInstanceAs (Decidable True)
  | .inr _, .inl _ => inferInstanceAs (Decidable False)
  | .inr a, .inr b => inferInstanceAs (Decidable (a.cps.toList < b.cps.toList))
theorem lt_irr (a : L2.Key) : ¬ lt a a := by
  cases a with
  | inl a => exact Int.lt_irrefl a
  | inr a => exact List.lt_irrefl _
theorem lt_tr {a b c : L2.Key} (h : lt a b) (k : lt b c) : lt a c := by
  cases a with
  | inl a =>
    cases c with
    | inr c => trivial
    | inl c =>
      cases b with
      | inl b => exact Int.lt_trans h k
      | inr b => exact k.elim
  | inr a =>
    cases b with
    | inl b => exact h.elim
    | inr b =>
      cases c with
      | inl c => exact k.elim
      | inr c => exact List.lt_trans h k
theorem lt_or {a b : L2.Key} (h : ¬ lt a b) (k : ¬ lt b a) : a = b := by
  cases a with
  | inl a =>
    cases b with
    | inl b =>
      have h' : ¬ a < b := h
      have k' : ¬ b < a := k
      have : a = b := by omega
      rw [this]
    | inr b => exact absurd trivial h
  | inr a =>
    cases b with
    | inl b => exact absurd trivial k
    | inr b =>
      have e : a.cps.toList = b.cps.toList := List.le_antisymm (List.not_lt.mp k) (List.not_lt.mp h)
      congr 1
      obtain ⟨⟨x⟩⟩ := a
      obtain ⟨⟨y⟩⟩ := b
      have e' : x = y := e
      rw [e']
def Asc (l : List L2.Key) : Prop := l.Pairwise lt
/-- what ascends and has the same members is the same -/
theorem asc_eq : ∀ {l m : List L2.Key}, Asc l → Asc m → (∀ k, k ∈ l ↔ k ∈ m) → l = m
  | [], [], _, _, _ => rfl
  | [], y :: m, _, _, h => absurd ((h y).mpr List.mem_cons_self) (by simp)
  | x :: l, [], _, _, h => absurd ((h x).mp List.mem_cons_self) (by simp)
  | x :: l, y :: m, hl, hm, h => by
    have hl' := List.pairwise_cons.mp hl
    have hm' := List.pairwise_cons.mp hm
    have e : x = y := by
      have h1 := (h x).mp List.mem_cons_self
      have h2 := (h y).mpr List.mem_cons_self
      rcases List.mem_cons.mp h1 with e | h1
      · exact e
      rcases List.mem_cons.mp h2 with e | h2
      · exact e.symm
      exact absurd (lt_tr (hl'.1 y h2) (hm'.1 x h1)) (lt_irr x)
    subst e
    congr 1
    refine asc_eq hl'.2 hm'.2 fun k => ⟨fun hk => ?_, fun hk => ?_⟩
    · rcases List.mem_cons.mp ((h k).mp (List.mem_cons_of_mem _ hk)) with e | z
      · rw [e] at hk
        exact absurd (hl'.1 x hk) (lt_irr x)
      · exact z
    · rcases List.mem_cons.mp ((h k).mpr (List.mem_cons_of_mem _ hk)) with e | z
      · rw [e] at hk
        exact absurd (hm'.1 x hk) (lt_irr x)
      · exact z
def ins (x : L2.Key) : List L2.Key → List L2.Key
  | [] => [x]
  | y :: r => if lt x y then x :: y :: r else if lt y x then y :: ins x r else y :: r
theorem mem_ins {x k : L2.Key} : ∀ {l : List L2.Key}, k ∈ ins x l ↔ k = x ∨ k ∈ l
  | [] => by simp [ins]
  | y :: r => by
    unfold ins
    split
    · simp
    split
    · rw [List.mem_cons, mem_ins, List.mem_cons]
      constructor
      · rintro (h | h | h)
        · exact .inr (.inl h)
        · exact .inl h
        · exact .inr (.inr h)
      · rintro (h | h | h)
        · exact .inr (.inl h)
        · exact .inl h
        · exact .inr (.inr h)
    · rename_i a b
      have e := lt_or a b
      subst e
      simp
theorem asc_ins {x : L2.Key} : ∀ {l : List L2.Key}, Asc l → Asc (ins x l)
  | [], _ => List.pairwise_singleton _ _
  | y :: r, h => by
    have h' := List.pairwise_cons.mp h
    unfold ins
    split
    · rename_i a
      refine List.pairwise_cons.mpr ⟨fun k hk => ?_, h⟩
      rcases List.mem_cons.mp hk with e | hk
      · exact e ▸ a
      · exact lt_tr a (h'.1 k hk)
    split
    · rename_i a b
      refine List.pairwise_cons.mpr ⟨fun k hk => ?_, asc_ins h'.2⟩
      rcases mem_ins.mp hk with e | hk
      · exact e ▸ b
      · exact h'.1 k hk
    · exact h
/-- the unlike ones, ascending -/
def sd (l : List L2.Key) : List L2.Key := l.foldr ins []
theorem mem_sd {k : L2.Key} : ∀ {l : List L2.Key}, k ∈ sd l ↔ k ∈ l
  | [] => Iff.rfl
  | x :: l => by
    show k ∈ ins x (sd l) ↔ _
    rw [mem_ins, mem_sd, List.mem_cons]
theorem asc_sd : ∀ l : List L2.Key, Asc (sd l)
  | [] => List.Pairwise.nil
  | x :: l => asc_ins (asc_sd l)
theorem sd_of {l m : List L2.Key} (h : Asc m) (k : ∀ z, z ∈ m ↔ z ∈ l) : m = sd l := asc_eq h (asc_sd l) fun z => (k z).trans mem_sd.symm
theorem sd_len : ∀ l : List L2.Key, (sd l).length ≤ l.length
  | [] => Nat.le_refl 0
  | x :: l => by
    have h : ∀ m : List L2.Key, (ins x m).length ≤ m.length + 1 := fun m => by
      induction m with
      | nil => exact Nat.le_refl _
      | cons y r ih =>
        unfold ins
        split
        · exact Nat.le_refl _
        split
        · exact Nat.succ_le_succ ih
        · exact Nat.le_succ _
    exact Nat.le_trans (h (sd l)) (Nat.succ_le_succ (sd_len l))
theorem sd_perm {l m : List L2.Key} (h : ∀ z, z ∈ l ↔ z ∈ m) : sd l = sd m := sd_of (asc_sd l) fun z => mem_sd.trans (h z)
/-- which ones of the unlike ones a fold keeps -/
def sel (kind : Str) (l : List L2.Key) : List L2.Key := if V.str kind = .str "least" then l.take 1 else if V.str kind = .str "greatest" then l.drop (l.length - 1) else l
theorem sel_sub {kind : Str} {l : List L2.Key} {k : L2.Key} (h : k ∈ sel kind l) : k ∈ l := by
  unfold sel at h
  split at h
  · exact List.mem_of_mem_take h
  split at h
  · exact List.mem_of_mem_drop h
  · exact h
theorem asc_sel {kind : Str} {l : List L2.Key} (h : Asc l) : Asc (sel kind l) := by
  unfold sel
  split
  · exact h.sublist (List.take_sublist _ _)
  split
  · exact h.sublist (List.drop_sublist _ _)
  · exact h
/-- the first of what ascends -/
theorem first_of {l : List L2.Key} (h : Asc l) {x : L2.Key} (hx : x ∈ l) (hm : ∀ y ∈ l, ¬ lt y x) : l.take 1 = [x] := by
  cases l with
  | nil => cases hx
  | cons y r =>
    show [y] = [x]
    rcases List.mem_cons.mp hx with e | z
    · rw [e]
    · exact absurd ((List.pairwise_cons.mp h).1 x z) (hm y List.mem_cons_self)
theorem last_of : ∀ {l : List L2.Key}, Asc l → ∀ {x : L2.Key}, x ∈ l → (∀ y ∈ l, ¬ lt x y) → l.drop (l.length - 1) = [x]
  | [], _, x, hx, _ => by cases hx
  | [y], _, x, hx, _ => by
    rcases List.mem_cons.mp hx with e | z
    · rw [e]
      rfl
    · cases z
  | y :: z :: r, h, x, hx, hm => by
    have h' := List.pairwise_cons.mp h
    have hx2 : x ∈ z :: r := by
      rcases List.mem_cons.mp hx with e | q
      · exact absurd (e ▸ h'.1 z List.mem_cons_self) (hm z (List.mem_cons_of_mem _ List.mem_cons_self))
      · exact q
    exact last_of h'.2 hx2 fun u hu => hm u (List.mem_cons_of_mem _ hu)
theorem first_ex {l : List L2.Key} (h : Asc l) (h0 : l ≠ []) : ∃ x ∈ l, (∀ y ∈ l, ¬ lt y x) ∧ l.take 1 = [x] := by
  cases l with
  | nil => exact absurd rfl h0
  | cons x r =>
    have hm : ∀ y ∈ x :: r, ¬ lt y x := fun y hy z => by
      rcases List.mem_cons.mp hy with e | hy
      · exact lt_irr x (e ▸ z)
      · exact lt_irr x (lt_tr ((List.pairwise_cons.mp h).1 y hy) z)
    exact ⟨x, List.mem_cons_self, hm, rfl⟩
theorem last_ex : ∀ {l : List L2.Key}, Asc l → l ≠ [] → ∃ x ∈ l, (∀ y ∈ l, ¬ lt x y) ∧ l.drop (l.length - 1) = [x]
  | [], _, h0 => absurd rfl h0
  | [x], _, _ => by
    refine ⟨x, List.mem_cons_self, fun y hy => ?_, rfl⟩
    rcases List.mem_cons.mp hy with e | z
    · rw [e]
      exact lt_irr x
    · cases z
  | y :: z :: r, h, _ => by
    have h' := List.pairwise_cons.mp h
    obtain ⟨x, hx, hm, e⟩ := last_ex h'.2 (by intro q; cases q)
    refine ⟨x, List.mem_cons_of_mem _ hx, fun u hu => ?_, e⟩
    rcases List.mem_cons.mp hu with e2 | hu
    · rw [e2]
      exact fun q => lt_irr y (lt_tr (h'.1 x hx) q)
    · exact hm u hu
/-- kept ones of kept ones are those of all -/
theorem sel_two (kind : Str) (a b : List L2.Key) : sel kind (sd (sel kind (sd a) ++ sel kind (sd b))) = sel kind (sd (a ++ b)) := by
  by_cases h1 : V.str kind = .str "least"
  · unfold sel
    rw [if_pos h1, if_pos h1, if_pos h1, if_pos h1]
    by_cases h0 : sd (a ++ b) = []
    · have ea : sd a = [] := by
        rw [List.eq_nil_iff_forall_not_mem] at h0 ⊢
        exact fun z hz => h0 z (mem_sd.mpr (List.mem_append_left _ (mem_sd.mp hz)))
      have eb : sd b = [] := by
        rw [List.eq_nil_iff_forall_not_mem] at h0 ⊢
        exact fun z hz => h0 z (mem_sd.mpr (List.mem_append_right _ (mem_sd.mp hz)))
      rw [h0, ea, eb]
      rfl
    · obtain ⟨x, hx, hm, e⟩ := first_ex (asc_sd (a ++ b)) h0
      rw [e]
      have part : ∀ c : List L2.Key, (∀ z ∈ c, z ∈ a ++ b) → x ∈ c → (sd c).take 1 = [x] := fun c hc hx => first_of (asc_sd c) (mem_sd.mpr hx) fun y hy => hm y (mem_sd.mpr (hc y (mem_sd.mp hy)))
      refine first_of (asc_sd _) (mem_sd.mpr ?_) fun y hy => ?_
      · rcases List.mem_append.mp (mem_sd.mp hx) with z | z
        · rw [part a (fun z hz => List.mem_append_left _ hz) z]
          exact List.mem_append_left _ List.mem_cons_self
        · rw [part b (fun z hz => List.mem_append_right _ hz) z]
          exact List.mem_append_right _ List.mem_cons_self
      · rcases List.mem_append.mp (mem_sd.mp hy) with z | z
        · exact hm y (mem_sd.mpr (List.mem_append_left _ (mem_sd.mp (List.mem_of_mem_take z))))
        · exact hm y (mem_sd.mpr (List.mem_append_right _ (mem_sd.mp (List.mem_of_mem_take z))))
  by_cases h2 : V.str kind = .str "greatest"
  · unfold sel
    rw [if_neg h1, if_neg h1, if_neg h1, if_neg h1, if_pos h2, if_pos h2, if_pos h2, if_pos h2]
    by_cases h0 : sd (a ++ b) = []
    · have ea : sd a = [] := by
        rw [List.eq_nil_iff_forall_not_mem] at h0 ⊢
        exact fun z hz => h0 z (mem_sd.mpr (List.mem_append_left _ (mem_sd.mp hz)))
      have eb : sd b = [] := by
        rw [List.eq_nil_iff_forall_not_mem] at h0 ⊢
        exact fun z hz => h0 z (mem_sd.mpr (List.mem_append_right _ (mem_sd.mp hz)))
      rw [h0, ea, eb]
      rfl
    · obtain ⟨x, hx, hm, e⟩ := last_ex (asc_sd (a ++ b)) h0
      rw [e]
      have part : ∀ c : List L2.Key, (∀ z ∈ c, z ∈ a ++ b) → x ∈ c → (sd c).drop ((sd c).length - 1) = [x] := fun c hc hx => last_of (asc_sd c) (mem_sd.mpr hx) fun y hy => hm y (mem_sd.mpr (hc y (mem_sd.mp hy)))
      refine last_of (asc_sd _) (mem_sd.mpr ?_) fun y hy => ?_
      · rcases List.mem_append.mp (mem_sd.mp hx) with z | z
        · rw [part a (fun z hz => List.mem_append_left _ hz) z]
          exact List.mem_append_left _ List.mem_cons_self
        · rw [part b (fun z hz => List.mem_append_right _ hz) z]
          exact List.mem_append_right _ List.mem_cons_self
      · rcases List.mem_append.mp (mem_sd.mp hy) with z | z
        · exact hm y (mem_sd.mpr (List.mem_append_left _ (mem_sd.mp (List.mem_of_mem_drop z))))
        · exact hm y (mem_sd.mpr (List.mem_append_right _ (mem_sd.mp (List.mem_of_mem_drop z))))
  · unfold sel
    rw [if_neg h1, if_neg h1, if_neg h1, if_neg h1, if_neg h2, if_neg h2, if_neg h2, if_neg h2]
    refine sd_perm fun z => ?_
    rw [List.mem_append, List.mem_append, mem_sd, mem_sd]
end Kx

namespace Kx
open PySem PySem.Spec PyProof.Rows L2
def topS (i : Nat) : Stmt := PySem.Challenge.pw_countedonce_k02_whole_fold_states.main.body.getD i (.Pass ⟨0, 0, 0, 0⟩)
abbrev sCell : Stmt := topS 9
abbrev sDraw : Stmt := topS 10
abbrev sNumb : Stmt := topS 11
abbrev sNext : Stmt := topS 12
abbrev sPick : Stmt := topS 13
section
variable {P : Program} {w : World} {K : PySem.W.Frag} {mg : Str → Option Value} {base : Heap}
/-- a def of the top that keeps a promise, and may be called by its name -/
structure Ready (P : Program) (w : World) (K : PySem.W.Frag) (mg : Str → Option Value) (base : Heap) (k : Nat) (x : Str) (ps : List Str) (sp : Sp) : Prop where
  ex : ∃ f fd, FnOk P w K mg base CX0 k f fd ps sp ∧ Binds K fd ps [] ∧ mg x = some (.ref f) ∧ PySem.W.keepIn K (.ref f) = true
end
theorem pe_fn {X : Cx} {k : Nat} {x : Str} {ps : List Str} {sp : Sp} {p pos : Pos} {e : Expr} {es : List Expr} {t : TA} (G : Ready X.prog X.w X.K X.mg X.base k x ps sp) (hr : Room k X.A) (ha : PA X (e :: es) t) (hg : Gl X x := by rfl)
    (hdb : (x == ("__debug__" : Str)) = false := by decide) (he : starEach (e :: es) X.env = (false, eval e X.env) :: starEach es X.env := by rfl) (hpl : (backTo pos (starEach es X.env)).any (·.1) = false := by rfl) :
    PE X (.Call (.Name x p) (e :: es) [] pos) (tCall sp [] E0 t) := by
  obtain ⟨f, fd, h, hb, hm, hk⟩ := G.ex
  exact pe_call h hr hg hm hk hb .nil pass0 ha hdb he hpl
/-- all that was tracked is as it was, but what stands at d -/
def But (d : Addr) (H H' : Hp) : Prop := ∀ b o, b ≠ d → H b = some o → H' b = some o
theorem But.refl (d : Addr) (H : Hp) : But d H H := fun _ _ _ h => h
theorem But.trans {d : Addr} {H H1 H2 : Hp} (a : But d H H1) (b : But d H1 H2) : But d H H2 := fun c o n h => b c o n (a c o n h)
theorem same_but {d : Addr} {H H' : Hp} (a : Same H H') : But d H H' := fun c o _ h => a c o h
theorem same_upd {H : Hp} {p : Addr} {o : HO} (h : H p = none) : Same H (upd H p o) := fun b x e => by
  rw [upd_ne (ne_of_none e h)]
  exact e
section
variable {P : Program} {w : World} {K : PySem.W.Frag} {mg : Str → Option Value} {base : Heap}
/-! ### the law's draws -/
def spCell (K : PySem.W.Frag) : Sp := fun vs H Q _ => ∃ (a : Addr) (ns : List Int) (k : Int), vs = [.ref a, .int k] ∧ SqL K H a (ns.map V.int) ∧ 0 ≤ k ∧ ∀ c : Int, Q (.int c) H
theorem sc_cell : FnScope ["script", "k"] ["script", "k"] (defScope sCell) := ⟨rfl, rfl, rfl, by decide +kernel, rfl, by decide +kernel, by decide +kernel⟩
theorem ok_cell {f : Addr} {fd : FuncData} (F : Fun K "_law_cell_at" "_law_cell_at" sCell f fd) (m_len : mg "len" = none) : FnOk P w K mg base CX0 1 f fd ["script", "k"] (spCell K) := by
  refine F.ok sc_cell (fun vs H Q E h => ?_) (fun cdv A outer s H vs Q E hr h => ?_)
  · obtain ⟨a, ns, k, rfl, _⟩ := h
    rfl
  obtain ⟨a, ns, k, rfl, hS, h0, q⟩ := h
  refine ⟨_, pss_cons (ps_if (pt_cmpR op_lt (pv 1) (pe_callB call_len_seq (by rfl) m_len PySem.boot_len (pa_cons (pv 0) pa_nil)) (nomark _)) (pss_one (ps_ret (pe_ix ix_list (pv 0) (pv 1) (fun _ _ => rfl)))) (pss_nil))
      (pss_one (ps_ret pe_int)), ?_⟩
  refine ⟨_, rfl, _, rfl, a, _, rfl, .inl hS, _, _, rfl, rfl, _, rfl, ?_⟩
  refine ite2 (fun c => ?_) (fun c => q 0)
  have c' : k < ((ns.map V.int).length : Int) := of_decide_eq_true c
  have ek : k = ((k.toNat : Nat) : Int) := by omega
  have hk : k.toNat < ns.length := by rw [List.length_map] at c'; omega
  have ha : atI (ns.map V.int) ((k.toNat : Nat) : Int) = some (.int ns[k.toNat]) := atI_nat (by rw [List.getElem?_map, List.getElem?_eq_getElem hk] <;> rfl)
  rw [← ek] at ha
  exact ⟨_, rfl, _, rfl, a, _, _, _, rfl, rfl, hS, ha, q _⟩
def spDraw : Sp := fun vs H Q _ => ∃ (c k b : Int), vs = [.int c, .int k, .int b] ∧ 0 < b ∧ ∀ (r : Int) (H' : Hp), 0 ≤ r → r < b → Same H H' → Q (.int r) H'
theorem sc_draw : FnScope ["cell", "k", "bound", "primes"] ["cell", "k", "bound"] (defScope sDraw) := ⟨rfl, rfl, rfl, by decide +kernel, rfl, by decide +kernel, by decide +kernel⟩
def primesL : List Int := [1000003, 1000033, 1000037, 1000039, 1000081, 1000099, 1000117, 1000121, 1000133, 1000151, 1000159, 1000171, 1000183, 1000187, 1000193, 1000199]
theorem primes_at {i : Int} (h0 : 0 ≤ i) (h : i < 16) : ∃ p : Int, 0 < p ∧ atI (primesL.map V.int) i = some (.int p) := by
  have ei : i = ((i.toNat : Nat) : Int) := by omega
  have hk : i.toNat < primesL.length := by show i.toNat < 16; omega
  refine ⟨primesL[i.toNat], ?_, ?_⟩
  · have : ∀ x ∈ primesL, (0 : Int) < x := by decide
    exact this _ (List.getElem_mem hk)
  · have q : atI (primesL.map V.int) ((i.toNat : Nat) : Int) = some (.int primesL[i.toNat]) := atI_nat (by rw [List.getElem?_map, List.getElem?_eq_getElem hk] <;> rfl)
    rw [← ei] at q
    exact q
theorem ok_draw {f : Addr} {fd : FuncData} (F : Fun K "_law_draw" "_law_draw" sDraw f fd) (m_int : mg "int" = none) : FnOk P w K mg base CX0 1 f fd ["cell", "k", "bound"] spDraw := by
  refine F.ok sc_draw (fun vs H Q E h => ?_) (fun cdv A outer s H vs Q E hr h => ?_)
  · obtain ⟨c, k, b, rfl, _⟩ := h
    rfl
  obtain ⟨c, k, b, rfl, hb, q⟩ := h
  have nd := sc_draw.nd
  refine ⟨_, pss_cons (ps_set (i := 3) nd rfl (.inl rfl) (pe_tup (pa_cons pe_int (pa_cons pe_int (pa_cons pe_int (pa_cons pe_int (pa_cons pe_int (pa_cons pe_int (pa_cons pe_int (pa_cons pe_int (pa_cons pe_int (pa_cons pe_int (pa_cons pe_int (pa_cons pe_int (pa_cons pe_int (pa_cons pe_int (pa_cons pe_int (pa_cons pe_int pa_nil))))))))))))))))))
      (pss_one (ps_ret (pe_op op_mod (pe_op op_mod (pe_callTy call_int1 (by rfl) m_int boot_int (pa_cons (pe_op op_add (pe_op op_mul (pv 0) pe_int) (pe_op op_mul (pv 1) pe_int)) pa_nil)) (pe_ix ix_tup (pv 3) (pe_op op_mod (pe_callTy call_int1 (by rfl) m_int boot_int (pa_cons (pv 1) pa_nil)) pe_int) (fun _ _ => rfl))) (pv 2)))), ?_⟩
  refine ⟨by show 16 ≤ sizeLine; decide, fun t ht => ?_⟩
  obtain ⟨p, hp, hat⟩ := primes_at (i := k % 16) (by omega) (by omega)
  refine ⟨_, rfl, _, _, rfl, rfl, .inr (by show _ ∧ _; decide), _, rfl, _, _, rfl, rfl, .inr (by show _ ∧ _; decide), _, _, rfl, rfl, .inl ⟨_, rfl, ?_⟩⟩
  refine ⟨_, rfl, _, rfl, .inl ⟨_, rfl, _, _, rfl, rfl, (by show (0 : Int) < 16; decide), ?_⟩⟩
  refine ⟨t, primesL.map V.int, _, _, rfl, rfl, SqT.of upd_same, hat, _, _, rfl, rfl, hp, _, rfl, _, _, rfl, rfl, hb, ?_⟩
  exact q _ _ (Int.emod_nonneg _ (by omega)) (Int.emod_lt_of_pos _ hb) (same_upd ht)
end
end Kx

namespace Kx
open PySem PySem.Spec PyProof.Rows L2
section
variable {P : Program} {w : World} {K : PySem.W.Frag} {mg : Str → Option Value} {base : Heap}
theorem pow_lt : ∀ i : Nat, i < 24 → (1009 ^ i : Nat) < 2 ^ 240 := by decide +kernel
theorem sc_numb : FnScope ["cell", "k", "bound", "power", "lap", "remains", "small"] ["cell", "k", "bound"] (defScope sNumb) := ⟨rfl, rfl, rfl, by decide +kernel, rfl, by decide +kernel, by decide +kernel⟩
def spNumb : Sp := fun vs H Q _ => ∃ (c k b : Int), vs = [.int c, .int k, .int b] ∧ 0 ≤ k ∧ k ≤ 100 ∧ 0 < b ∧ ∀ (r : Int) (H' : Hp), 0 ≤ r → r < b → Same H H' → Q (.int r) H'
theorem ok_numb {f : Addr} {fd : FuncData} (F : Fun K "_law_number" "_law_number" sNumb f fd) (m_int : mg "int" = none) (m_range : mg "range" = none) (G_law_draw : Ready P w K mg base 1 "_law_draw" ["cell", "k", "bound"] spDraw) :
    FnOk P w K mg base CX0 2 f fd ["cell", "k", "bound"] spNumb := by
  refine F.ok sc_numb (fun vs H Q E h => ?_) (fun cdv A outer s H vs Q E hr h => ?_)
  · obtain ⟨c, k, b, rfl, _⟩ := h
    rfl
  obtain ⟨c, k, b, rfl, k0, k1, hb, q⟩ := h
  have nd := sc_numb.nd
  refine ⟨_, pss_cons (ps_set (i := 3) nd rfl (.inl rfl) pe_int)
      (pss_cons (ps_for PassesOwn.never rfl (pi_range1 rfl m_range (pa_cons (pe_op op_mod (pe_callTy call_int1 (by rfl) m_int boot_int (pa_cons (pv 1) pa_nil)) pe_int) pa_nil)) (pg_name (i := 4) nd rfl (.inl rfl)) (pss_one (ps_set (i := 3) nd rfl (.inl rfl) (pe_op op_mul (pv 3) pe_int))))
      (pss_cons (ps_set (i := 5) nd rfl (.inl rfl) (pe_op op_fdivW (pe_op op_sub (pv 0) (pe_op op_pow pe_int pe_int)) (pv 3)))
      (pss_cons (ps_if (pt_cmpR op_gt (pv 5) pe_int (nomark _)) (pss_one (ps_ret (pe_op op_mod (pe_op op_mod (pe_callTy call_int1 (by rfl) m_int boot_int (pa_cons (pv 5) pa_nil)) pe_int) (pv 2)))) (pss_nil))
      (pss_cons (ps_set (i := 6) nd rfl (.inl rfl) (pe_op op_mod (pe_callTy call_int1 (by rfl) m_int boot_int (pa_cons (pv 0) pa_nil)) pe_int))
      (pss_one (ps_ret (pe_op op_mod (pe_fn (G_law_draw) (hr.mono (by decide)) (pa_cons (pe_op op_mul (pe_op op_add (pv 6) (pe_op op_mul pe_int (pv 1))) (pe_op op_add (pe_op op_add (pv 6) (pe_op op_mul pe_int (pv 1))) pe_int)) (pa_cons (pe_op op_add (pe_op op_mod (pe_callTy call_int1 (by rfl) m_int boot_int (pa_cons (pv 1) pa_nil)) pe_int) pe_int) (pa_cons pe_int pa_nil)))) (pv 2)))))))), ?_⟩
  refine ⟨_, rfl, .inl ⟨_, rfl, _, _, rfl, rfl, (by show (0 : Int) < 24; decide), _, rfl, by omega, by omega, ?_⟩⟩
  have m0 : 0 ≤ k % 24 := Int.emod_nonneg _ (by omega)
  have m1 : k % 24 < 24 := Int.emod_lt_of_pos _ (by omega)
  refine for_range (fun i σ H' => ∃ y4, σ = [some (.int c), some (.int k), some (.int b), some (.int ((1009 ^ i : Nat) : Int)), y4, none, none] ∧ H' = H) ⟨none, rfl, rfl⟩ ?_ ?_
  · rintro i σ H' hi ⟨y4, rfl, rfl⟩
    refine ⟨_, rfl, _, _, rfl, rfl, .inr (by show _ ∧ _; decide), ?_⟩
    refine ⟨some (.int (0 + (i : Nat))), ?_, rfl⟩
    rw [Nat.pow_succ, Int.natCast_mul]
    rfl
  · rintro σ H' ⟨y4, rfl, rfl⟩
    have hj : (k % 24).toNat < 24 := by omega
    have hp := pow_lt _ hj
    have hp0 : 0 < (1009 ^ (k % 24).toNat : Nat) := Nat.pow_pos (by decide)
    generalize (1009 ^ (k % 24).toNat : Nat) = pw at hp hp0
    refine ⟨_, rfl, _, _, rfl, rfl, (by show _ ∧ _ ∧ _; decide), _, _, rfl, rfl, _, rfl, _, _, rfl, rfl, wide_div (b := 240) (by omega) (by omega) (by decide) (by decide), ?_⟩
    refine ⟨_, rfl, _, _, rfl, rfl, _, rfl, ?_⟩
    refine ite2 (fun _ => ?_) (fun _ => ?_)
    · refine ⟨_, rfl, .inl ⟨_, rfl, _, _, rfl, rfl, (by show (0 : Int) < 1009; decide), _, rfl, _, _, rfl, rfl, hb, ?_⟩⟩
      exact q _ _ (Int.emod_nonneg _ (by omega)) (Int.emod_lt_of_pos _ hb) (Same.refl _)
    · refine ⟨_, rfl, .inl ⟨_, rfl, _, _, rfl, rfl, (by show (0 : Int) < 1000003; decide), ?_⟩⟩
      have s0 : 0 ≤ c % 1000003 := Int.emod_nonneg _ (by omega)
      have s1 : c % 1000003 < 1000003 := Int.emod_lt_of_pos _ (by omega)
      refine ⟨_, rfl, _, rfl, _, _, rfl, rfl, .inl (by show _ ∧ _; decide), _, _, rfl, rfl, ?_⟩
      refine ⟨_, rfl, _, rfl, _, _, rfl, rfl, .inl (by show _ ∧ _; decide), _, _, rfl, rfl, _, _, rfl, rfl, _, _, rfl, rfl, .inl (by show _ ∧ _; omega), ?_⟩
      refine ⟨_, rfl, .inl ⟨_, rfl, _, _, rfl, rfl, (by show (0 : Int) < 9; decide), _, _, rfl, rfl, _, _, _, rfl, by decide, fun r H2 r0 r1 sm => ?_⟩⟩
      refine ⟨_, rfl, _, _, rfl, rfl, hb, ?_⟩
      exact q _ _ (Int.emod_nonneg _ (by omega)) (Int.emod_lt_of_pos _ hb) sm
/-- the three things of a draw: the script's first cells, where it begins, how many were drawn -/
structure DrawAt (H : Hp) (d s : Addr) (ns : List Int) (n : Int) : Prop where
  at_d : H d = some (.lst [.ref s, .int 0, .int n])
  at_s : H s = some (.lst (ns.map V.int))
  n0 : 0 ≤ n
theorem DrawAt.ne {H : Hp} {d s : Addr} {ns : List Int} {n : Int} (D : DrawAt H d s ns n) : s ≠ d := fun e => by
  have a := D.at_s
  rw [e, D.at_d] at a
  cases ns with
  | nil => cases a
  | cons x r => cases a
theorem DrawAt.keep {H H' : Hp} {d s : Addr} {ns : List Int} {n : Int} (D : DrawAt H d s ns n) (h : Same H H') : DrawAt H' d s ns n := ⟨h _ _ D.at_d, h _ _ D.at_s, D.n0⟩
def spNext : Sp := fun vs H Q _ => ∃ (d s : Addr) (ns : List Int) (n b : Int), vs = [.ref d, .int b] ∧ DrawAt H d s ns n ∧ 0 < b ∧ ∀ (r : Int) (H' : Hp), 0 ≤ r → r < b → But d H H' → DrawAt H' d s ns (n + 1) → Q (.int r) H'
theorem sc_next : FnScope ["draw", "bound", "at", "cell"] ["draw", "bound"] (defScope sNext) := ⟨rfl, rfl, rfl, by decide +kernel, rfl, by decide +kernel, by decide +kernel⟩
theorem ok_next {f : Addr} {fd : FuncData} (F : Fun K "_law_next" "_law_next" sNext f fd) (m_int : mg "int" = none) (G_law_cell_at : Ready P w K mg base 1 "_law_cell_at" ["script", "k"] (spCell K)) (G_law_number : Ready P w K mg base 2 "_law_number" ["cell", "k", "bound"] spNumb) :
    FnOk P w K mg base CX0 3 f fd ["draw", "bound"] spNext := by
  refine F.ok sc_next (fun vs H Q E h => ?_) (fun cdv A outer s H vs Q E hr h => ?_)
  · obtain ⟨d, s, ns, n, b, rfl, _⟩ := h
    rfl
  obtain ⟨d, s, ns, n, b, rfl, D, hb, q⟩ := h
  have nd := sc_next.nd
  refine ⟨_, pss_cons (ps_asg (pe_op op_add (pe_ix ix_list (pv 0) pe_int (fun _ _ => rfl)) pe_int) (pg_sub (pv 0) pe_int set_list))
      (pss_cons (ps_set (i := 2) nd rfl (.inl rfl) (pe_op op_fdiv (pe_ix ix_list (pv 0) pe_int (fun _ _ => rfl)) pe_int))
      (pss_cons (ps_set (i := 3) nd rfl (.inl rfl) (pe_op op_add (pe_fn (G_law_cell_at) (hr.mono (by decide)) (pa_cons (pe_ix ix_list (pv 0) pe_int (fun _ _ => rfl)) (pa_cons (pe_op op_add (pe_ix ix_list (pv 0) pe_int (fun _ _ => rfl)) (pv 2)) pa_nil))) (pe_op op_mul pe_int (pv 2))))
      (pss_one (ps_ret (pe_fn (G_law_number) (hr.mono (by decide)) (pa_cons (pv 3) (pa_cons (pe_op op_add (pe_op op_mod (pe_callTy call_int1 (by rfl) m_int boot_int (pa_cons (pe_ix ix_list (pv 0) pe_int (fun _ _ => rfl)) pa_nil)) pe_int) pe_int) (pa_cons (pv 1) pa_nil)))))))), ?_⟩
  refine ⟨_, rfl, d, _, 2, _, rfl, rfl, SqL.of D.at_d, rfl, _, _, rfl, rfl, _, rfl, d, _, _, _, rfl, rfl, D.at_d, rfl, ?_⟩
  have D1 : DrawAt (upd H d (.lst [.ref s, .int 0, .int (n + 1)])) d s ns (n + 1) := ⟨upd_same, by rw [upd_ne D.ne]; exact D.at_s, by have := D.n0; omega⟩
  have b1 : But d H (upd H d (.lst [.ref s, .int 0, .int (n + 1)])) := fun c o hc e => by rw [upd_ne hc]; exact e
  have n0 := D1.n0
  refine ⟨_, rfl, d, _, 2, _, rfl, rfl, SqL.of D1.at_d, rfl, _, _, rfl, rfl, (by show _ ∧ _; decide), ?_⟩
  refine ⟨_, rfl, d, _, 0, _, rfl, rfl, SqL.of D1.at_d, rfl, _, rfl, d, _, 1, _, rfl, rfl, SqL.of D1.at_d, rfl, _, rfl, _, _, rfl, rfl, s, ns, _, rfl, SqL.of D1.at_s, by omega, fun c => ?_⟩
  refine ⟨_, rfl, _, _, rfl, rfl, .inl (by show _ ∧ _; decide), _, _, rfl, rfl, ?_⟩
  refine ⟨_, rfl, _, rfl, d, _, 2, _, rfl, rfl, SqL.of D1.at_d, rfl, .inl ⟨_, rfl, _, _, rfl, rfl, (by show (0 : Int) < 12; decide), _, _, rfl, rfl, _, rfl, ?_⟩⟩
  refine ⟨_, _, _, rfl, by omega, by omega, hb, fun r H' r0 r1 sm => ?_⟩
  exact q r H' r0 r1 (b1.trans (same_but sm)) (D1.keep sm)
/-- a list or a tuple of values -/
def Seq (K : PySem.W.Frag) (H : Hp) (a : Addr) (xs : List V) : Prop := SqL K H a xs ∨ SqT K H a xs
theorem nth {xs : List V} {r : Int} (h0 : 0 ≤ r) (h1 : r < (xs.length : Int)) : ∃ v, v ∈ xs ∧ atI xs r = some v := by
  have er : r = ((r.toNat : Nat) : Int) := by omega
  have hk : r.toNat < xs.length := by omega
  have q : atI xs ((r.toNat : Nat) : Int) = some xs[r.toNat] := atI_nat (List.getElem?_eq_getElem hk)
  rw [← er] at q
  exact ⟨_, List.getElem_mem hk, q⟩
theorem But.sqT {H H' : Hp} {d a : Addr} {xs : List V} (h : But d H H') (hd : ∃ l, H d = some (.lst l)) (q : SqT K H a xs) : SqT K H' a xs := by
  rcases q with (q | ⟨o, q⟩) | q
  · refine .inl (.inl (h _ _ (fun e => ?_) q))
    obtain ⟨l, hl⟩ := hd
    rw [e, hl] at q
    cases q
  · refine .inl (.inr ⟨o, h _ _ (fun e => ?_) q⟩)
    obtain ⟨l, hl⟩ := hd
    rw [e, hl] at q
    cases q
  · exact .inr q
def spPick (K : PySem.W.Frag) : Sp := fun vs H Q _ => ∃ (d s t : Addr) (ns : List Int) (n : Int) (xs : List V), vs = [.ref d, .ref t] ∧ DrawAt H d s ns n ∧ t ≠ d ∧ Seq K H t xs ∧ xs ≠ [] ∧ ∀ (v : V) (H' : Hp), v ∈ xs → But d H H' → DrawAt H' d s ns (n + 1) → Q v H'
theorem sc_pick : FnScope ["draw", "things"] ["draw", "things"] (defScope sPick) := ⟨rfl, rfl, rfl, by decide +kernel, rfl, by decide +kernel, by decide +kernel⟩
theorem But.seq {H H' : Hp} {d a : Addr} {xs : List V} (h : But d H H') (hd : a ≠ d) (q : Seq K H a xs) : Seq K H' a xs := by
  rcases q with ((q | ⟨o, q⟩) | q) | ((q | ⟨o, q⟩) | q)
  · exact .inl (.inl (.inl (h _ _ hd q)))
  · exact .inl (.inl (.inr ⟨o, h _ _ hd q⟩))
  · exact .inl (.inr q)
  · exact .inr (.inl (.inl (h _ _ hd q)))
  · exact .inr (.inl (.inr ⟨o, h _ _ hd q⟩))
  · exact .inr (.inr q)
theorem ok_pick {f : Addr} {fd : FuncData} (F : Fun K "_law_pick" "_law_pick" sPick f fd) (m_len : mg "len" = none) (G_law_next : Ready P w K mg base 3 "_law_next" ["draw", "bound"] spNext) :
    FnOk P w K mg base CX0 4 f fd ["draw", "things"] (spPick K) := by
  refine F.ok sc_pick (fun vs H Q E h => ?_) (fun cdv A outer s H vs Q E hr h => ?_)
  · obtain ⟨d, s, t, ns, n, xs, rfl, _⟩ := h
    rfl
  obtain ⟨d, s, t, ns, n, xs, rfl, D, td, hS, hne, q⟩ := h
  have nd := sc_pick.nd
  refine ⟨_, pss_one (ps_ret (pe_ix ix_seq (pv 1) (pe_fn (G_law_next) (hr.mono (by decide)) (pa_cons (pv 0) (pa_cons (pe_callB call_len_seq (by rfl) m_len PySem.boot_len (pa_cons (pv 1) pa_nil)) pa_nil))) (fun _ _ => rfl))), ?_⟩
  have hl : 0 < (xs.length : Int) := by
    have := List.length_pos_iff.mpr hne
    omega
  refine ⟨_, rfl, _, rfl, _, rfl, t, xs, rfl, hS, d, s, ns, n, _, rfl, D, hl, fun r H' r0 r1 bt D' => ?_⟩
  obtain ⟨v, hv, hat⟩ := nth r0 r1
  rcases bt.seq td hS with hL | hT
  · exact .inl ⟨t, xs, _, _, rfl, rfl, hL, hat, q _ _ hv bt D'⟩
  · exact .inr (.inl ⟨t, xs, _, _, rfl, rfl, hT, hat, q _ _ hv bt D'⟩)
end
end Kx

namespace Kx
open PySem PySem.Spec PyProof.Rows L2
/-! ### bags, and what a fold keeps of them -/
def wrap (n : Int) : Int := (n + 9223372036854775808) % 18446744073709551616 - 9223372036854775808
def In64 (i : Int) : Prop := -9223372036854775808 ≤ i ∧ i < 9223372036854775808
theorem wrap_in (n : Int) : In64 (wrap n) := by
  unfold wrap In64
  omega
theorem wrap_id {n : Int} (h : In64 n) : wrap n = n := by
  unfold In64 at h
  unfold wrap
  omega
theorem wrap_add (a b : Int) : wrap (wrap a + wrap b) = wrap (a + b) := by
  unfold wrap
  omega
def toI : L2.Key → Int
  | .inl i => i
  | .inr _ => 0
def tot : List L2.Key → Int
  | [] => 0
  | k :: r => toI k + tot r
theorem tot_app : ∀ a b : List L2.Key, tot (a ++ b) = tot a + tot b
  | [], b => by
    show tot b = 0 + tot b
    omega
  | k :: r, b => by
    show toI k + tot (r ++ b) = toI k + tot r + tot b
    rw [tot_app r b]
    omega
theorem tot_perm {a b : List L2.Key} (h : a.Perm b) : tot a = tot b := by
  induction h with
  | nil => rfl
  | cons x _ ih =>
    show toI x + _ = toI x + _
    rw [ih]
  | swap x y l =>
    show toI y + (toI x + tot l) = toI x + (toI y + tot l)
    omega
  | trans _ _ i1 i2 => exact i1.trans i2
inductive Stt where
  | n (i : Int)
  | m (s c : Int)
  | ks (l : List L2.Key)
def amt (kind : Str) (b : List L2.Key) : Int := if V.str kind = .str "count" then (b.length : Int) else tot b
theorem amt_app (kind : Str) (a b : List L2.Key) : amt kind (a ++ b) = amt kind a + amt kind b := by
  unfold amt
  split
  · rw [List.length_append]
    omega
  · exact tot_app a b
theorem amt_perm {kind : Str} {a b : List L2.Key} (h : a.Perm b) : amt kind a = amt kind b := by
  unfold amt
  rw [h.length_eq, tot_perm h]
def stOf (kind : Str) (b : List L2.Key) : Stt :=
  if kind ∈ (["count", "sum"] : List Str) then .n (wrap (amt kind b)) else if V.str kind = .str "mean" then .m (wrap (tot b)) b.length else .ks (sel kind (sd b))
theorem stOf_perm {kind : Str} {a b : List L2.Key} (h : a.Perm b) : stOf kind a = stOf kind b := by
  unfold stOf
  rw [amt_perm h, tot_perm h, h.length_eq, sd_perm fun z => h.mem_iff]
section
variable {K : PySem.W.Frag}
def StAt (K : PySem.W.Frag) (H : Hp) : V → Stt → Prop
  | v, .n i => v = .int i
  | v, .m s c => ∃ a, v = .ref a ∧ SqT K H a [.int s, .int c]
  | v, .ks l => ∃ a, v = .ref a ∧ SqT K H a (l.map kV)
theorem Same.sqT {H H' : Hp} (h : Same H H') {a : Addr} {xs : List V} (q : SqT K H a xs) : SqT K H' a xs := by
  rcases q with (q | ⟨o, q⟩) | q
  · exact .inl (.inl (h _ _ q))
  · exact .inl (.inr ⟨o, h _ _ q⟩)
  · exact .inr q
theorem Same.sqL {H H' : Hp} (h : Same H H') {a : Addr} {xs : List V} (q : SqL K H a xs) : SqL K H' a xs := by
  rcases q with (q | ⟨o, q⟩) | q
  · exact .inl (.inl (h _ _ q))
  · exact .inl (.inr ⟨o, h _ _ q⟩)
  · exact .inr q
theorem StAt.same {H H' : Hp} (h : Same H H') : ∀ {v : V} {t : Stt}, StAt K H v t → StAt K H' v t
  | _, .n _, q => q
  | _, .m _ _, ⟨a, e, q⟩ => ⟨a, e, Same.sqT h q⟩
  | _, .ks _, ⟨a, e, q⟩ => ⟨a, e, Same.sqT h q⟩
theorem StAt.but {H H' : Hp} {d : Addr} (h : But d H H') (hd : ∃ l, H d = some (.lst l)) : ∀ {v : V} {t : Stt}, StAt K H v t → StAt K H' v t
  | _, .n _, q => q
  | _, .m _ _, ⟨a, e, q⟩ => ⟨a, e, h.sqT hd q⟩
  | _, .ks _, ⟨a, e, q⟩ => ⟨a, e, h.sqT hd q⟩
/-- all ints, or all texts -/
def Hom (b : List L2.Key) : Prop := (∃ ns : List Int, b = ns.map Sum.inl) ∨ ∃ ss : List Str, b = ss.map Sum.inr
theorem hom_sub {b c : List L2.Key} (h : Hom b) (s : ∀ z ∈ c, z ∈ b) : Hom c := by
  rcases h with ⟨ns, rfl⟩ | ⟨ss, rfl⟩
  · refine .inl ⟨c.map toI, ?_⟩
    rw [List.map_map]
    conv => lhs; rw [← List.map_id c]
    refine List.map_congr_left fun k hk => ?_
    obtain ⟨n, _, rfl⟩ := List.mem_map.mp (s k hk)
    rfl
  · refine .inr ⟨c.map fun k => match k with | Sum.inl _ => Str.empty | Sum.inr n => n, ?_⟩
    rw [List.map_map]
    conv => lhs; rw [← List.map_id c]
    refine List.map_congr_left fun k hk => ?_
    obtain ⟨n, _, rfl⟩ := List.mem_map.mp (s k hk)
    rfl
theorem nodup_len : ∀ {M ks : List L2.Key}, M.Nodup → (∀ z ∈ M, z ∈ ks) → M.length ≤ ks.length
  | [], _, _, _ => Nat.zero_le _
  | x :: M, ks, hn, hs => by
    have hn' := List.nodup_cons.mp hn
    obtain ⟨u, t, rfl⟩ := List.append_of_mem (hs x List.mem_cons_self)
    have h1 : M.length ≤ (u ++ t).length := nodup_len hn'.2 fun z hz => by
      have h2 := List.mem_append.mp (hs z (List.mem_cons_of_mem _ hz))
      rcases h2 with h2 | h2
      · exact List.mem_append_left _ h2
      rcases List.mem_cons.mp h2 with e | h2
      · rw [e] at hz
        exact absurd hz hn'.1
      · exact List.mem_append_right _ h2
    rw [List.length_append] at h1
    rw [List.length_append, List.length_cons, List.length_cons]
    omega
theorem asc_ints {ns : List Int} (h : ns.Pairwise (· ≤ ·)) (hn : (ns.map (Sum.inl : Int → L2.Key)).Nodup) : Asc (ns.map Sum.inl) := by
  unfold Asc
  rw [List.pairwise_map]
  have hn' : ns.Pairwise fun a b => (Sum.inl a : L2.Key) ≠ Sum.inl b := List.pairwise_map.mp hn
  refine (h.and hn').imp fun {a b} z => ?_
  show a < b
  have : a ≠ b := fun e => z.2 (by rw [e])
  have := z.1
  omega
theorem rising_all : ∀ {l : List Str} {p : Str}, risingS p l = true → (p :: l).Pairwise fun a b => ¬ b.cps.toList < a.cps.toList
  | [], p, _ => List.pairwise_singleton _ _
  | x :: r, p, h => by
    have h' : (!ltCps x.cps.toList p.cps.toList) = true ∧ risingS x r = true := Bool.and_eq_true_iff.mp h
    have ih := rising_all h'.2
    rw [ltCps_eq] at h'
    have hx : ¬ x.cps.toList < p.cps.toList := fun z => by
      have := h'.1
      rw [decide_eq_true z] at this
      cases this
    refine List.pairwise_cons.mpr ⟨fun y hy => ?_, ih⟩
    rcases List.mem_cons.mp hy with e | hy
    · rw [e]
      exact hx
    · have hy' := (List.pairwise_cons.mp ih).1 y hy
      exact fun z => absurd (List.le_trans (List.not_lt.mp hx) (List.not_lt.mp hy')) (List.not_le.mpr z)
theorem asc_strs {ns : List Str} (h : sortedS ns = true) (hn : (ns.map (Sum.inr : Str → L2.Key)).Nodup) : Asc (ns.map Sum.inr) := by
  unfold Asc
  rw [List.pairwise_map]
  have hn' : ns.Pairwise fun a b => (Sum.inr a : L2.Key) ≠ Sum.inr b := List.pairwise_map.mp hn
  have h1 : ns.Pairwise fun a b => ¬ b.cps.toList < a.cps.toList := by
    cases ns with
    | nil => exact List.Pairwise.nil
    | cons x r => exact rising_all h
  refine (h1.and hn').imp fun {a b} z => ?_
  show a.cps.toList < b.cps.toList
  by_cases c : a.cps.toList < b.cps.toList
  · exact c
  · exact absurd (lt_or (a := .inr a) (b := .inr b) c z.1) z.2
/-- sorted(set(..)) of a list or a tuple of ints or of texts -/
theorem set_sorted {P : Program} {w : World} {H : Hp} {a : Addr} {ks : List L2.Key} {Q : VK} (h : SqL K H a (ks.map kV) ∨ SqT K H a (ks.map kV)) (hom : Hom ks) (hl : ks.length < 64)
    (q : ∀ p H', Same H H' → H' p = some (.lst ((sd ks).map kV)) → Q (.ref p) H') : Yk.rSetK K P w [.ref a] H fun v H' => Yk.rSortedK P w [v] H' Q := by
  refine ⟨a, ks, rfl, h, by omega, fun p M nd hm hp => ?_⟩
  have s1 := same_upd (o := Yk.SetKO P w p M) hp
  refine ⟨p, M, rfl, upd_same, Nat.lt_of_le_of_lt (nodup_len nd fun z hz => (hm z).mp hz) hl, ?_⟩
  rcases hom_sub hom fun z hz => (hm z).mp hz with ⟨ms, e⟩ | ⟨ms, e⟩
  · refine .inl ⟨ms, e, fun ns p2 pm pw hp2 => ?_⟩
    have pk : (ns.map (Sum.inl : Int → L2.Key)).Perm M := by
      rw [e]
      exact pm.map _
    have es : ns.map (Sum.inl : Int → L2.Key) = sd ks := sd_of (asc_ints pw (pk.nodup_iff.mpr nd)) fun z => pk.mem_iff.trans (hm z)
    refine q p2 _ (s1.trans (same_upd hp2)) ?_
    rw [← es, List.map_map]
    exact upd_same
  · refine .inr ⟨ms, e, fun ns p2 pm pw hp2 => ?_⟩
    have pk : (ns.map (Sum.inr : Str → L2.Key)).Perm M := by
      rw [e]
      exact pm.map _
    have es : ns.map (Sum.inr : Str → L2.Key) = sd ks := sd_of (asc_strs pw (pk.nodup_iff.mpr nd)) fun z => pk.mem_iff.trans (hm z)
    refine q p2 _ (s1.trans (same_upd hp2)) ?_
    rw [← es, List.map_map]
    exact upd_same
/-- t + u: somewhere stands what they are together -/
theorem cat_any {H : Hp} {a b : Addr} {xs ys : List V} {Q : VK} (ha : SqT K H a xs) (hb : SqT K H b ys) (hz : xs.length + ys.length ≤ sizeLine) (q : ∀ p H', Same H H' → SqT K H' p (xs ++ ys) → Q (.ref p) H') : rCatA K (.ref a) (.ref b) H Q := by
  refine ⟨a, b, xs, ys, rfl, rfl, ha, hb, hz, fun e => ?_, fun _ e => ?_, fun _ _ p hp => ?_⟩
  · subst e
    exact q b H (Same.refl _) hb
  · subst e
    refine q a H (Same.refl _) ?_
    rw [List.append_nil]
    exact ha
  · exact q p _ (same_upd hp) (SqT.of upd_same)
theorem cut_first (xs : List V) : cutV xs none (some 1) = xs.take 1 := by
  unfold cutV
  rw [HT.sIx_none, show (some (1 : Int)) = some ((1 : Nat) : Int) from rfl, HT.sIx_nat, List.drop_zero]
  cases xs with
  | nil => rfl
  | cons x r =>
    rw [List.length_cons, show min 1 (r.length + 1) - 0 = 1 by omega]
theorem cut_last (xs : List V) : cutV xs (some (-1)) none = xs.drop (xs.length - 1) := by
  unfold cutV
  have e : HT.sIx xs.length 0 (some (-1)) = xs.length - 1 := by
    show (if (-1 : Int) < 0 then ((-1 : Int) + (xs.length : Int)).toNat else min (-1 : Int).toNat xs.length) = _
    rw [if_pos (by decide)]
    omega
  rw [e, HT.sIx_none]
  refine List.take_of_length_le ?_
  rw [List.length_drop]
  omega
theorem sel_len (kind : Str) (l : List L2.Key) : (sel kind l).length ≤ l.length := by
  unfold sel
  split
  · rw [List.length_take]
    omega
  split
  · rw [List.length_drop]
    omega
  · exact Nat.le_refl _
theorem sel_sd_len (kind : Str) (b : List L2.Key) : (sel kind (sd b)).length ≤ b.length := Nat.le_trans (sel_len _ _) (sd_len b)
theorem sel_sd_sub {kind : Str} {b : List L2.Key} {z : L2.Key} (h : z ∈ sel kind (sd b)) : z ∈ b := mem_sd.mp (sel_sub h)
end
end Kx

namespace Kx
open PySem PySem.Spec PyProof.Rows L2
abbrev sWrap : Stmt := topS 2
abbrev sNo : Stmt := topS 4
abbrev sOne : Stmt := topS 5
abbrev sPut : Stmt := topS 6
abbrev sTold : Stmt := topS 7
abbrev sValue : Stmt := topS 14
theorem inV_str (z : Str) : ∀ l : List Str, inV (.str z) (l.map V.str) = decide (z ∈ l)
  | [] => rfl
  | x :: r => by
    have ih := inV_str z r
    show (x == z || inV (.str z) (r.map V.str)) = _
    rw [ih]
    by_cases h : x = z
    · subst h
      simp
    · have h' : ¬ z = x := fun e => h e.symm
      simp [h, h']
theorem in_strs {z : Str} {l : List Str} {A B : Prop} (h1 : z ∈ l → A) (h2 : z ∉ l → B) : if (if false = true then !inV (.str z) (l.map V.str) else inV (.str z) (l.map V.str)) = true then A else B := by
  rw [if_neg Bool.false_ne_true, inV_str]
  by_cases h : z ∈ l
  · rw [if_pos (decide_eq_true h)]
    exact h1 h
  · rw [if_neg (fun e => h (of_decide_eq_true e))]
    exact h2 h
section
variable {P : Program} {w : World} {K : PySem.W.Frag} {mg : Str → Option Value} {base : Heap}
/-! ### wrapped -/
def spWrap : Sp := fun vs H Q _ => ∃ n : Int, vs = [.int n] ∧ Q (.int (wrap n)) H
theorem sc_wrap : FnScope ["number"] ["number"] (defScope sWrap) := ⟨rfl, rfl, rfl, by decide +kernel, rfl, by decide +kernel, by decide +kernel⟩
theorem ok_wrap {f : Addr} {fd : FuncData} (F : Fun K "wrapped" "wrapped" sWrap f fd) (m_LEAST : ∃ t, mg "LEAST_INT" = some (.int (-9223372036854775808) t)) : FnOk P w K mg base CX0 1 f fd ["number"] spWrap := by
  refine F.ok sc_wrap (fun vs H Q E h => ?_) (fun cdv A outer s H vs Q E hr h => ?_)
  · obtain ⟨n, rfl, _⟩ := h
    rfl
  obtain ⟨n, rfl, q⟩ := h
  obtain ⟨tk, m_L⟩ := m_LEAST
  refine ⟨_, pss_one (ps_ret (pe_op op_add (pe_op op_mod (pe_op op_sub (pv 0) (pe_glob (v := .int (-9223372036854775808)) rfl m_L ⟨_, rfl⟩)) (pe_op op_pow pe_int pe_int)) (pe_glob (v := .int (-9223372036854775808)) rfl m_L ⟨_, rfl⟩))), ?_⟩
  refine ⟨_, rfl, _, _, rfl, rfl, _, _, rfl, rfl, (by show _ ∧ _ ∧ _; decide), _, _, rfl, rfl, (by show (0 : Int) < 2 ^ 64; decide), _, _, rfl, rfl, ?_⟩
  have e : (n - -9223372036854775808) % (2 ^ (64 : Int).toNat) + -9223372036854775808 = wrap n := by
    unfold wrap
    show (n - -9223372036854775808) % 18446744073709551616 + -9223372036854775808 = _
    omega
  show Q (.int ((n - -9223372036854775808) % (2 ^ (64 : Int).toNat) + -9223372036854775808)) H
  rw [e]
  exact q
theorem z2 : 2 ≤ sizeLine := by decide
theorem z1 : 1 ≤ sizeLine := by decide
theorem z0 : 0 ≤ sizeLine := by decide
/-! ### no_state -/
def spNo (K : PySem.W.Frag) : Sp := fun vs H Q _ => ∃ kind : Str, vs = [.str kind] ∧ ∀ v H', Same H H' → StAt K H' v (stOf kind []) → Q v H'
theorem sc_no : FnScope ["kind"] ["kind"] (defScope sNo) := ⟨rfl, rfl, rfl, by decide +kernel, rfl, by decide +kernel, by decide +kernel⟩
theorem sel_nil (kind : Str) : sel kind [] = [] := by
  unfold sel
  split
  · rfl
  split <;> rfl
theorem ok_no {f : Addr} {fd : FuncData} (F : Fun K "no_state" "no_state" sNo f fd) : FnOk P w K mg base CX0 1 f fd ["kind"] (spNo K) := by
  refine F.ok sc_no (fun vs H Q E h => ?_) (fun cdv A outer s H vs Q E hr h => ?_)
  · obtain ⟨kind, rfl, _⟩ := h
    rfl
  obtain ⟨kind, rfl, q⟩ := h
  refine ⟨_, pss_cons (ps_if (pt_cmpR op_in_seq (pv 0) (pe_tup (pa_cons pe_str (pa_cons pe_str pa_nil))) rfl) (pss_one (ps_ret pe_int)) (pss_nil))
      (pss_cons (ps_if (pt_cmpR op_eq (pv 0) pe_str (nomark _)) (pss_one (ps_ret (pe_tup (pa_cons pe_int (pa_cons pe_int pa_nil))))) (pss_nil))
      (pss_one (ps_ret (pe_tup pa_nil)))), ?_⟩
  refine ⟨_, rfl, z2, fun p hp => ?_⟩
  have s1 := same_upd (o := .tup [.str "count", .str "sum"]) hp
  unfold stOf at q
  refine ⟨p, _, rfl, .inr (SqT.of upd_same), rfl, rfl, _, rfl, in_strs (l := ["count", "sum"]) (fun h => ?_) (fun h => ?_)⟩
  · rw [if_pos h] at q
    refine q _ _ s1 ?_
    show V.int 0 = V.int (wrap (amt kind []))
    unfold amt
    split <;> rfl
  rw [if_neg h] at q
  refine ⟨_, rfl, rfl, _, rfl, ite2 (fun c => ?_) (fun c => ?_)⟩
  · rw [if_pos (of_decide_eq_true c)] at q
    exact ⟨z2, fun p2 hp2 => q _ _ (s1.trans (same_upd hp2)) ⟨p2, rfl, SqT.of upd_same⟩⟩
  rw [if_neg (fun e => c (decide_eq_true e)), show sd [] = [] from rfl, sel_nil] at q
  exact ⟨z0, fun p2 hp2 => q _ _ (s1.trans (same_upd hp2)) ⟨p2, rfl, SqT.of upd_same⟩⟩
/-! ### one_state -/
def spOne (K : PySem.W.Frag) : Sp := fun vs H Q _ => ∃ (kind : Str) (x : V) (k : L2.Key), vs = [.str kind, x] ∧ (V.str kind ≠ .str "count" → x = kV k ∧ (V.str kind = .str "sum" ∨ V.str kind = .str "mean" → ∃ i, k = .inl i ∧ In64 i)) ∧ ∀ v H', Same H H' → StAt K H' v (stOf kind [k]) → Q v H'
theorem sc_one : FnScope ["kind", "value"] ["kind", "value"] (defScope sOne) := ⟨rfl, rfl, rfl, by decide +kernel, rfl, by decide +kernel, by decide +kernel⟩
theorem sel_one (kind : Str) (k : L2.Key) : sel kind [k] = [k] := by
  unfold sel
  split
  · rfl
  split <;> rfl
theorem in_cs {kind : Str} (h : kind ∈ (["count", "sum"] : List Str)) : V.str kind = .str "count" ∨ V.str kind = .str "sum" := by
  simp only [List.mem_cons, List.not_mem_nil, or_false] at h
  rcases h with rfl | rfl
  · exact .inl rfl
  · exact .inr rfl
theorem str_eq {a b : Str} (h : V.str a = .str b) : a = b := by cases h; rfl
theorem cs_in {kind : Str} (h : V.str kind = .str "count" ∨ V.str kind = .str "sum") : kind ∈ (["count", "sum"] : List Str) := by
  rcases h with h | h
  · rw [str_eq h]
    exact List.mem_cons_self
  · rw [str_eq h]
    exact List.mem_cons_of_mem _ List.mem_cons_self
theorem st_num {kind : Str} {b : List L2.Key} (h : V.str kind = .str "count" ∨ V.str kind = .str "sum") : stOf kind b = .n (wrap (amt kind b)) := by
  unfold stOf
  rw [if_pos (cs_in h)]
theorem ok_one {f : Addr} {fd : FuncData} (F : Fun K "one_state" "one_state" sOne f fd) : FnOk P w K mg base CX0 1 f fd ["kind", "value"] (spOne K) := by
  refine F.ok sc_one (fun vs H Q E h => ?_) (fun cdv A outer s H vs Q E hr h => ?_)
  · obtain ⟨kind, x, k, rfl, _⟩ := h
    rfl
  obtain ⟨kind, x, k, rfl, hx, q⟩ := h
  refine ⟨_, pss_cons (ps_if (pt_cmpR op_eq (pv 0) pe_str (nomark _)) (pss_one (ps_ret pe_int)) (pss_nil))
      (pss_cons (ps_if (pt_cmpR op_eq (pv 0) pe_str (nomark _)) (pss_one (ps_ret (pv 1))) (pss_nil))
      (pss_cons (ps_if (pt_cmpR op_eq (pv 0) pe_str (nomark _)) (pss_one (ps_ret (pe_tup (pa_cons (pv 1) (pa_cons pe_int pa_nil))))) (pss_nil))
      (pss_one (ps_ret (pe_tup (pa_cons (pv 1) pa_nil)))))), ?_⟩
  refine ⟨_, rfl, rfl, _, rfl, ite2 (fun c => ?_) (fun c => ?_)⟩
  · have c' := of_decide_eq_true c
    rw [st_num (.inl c')] at q
    refine q _ _ (Same.refl _) ?_
    unfold amt
    rw [if_pos c']
    show V.int 1 = V.int (wrap ((1 : Nat) : Int))
    rw [show wrap ((1 : Nat) : Int) = 1 by decide]
  have c1 : V.str kind ≠ .str "count" := fun e => c (decide_eq_true e)
  obtain ⟨rfl, hi⟩ := hx c1
  refine ⟨_, rfl, rfl, _, rfl, ite2 (fun c => ?_) (fun c => ?_)⟩
  · have c' := of_decide_eq_true c
    rw [st_num (.inr c')] at q
    obtain ⟨i, rfl, h64⟩ := hi (.inl c')
    refine ⟨_, rfl, q _ _ (Same.refl _) ?_⟩
    unfold amt
    rw [if_neg c1]
    show V.int i = V.int (wrap (i + 0))
    rw [Int.add_zero, wrap_id h64]
  have c2 : V.str kind ≠ .str "sum" := fun e => c (decide_eq_true e)
  have hn : kind ∉ (["count", "sum"] : List Str) := fun h => (in_cs h).elim c1 c2
  unfold stOf at q
  rw [if_neg hn] at q
  refine ⟨_, rfl, rfl, _, rfl, ite2 (fun c => ?_) (fun c => ?_)⟩
  · have c' := of_decide_eq_true c
    rw [if_pos c'] at q
    obtain ⟨i, rfl, h64⟩ := hi (.inr c')
    have e : wrap (tot [Sum.inl i]) = i := by
      show wrap (i + 0) = i
      rw [Int.add_zero, wrap_id h64]
    rw [e] at q
    exact ⟨_, rfl, z2, fun p hp => q _ _ (same_upd hp) ⟨p, rfl, SqT.of upd_same⟩⟩
  rw [if_neg (fun e => c (decide_eq_true e)), show sd [k] = [k] from rfl, sel_one] at q
  exact ⟨_, rfl, z1, fun p hp => q _ _ (same_upd hp) ⟨p, rfl, SqT.of upd_same⟩⟩
end
end Kx

namespace Kx
open PySem PySem.Spec PyProof.Rows L2
section
variable {X : Cx}
/-- // of ints of any sign -/
theorem op_fdivA : OpR X (binaryOp .FloorDiv) (rI (fun _ j => j ≠ 0 ∧ j.natAbs.log2 < 9000) fun i j => .int (i.fdiv j)) := opI fun i j _ _ _ _ _ hc q =>
  floordiv_int hc.1 q (.inl (PyProof.noPylong_of_log2 hc.2))
end
theorem small_ok {n : Nat} (h0 : 0 < n) (h : n < 64) : ((n : Nat) : Int) ≠ 0 ∧ ((n : Nat) : Int).natAbs.log2 < 9000 := by
  refine ⟨by omega, ?_⟩
  have hj : ((n : Nat) : Int).natAbs < 2 ^ 64 := by omega
  exact Nat.lt_trans (PySem.Flt.log2_lt_of (by decide) hj) (by decide)
section
variable {P : Program} {w : World} {K : PySem.W.Frag} {mg : Str → Option Value} {base : Heap}
theorem tup0 {H : Hp} {a : Addr} {x y : V} {Q : VK} (h : SqT K H a [x, y]) (q : Q x H) : rIxT K (.ref a) (.int 0) H Q := ⟨a, _, 0, _, rfl, rfl, h, rfl, q⟩
theorem tup1 {H : Hp} {a : Addr} {x y : V} {Q : VK} (h : SqT K H a [x, y]) (q : Q y H) : rIxT K (.ref a) (.int 1) H Q := ⟨a, _, 1, _, rfl, rfl, h, rfl, q⟩
theorem st_mean {kind : Str} {b : List L2.Key} (hn : kind ∉ (["count", "sum"] : List Str)) (c : V.str kind = .str "mean") : stOf kind b = .m (wrap (tot b)) b.length := by
  unfold stOf
  rw [if_neg hn, if_pos c]
theorem st_ks {kind : Str} {b : List L2.Key} (hn : kind ∉ (["count", "sum"] : List Str)) (c : V.str kind ≠ .str "mean") : stOf kind b = .ks (sel kind (sd b)) := by
  unfold stOf
  rw [if_neg hn, if_neg c]
theorem st_n {kind : Str} {b : List L2.Key} (hn : kind ∈ (["count", "sum"] : List Str)) : stOf kind b = .n (wrap (amt kind b)) := by
  unfold stOf
  rw [if_pos hn]
/-! ### put_together -/
def spPut (K : PySem.W.Frag) : Sp := fun vs H Q _ => ∃ (kind : Str) (x y : V) (b c : List L2.Key), vs = [.str kind, x, y] ∧ StAt K H x (stOf kind b) ∧ StAt K H y (stOf kind c) ∧ Hom (b ++ c) ∧ (b ++ c).length < 64 ∧ ∀ v H', Same H H' → StAt K H' v (stOf kind (b ++ c)) → Q v H'
abbrev N_put : List Str := ["kind", "one", "other", "values"]
theorem sc_put : FnScope N_put ["kind", "one", "other"] (defScope sPut) := ⟨rfl, rfl, rfl, by decide +kernel, rfl, by decide +kernel, by decide +kernel⟩
theorem ok_put {f : Addr} {fd : FuncData} (F : Fun K "put_together" "put_together" sPut f fd) (m_sorted : mg "sorted" = none) (m_set : mg "set" = none) (m_tuple : mg "tuple" = none) (G_wrapped : Ready P w K mg base 1 "wrapped" ["number"] spWrap) :
    FnOk P w K mg base CX0 2 f fd ["kind", "one", "other"] (spPut K) := by
  refine F.ok sc_put (fun vs H Q E h => ?_) (fun cdv A outer s H vs Q E hr h => ?_)
  · obtain ⟨kind, x, y, b, c, rfl, _⟩ := h
    rfl
  obtain ⟨kind, x, y, b, c, rfl, hx, hy, hom, h64, q⟩ := h
  have nd := sc_put.nd
  refine ⟨_, pss_cons (ps_if (pt_cmpR op_in_seq (pv 0) (pe_tup (pa_cons pe_str (pa_cons pe_str pa_nil))) rfl) (pss_one (ps_ret (pe_fn (G_wrapped) (hr.mono (by decide)) (pa_cons (pe_op op_add (pv 1) (pv 2)) pa_nil)))) (pss_nil))
      (pss_cons (ps_if (pt_cmpR op_eq (pv 0) pe_str (nomark _)) (pss_one (ps_ret (pe_tup (pa_cons (pe_fn (G_wrapped) (hr.mono (by decide)) (pa_cons (pe_op op_add (pe_ix ix_tup (pv 1) pe_int (fun _ _ => rfl)) (pe_ix ix_tup (pv 2) pe_int (fun _ _ => rfl))) pa_nil)) (pa_cons (pe_op op_add (pe_ix ix_tup (pv 1) pe_int (fun _ _ => rfl)) (pe_ix ix_tup (pv 2) pe_int (fun _ _ => rfl))) pa_nil))))) (pss_nil))
      (pss_cons (ps_set (i := 3) nd rfl (.inl rfl) (pe_callB (Yk.cr_sortedK rfl) (by rfl) m_sorted boot_sorted (pa_cons (pe_callTy (Yk.cr_setK rfl) (by rfl) m_set PyProof.Rows.boot_set (pa_cons (pe_op op_catA (pv 1) (pv 2)) pa_nil)) pa_nil)))
      (pss_cons (ps_if (pt_cmpR op_eq (pv 0) pe_str (nomark _)) (pss_one (ps_ret (pe_callTy call_tuple_of (by rfl) m_tuple PyProof.Rows.boot_tuple (pa_cons (pe_slice sl_list (pv 3) po_none (po_some pe_int)) pa_nil)))) (pss_nil))
      (pss_cons (ps_if (pt_cmpR op_eq (pv 0) pe_str (nomark _)) (pss_one (ps_ret (pe_callTy call_tuple_of (by rfl) m_tuple PyProof.Rows.boot_tuple (pa_cons (pe_slice sl_list (pv 3) (po_some (pe_un un_neg pe_int)) po_none) pa_nil)))) (pss_nil))
      (pss_one (ps_ret (pe_callTy call_tuple_of (by rfl) m_tuple PyProof.Rows.boot_tuple (pa_cons (pv 3) pa_nil)))))))), ?_⟩
  refine ⟨_, rfl, z2, fun p hp => ?_⟩
  have s1 := same_upd (o := .tup [.str "count", .str "sum"]) hp
  refine ⟨p, _, rfl, .inr (SqT.of upd_same), rfl, rfl, _, rfl, in_strs (l := ["count", "sum"]) (fun h => ?_) (fun h => ?_)⟩
  · rw [st_n h] at hx hy q
    cases hx
    cases hy
    refine ⟨_, rfl, _, rfl, _, _, rfl, rfl, _, rfl, q _ _ s1 ?_⟩
    rw [wrap_add, amt_app]
    rfl
  replace hx := StAt.same s1 hx
  replace hy := StAt.same s1 hy
  refine ⟨_, rfl, rfl, _, rfl, ite2 (fun e => ?_) (fun e => ?_)⟩
  · have e' := of_decide_eq_true e
    rw [st_mean h e'] at hx hy q
    obtain ⟨a1, rfl, h1⟩ := hx
    obtain ⟨a2, rfl, h2⟩ := hy
    refine ⟨_, rfl, a1, _, 0, _, rfl, rfl, h1, rfl, _, rfl, a2, _, 0, _, rfl, rfl, h2, rfl, _, _, rfl, rfl, _, rfl, ?_⟩
    refine ⟨_, rfl, a1, _, 1, _, rfl, rfl, h1, rfl, _, rfl, a2, _, 1, _, rfl, rfl, h2, rfl, _, _, rfl, rfl, z2, fun p2 hp2 => q _ _ (s1.trans (same_upd hp2)) ⟨p2, rfl, ?_⟩⟩
    rw [wrap_add, tot_app, List.length_append]
    exact SqT.of (by rw [upd_same]; rfl)
  have e0 : V.str kind ≠ .str "mean" := fun z => e (decide_eq_true z)
  rw [st_ks h e0] at hx hy q
  obtain ⟨a1, rfl, h1⟩ := hx
  obtain ⟨a2, rfl, h2⟩ := hy
  have l1 := sel_sd_len kind b
  have l2 := sel_sd_len kind c
  rw [List.length_append] at h64
  have lz : 64 ≤ sizeLine := by decide
  refine ⟨_, rfl, _, rfl, cat_any h1 h2 (by rw [List.length_map, List.length_map]; omega) fun p2 H2 s2 t2 => ?_⟩
  rw [← List.map_append] at t2
  dsimp only [tNil]
  refine set_sorted (.inr t2) (hom_sub hom fun z hz => ?_) (by rw [List.length_append]; omega) fun p3 H3 s3 t3 => ?_
  · rcases List.mem_append.mp hz with hz | hz
    · exact List.mem_append_left _ (sel_sd_sub hz)
    · exact List.mem_append_right _ (sel_sd_sub hz)
  have S := s1.trans (s2.trans s3)
  have two := sel_two kind b c
  generalize sd (sel kind (sd b) ++ sel kind (sd c)) = L at t3 two
  rw [← two] at q
  unfold sel at q
  refine ⟨_, rfl, rfl, _, rfl, ite2 (fun e => ?_) (fun e => ?_)⟩
  · rw [if_pos (of_decide_eq_true e)] at q
    refine ⟨_, rfl, _, rfl, p3, _, rfl, SqL.of t3, fun p4 hp4 => ?_⟩
    rw [cut_first]
    refine ⟨p4, _, rfl, .inl ⟨SqL.of upd_same, fun p5 hp5 => q _ _ (S.trans ((same_upd hp4).trans (same_upd hp5))) ⟨p5, rfl, ?_⟩⟩⟩
    rw [List.map_take]
    exact SqT.of upd_same
  rw [if_neg (fun z => e (decide_eq_true z))] at q
  refine ⟨_, rfl, rfl, _, rfl, ite2 (fun e => ?_) (fun e => ?_)⟩
  · rw [if_pos (of_decide_eq_true e)] at q
    refine ⟨_, rfl, _, rfl, _, rfl, p3, _, rfl, SqL.of t3, fun p4 hp4 => ?_⟩
    rw [cut_last]
    refine ⟨p4, _, rfl, .inl ⟨SqL.of upd_same, fun p5 hp5 => q _ _ (S.trans ((same_upd hp4).trans (same_upd hp5))) ⟨p5, rfl, ?_⟩⟩⟩
    rw [List.length_map, ← List.map_drop]
    exact SqT.of upd_same
  rw [if_neg (fun z => e (decide_eq_true z))] at q
  exact ⟨_, rfl, p3, _, rfl, .inl ⟨SqL.of t3, fun p5 hp5 => q _ _ (S.trans (same_upd hp5)) ⟨p5, rfl, SqT.of upd_same⟩⟩⟩
end
end Kx

namespace Kx
open PySem PySem.Spec PyProof.Rows L2
abbrev sDue : Stmt := topS 16
def hdV : List L2.Key → V
  | k :: _ => kV k
  | [] => .non
/-- what a fold tells of a bag -/
def toldV (kind : Str) (b : List L2.Key) : V :=
  if kind ∈ (["count", "sum"] : List Str) then .int (wrap (amt kind b)) else if V.str kind = .str "mean" then .int ((wrap (tot b)).fdiv b.length) else if V.str kind = .str "unlike" then .int (sel kind (sd b)).length else hdV (sel kind (sd b))
section
variable {P : Program} {w : World} {K : PySem.W.Frag} {mg : Str → Option Value} {base : Heap}
theorem sel_ne {kind : Str} {b : List L2.Key} (h : b ≠ []) : ∃ k l, sel kind (sd b) = k :: l := by
  have h0 : sd b ≠ [] := by
    cases b with
    | nil => exact absurd rfl h
    | cons x r => exact List.ne_nil_of_mem (mem_sd.mpr (List.mem_cons_self (a := x) (l := r)))
  unfold sel
  split
  · obtain ⟨x, _, _, e⟩ := first_ex (asc_sd b) h0
    exact ⟨x, [], e⟩
  split
  · obtain ⟨x, _, _, e⟩ := last_ex (asc_sd b) h0
    exact ⟨x, [], e⟩
  · cases e : sd b with
    | nil => exact absurd e h0
    | cons x r => exact ⟨x, r, rfl⟩
theorem at0 {x : V} {xs : List V} : atI (x :: xs) 0 = some x := atI_nat (j := 0) rfl
/-! ### state_told -/
def spTold (K : PySem.W.Frag) : Sp := fun vs H Q _ => ∃ (kind : Str) (x : V) (b : List L2.Key), vs = [.str kind, x] ∧ StAt K H x (stOf kind b) ∧ b ≠ [] ∧ b.length < 64 ∧ ∀ H', Same H H' → Q (toldV kind b) H'
theorem sc_told : FnScope ["kind", "state"] ["kind", "state"] (defScope sTold) := ⟨rfl, rfl, rfl, by decide +kernel, rfl, by decide +kernel, by decide +kernel⟩
theorem ok_told {f : Addr} {fd : FuncData} (F : Fun K "state_told" "state_told" sTold f fd) (m_len : mg "len" = none) : FnOk P w K mg base CX0 1 f fd ["kind", "state"] (spTold K) := by
  refine F.ok sc_told (fun vs H Q E h => ?_) (fun cdv A outer s H vs Q E hr h => ?_)
  · obtain ⟨kind, x, b, rfl, _⟩ := h
    rfl
  obtain ⟨kind, x, b, rfl, hx, hb, h64, q⟩ := h
  have nd := sc_told.nd
  refine ⟨_, pss_cons (ps_if (pt_cmpR op_in_seq (pv 0) (pe_tup (pa_cons pe_str (pa_cons pe_str pa_nil))) rfl) (pss_one (ps_ret (pv 1))) (pss_nil))
      (pss_cons (ps_if (pt_cmpR op_eq (pv 0) pe_str (nomark _)) (pss_one (ps_ret (pe_op op_fdivA (pe_ix ix_tup (pv 1) pe_int (fun _ _ => rfl)) (pe_ix ix_tup (pv 1) pe_int (fun _ _ => rfl))))) (pss_nil))
      (pss_cons (ps_if (pt_cmpR op_eq (pv 0) pe_str (nomark _)) (pss_one (ps_ret (pe_callB call_len_seq (by rfl) m_len PySem.boot_len (pa_cons (pv 1) pa_nil)))) (pss_nil))
      (pss_one (ps_ret (pe_ix ix_tup (pv 1) pe_int (fun _ _ => rfl)))))), ?_⟩
  refine ⟨_, rfl, z2, fun p hp => ?_⟩
  have s1 := same_upd (o := .tup [.str "count", .str "sum"]) hp
  unfold toldV at q
  refine ⟨p, _, rfl, .inr (SqT.of upd_same), rfl, rfl, _, rfl, in_strs (l := ["count", "sum"]) (fun h => ?_) (fun h => ?_)⟩
  · rw [st_n h] at hx
    cases hx
    rw [if_pos h] at q
    exact ⟨_, rfl, q _ s1⟩
  rw [if_neg h] at q
  replace hx := StAt.same s1 hx
  refine ⟨_, rfl, rfl, _, rfl, ite2 (fun e => ?_) (fun e => ?_)⟩
  · have e' := of_decide_eq_true e
    rw [st_mean h e'] at hx
    rw [if_pos e'] at q
    obtain ⟨a1, rfl, h1⟩ := hx
    exact ⟨_, rfl, a1, _, 0, _, rfl, rfl, h1, rfl, _, rfl, a1, _, 1, _, rfl, rfl, h1, rfl, _, _, rfl, rfl, small_ok (List.length_pos_iff.mpr hb) h64, q _ s1⟩
  have e0 : V.str kind ≠ .str "mean" := fun z => e (decide_eq_true z)
  rw [st_ks h e0] at hx
  rw [if_neg e0] at q
  obtain ⟨a1, rfl, h1⟩ := hx
  refine ⟨_, rfl, rfl, _, rfl, ite2 (fun e => ?_) (fun e => ?_)⟩
  · rw [if_pos (of_decide_eq_true e)] at q
    refine ⟨_, rfl, a1, _, rfl, .inr h1, ?_⟩
    rw [List.length_map]
    exact q _ s1
  rw [if_neg (fun z => e (decide_eq_true z))] at q
  obtain ⟨k, l, ek⟩ := sel_ne (kind := kind) hb
  rw [ek] at h1 q
  exact ⟨_, rfl, a1, _, 0, _, rfl, rfl, h1, at0, q _ s1⟩
/-! ### _law_value -/
def texts5 : List Str := ["", "a", "b", "ab", "z"]
def spValue : Sp := fun vs H Q _ => ∃ (d s : Addr) (ns : List Int) (n : Int) (sort : Str), vs = [.ref d, .str sort] ∧ DrawAt H d s ns n ∧
  ∀ (k : L2.Key) (n' : Int) (H' : Hp), ((V.str sort = .str "text" ∧ ∃ z ∈ texts5, k = .inr z) ∨ (V.str sort ≠ .str "text" ∧ ∃ i, k = .inl i ∧ In64 i)) → But d H H' → DrawAt H' d s ns n' → Q (kV k) H'
theorem sc_value : FnScope ["draw", "kind", "near"] ["draw", "kind"] (defScope sValue) := ⟨rfl, rfl, rfl, by decide +kernel, rfl, by decide +kernel, by decide +kernel⟩
def nears : List Int := [0, 0, 2 ^ 63 - 1, -2 ^ 63]
theorem ok_value {f : Addr} {fd : FuncData} (F : Fun K "_law_value" "_law_value" sValue f fd) (G_law_next : Ready P w K mg base 3 "_law_next" ["draw", "bound"] spNext) (G_law_pick : Ready P w K mg base 4 "_law_pick" ["draw", "things"] (spPick K)) :
    FnOk P w K mg base CX0 5 f fd ["draw", "kind"] spValue := by
  refine F.ok sc_value (fun vs H Q E h => ?_) (fun cdv A outer s H vs Q E hr h => ?_)
  · obtain ⟨d, s, ns, n, sort, rfl, _⟩ := h
    rfl
  obtain ⟨d, s, ns, n, sort, rfl, D, q⟩ := h
  have nd := sc_value.nd
  have hp : CPow 2 63 := by show _ ∧ _ ∧ _; decide
  have hp4 : CPow 2 64 := by show _ ∧ _ ∧ _; decide
  refine ⟨_, pss_cons (ps_if (pt_cmpR op_eq (pv 1) pe_str (nomark _)) (pss_one (ps_ret (pe_fn (G_law_pick) (hr.mono (by decide)) (pa_cons (pv 0) (pa_cons (pe_lst (pa_cons pe_str (pa_cons pe_str (pa_cons pe_str (pa_cons pe_str (pa_cons pe_str pa_nil)))))) pa_nil))))) (pss_nil))
      (pss_cons (ps_set (i := 2) nd rfl (.inl rfl) (pe_fn (G_law_pick) (hr.mono (by decide)) (pa_cons (pv 0) (pa_cons (pe_lst (pa_cons pe_int (pa_cons pe_int (pa_cons (pe_op op_sub (pe_op op_pow pe_int pe_int) pe_int) (pa_cons (pe_un un_neg (pe_op op_pow pe_int pe_int)) pa_nil))))) pa_nil))))
      (pss_one (ps_ret (pe_op op_sub (pe_op op_mod (pe_op op_add (pe_op op_sub (pe_op op_add (pv 2) (pe_fn (G_law_next) (hr.mono (by decide)) (pa_cons (pv 0) (pa_cons pe_int pa_nil)))) pe_int) (pe_op op_pow pe_int pe_int)) (pe_op op_pow pe_int pe_int)) (pe_op op_pow pe_int pe_int))))), ?_⟩
  refine ⟨_, rfl, rfl, _, rfl, ite2 (fun e => ?_) (fun e => ?_)⟩
  · refine ⟨_, rfl, (by show 5 ≤ sizeLine; decide), fun p np => ?_⟩
    have s1 := same_upd (o := .lst (texts5.map V.str)) np
    have pd : p ≠ d := (ne_of_none D.at_d np).symm
    refine ⟨d, s, p, ns, n, texts5.map V.str, rfl, D.keep s1, pd, .inl (SqL.of upd_same), (by intro z; cases z), fun v H1 hv b1 D1 => ?_⟩
    obtain ⟨z, hz, rfl⟩ := List.mem_map.mp hv
    exact q (.inr z) _ _ (.inl ⟨of_decide_eq_true e, z, hz, rfl⟩) ((same_but s1).trans b1) D1
  refine ⟨_, rfl, _, _, rfl, rfl, hp, _, _, rfl, rfl, _, _, rfl, rfl, hp, _, rfl, (by show 4 ≤ sizeLine; decide), fun p np => ?_⟩
  have s1 := same_upd (o := .lst (nears.map V.int)) np
  have pd : p ≠ d := (ne_of_none D.at_d np).symm
  refine ⟨d, s, p, ns, n, nears.map V.int, rfl, D.keep s1, pd, .inl (SqL.of upd_same), (by intro z; cases z), fun v H1 hv b1 D1 => ?_⟩
  obtain ⟨i, _, rfl⟩ := List.mem_map.mp hv
  refine ⟨_, rfl, _, rfl, d, s, ns, _, _, rfl, D1, (by show (0 : Int) < 7; decide), fun r H2 r0 r1 b2 D2 => ?_⟩
  refine ⟨_, _, rfl, rfl, _, _, rfl, rfl, _, _, rfl, rfl, hp, _, _, rfl, rfl, _, _, rfl, rfl, hp4, _, _, rfl, rfl, (by show (0 : Int) < 2 ^ 64; decide), _, _, rfl, rfl, hp, _, _, rfl, rfl, ?_⟩
  refine q (.inl _) _ H2 (.inr ⟨fun z => e (decide_eq_true z), _, rfl, ?_⟩) ((same_but s1).trans (b1.trans b2)) D2
  show In64 ((i + r - 3 + 2 ^ 63) % 2 ^ 64 - 2 ^ 63)
  unfold In64
  omega
/-! ### _law_due -/
def NotGt (l : List L2.Key) : Prop := l.Pairwise fun a b => ¬ lt b a
/-- sorted(..) of a list of ints or of texts -/
theorem sorted_any {H : Hp} {a : Addr} {b : List L2.Key} {Q : VK} (h : SqL K H a (b.map kV)) (hom : Hom b) (hl : b.length < 64) (q : ∀ p H' ys, Same H H' → ys.Perm b → NotGt ys → H' p = some (.lst (ys.map kV)) → Q (.ref p) H') :
    rSorted K [.ref a] H Q ∨ rSortedS K [.ref a] H Q := by
  rcases hom with ⟨ms, rfl⟩ | ⟨ms, rfl⟩
  · rw [List.map_map] at h
    rw [List.length_map] at hl
    refine .inl ⟨a, ms, rfl, h, hl, fun ns p pm pw hp => q p _ (ns.map Sum.inl) (same_upd hp) (pm.map _) ?_ ?_⟩
    · unfold NotGt
      rw [List.pairwise_map]
      refine pw.imp fun {x y} z => ?_
      show ¬ y < x
      omega
    · rw [List.map_map]
      exact upd_same
  · rw [List.map_map] at h
    rw [List.length_map] at hl
    refine .inr ⟨a, ms, rfl, h, hl, fun ns p pm pw hp => q p _ (ns.map Sum.inr) (same_upd hp) (pm.map _) ?_ ?_⟩
    · unfold NotGt
      rw [List.pairwise_map]
      cases ns with
      | nil => exact List.Pairwise.nil
      | cons x r => exact rising_all pw
    · rw [List.map_map]
      exact upd_same
theorem notGt_first {ys b : List L2.Key} (pm : ys.Perm b) (h : NotGt ys) (hb : b ≠ []) : ∃ k, ys[0]? = some k ∧ (sd b).take 1 = [k] := by
  cases ys with
  | nil => exact absurd pm.symm.eq_nil hb
  | cons x r =>
    refine ⟨x, rfl, first_of (asc_sd b) (mem_sd.mpr (pm.mem_iff.mp List.mem_cons_self)) fun y hy => ?_⟩
    rcases List.mem_cons.mp (pm.mem_iff.mpr (mem_sd.mp hy)) with e | hy
    · rw [e]
      exact lt_irr x
    · exact (List.pairwise_cons.mp h).1 y hy
theorem notGt_last : ∀ {ys : List L2.Key}, NotGt ys → ys ≠ [] → ∃ k, k ∈ ys ∧ ys[ys.length - 1]? = some k ∧ ∀ y ∈ ys, ¬ lt k y
  | [], _, h => absurd rfl h
  | [x], _, _ => ⟨x, List.mem_cons_self, rfl, fun y hy => by
    rcases List.mem_cons.mp hy with e | z
    · rw [e]
      exact lt_irr x
    · cases z⟩
  | x :: y :: r, h, _ => by
    have h' := List.pairwise_cons.mp h
    obtain ⟨k, hk, e, hm⟩ := notGt_last (ys := y :: r) h'.2 (by intro z; cases z)
    refine ⟨k, List.mem_cons_of_mem _ hk, e, fun u hu => ?_⟩
    rcases List.mem_cons.mp hu with e2 | hu
    · rw [e2]
      exact h'.1 k hk
    · exact hm u hu
theorem last_is {ys b : List L2.Key} (pm : ys.Perm b) (h : NotGt ys) (hb : b ≠ []) : ∃ k, ys[ys.length - 1]? = some k ∧ (sd b).drop ((sd b).length - 1) = [k] := by
  obtain ⟨k, hk, e, hm⟩ := notGt_last h fun z => hb (by rw [z] at pm; exact pm.symm.eq_nil)
  exact ⟨k, e, last_of (asc_sd b) (mem_sd.mpr (pm.mem_iff.mp hk)) fun y hy => hm y (pm.mem_iff.mpr (mem_sd.mp hy))⟩
theorem atI_last {xs : List V} {v : V} (h : xs[xs.length - 1]? = some v) : atI xs (-1) = some v := by
  have h0 : 0 < xs.length := by
    cases xs with
    | nil => cases h
    | cons x r => exact Nat.succ_pos _
  unfold atI ixN
  rw [if_neg (by decide), if_pos (by omega)]
  show xs[((-1 : Int) + (xs.length : Int)).toNat]? = some v
  rw [show ((-1 : Int) + (xs.length : Int)).toNat = xs.length - 1 by omega]
  exact h
def six : List Str := ["count", "sum", "least", "greatest", "mean", "unlike"]
def spDue (K : PySem.W.Frag) : Sp := fun vs H Q _ => ∃ (kind : Str) (a : Addr) (b : List L2.Key), vs = [.str kind, .ref a] ∧ kind ∈ six ∧ SqL K H a (b.map kV) ∧ b ≠ [] ∧ b.length < 64 ∧ Hom b ∧ (V.str kind = .str "sum" ∨ V.str kind = .str "mean" → ∃ ns : List Int, b = ns.map Sum.inl) ∧
  ∀ p v H', Same H H' → StAt K H' v (stOf kind b) → SqT K H' p [v, toldV kind b] → Q (.ref p) H'
abbrev N_due : List Str := ["kind", "values", "total", "value", "found", "one"]
theorem sc_due : FnScope N_due ["kind", "values"] (defScope sDue) := ⟨rfl, rfl, rfl, by decide +kernel, rfl, by decide +kernel, by decide +kernel⟩
end
end Kx

namespace Kx
open PySem PySem.Spec PyProof.Rows L2
section
variable {P : Program} {w : World} {K : PySem.W.Frag} {mg : Str → Option Value} {base : Heap}
theorem ints_map (b : List L2.Key) (h : ∃ ns : List Int, b = ns.map Sum.inl) : b.map kV = (b.map toI).map V.int ∧ (b.map toI).sum = tot b := by
  obtain ⟨ns, rfl⟩ := h
  constructor
  · rw [List.map_map, List.map_map, List.map_map]
    rfl
  · induction ns with
    | nil => rfl
    | cons n r ih =>
      show (toI (Sum.inl n) :: (r.map Sum.inl).map toI).sum = toI (Sum.inl n) + tot (r.map Sum.inl)
      rw [List.sum_cons, ih]
theorem six_last {kind : Str} (h : kind ∈ six) (h1 : V.str kind ≠ .str "count") (h2 : V.str kind ≠ .str "sum") (h3 : V.str kind ≠ .str "mean") (h4 : V.str kind ≠ .str "unlike") (h5 : V.str kind ≠ .str "least") : V.str kind = .str "greatest" := by
  unfold six at h
  simp only [List.mem_cons, List.not_mem_nil, or_false] at h
  rcases h with rfl | rfl | rfl | rfl | rfl | rfl
  · exact absurd rfl h1
  · exact absurd rfl h2
  · exact absurd rfl h5
  · rfl
  · exact absurd rfl h3
  · exact absurd rfl h4
theorem ok_due {f : Addr} {fd : FuncData} (F : Fun K "_law_due" "_law_due" sDue f fd) (m_len : mg "len" = none) (m_sorted : mg "sorted" = none) (m_set : mg "set" = none) (m_tuple : mg "tuple" = none) (m_sum : mg "sum" = none) :
    FnOk P w K mg base CX0 1 f fd ["kind", "values"] (spDue K) := by
  refine F.ok sc_due (fun vs H Q E h => ?_) (fun cdv A outer s H vs Q E hr h => ?_)
  · obtain ⟨kind, a, b, rfl, _⟩ := h
    rfl
  obtain ⟨kind, a, b, rfl, h6, hL, hb, h64, hom, hi, q⟩ := h
  have nd := sc_due.nd
  have hp : CPow 2 63 := by show _ ∧ _ ∧ _; decide
  have hp4 : CPow 2 64 := by show _ ∧ _ ∧ _; decide
  refine ⟨_, pss_cons (ps_if (pt_cmpR op_eq (pv 0) pe_str (nomark _)) (pss_one (ps_ret (pe_tup (pa_cons (pe_callB call_len_seq (by rfl) m_len PySem.boot_len (pa_cons (pv 1) pa_nil)) (pa_cons (pe_callB call_len_seq (by rfl) m_len PySem.boot_len (pa_cons (pv 1) pa_nil)) pa_nil))))) (pss_nil))
      (pss_cons (ps_set (i := 2) nd rfl (.inl rfl) (pe_op op_sub (pe_op op_mod (pe_op op_add (pe_callB (cr_sum rfl) (by rfl) m_sum boot_sum (pa_cons (pe_lc (own := [("value", 3)]) (g := gName 3) (tt := _) rfl nd (pi_list (pv 1)) (blkOk_by (N := N_due) (sc := defScope sDue) (by decide +kernel)) (fun _ _ _ _ _ => pg_name (i := 3) nd rfl (Or.inl rfl)) (fun _ _ _ _ _ => pts_one (pt_cmpR (show OpR _ _ (rIn K false) from op_in_seq) (pv 0) (pe_tup (pa_cons pe_str (pa_cons pe_str pa_nil))) rfl)) (fun _ _ _ _ _ => (pv 3))) pa_nil)) (pe_op op_pow pe_int pe_int)) (pe_op op_pow pe_int pe_int)) (pe_op op_pow pe_int pe_int)))
      (pss_cons (ps_if (pt_cmpR op_eq (pv 0) pe_str (nomark _)) (pss_one (ps_ret (pe_tup (pa_cons (pv 2) (pa_cons (pv 2) pa_nil))))) (pss_nil))
      (pss_cons (ps_if (pt_cmpR op_eq (pv 0) pe_str (nomark _)) (pss_one (ps_ret (pe_tup (pa_cons (pe_tup (pa_cons (pv 2) (pa_cons (pe_callB call_len_seq (by rfl) m_len PySem.boot_len (pa_cons (pv 1) pa_nil)) pa_nil))) (pa_cons (pe_op op_fdivA (pv 2) (pe_callB call_len_seq (by rfl) m_len PySem.boot_len (pa_cons (pv 1) pa_nil))) pa_nil))))) (pss_nil))
      (pss_cons (ps_if (pt_cmpR op_eq (pv 0) pe_str (nomark _)) (pss_cons (ps_set (i := 4) nd rfl (.inl rfl) (pe_callTy call_tuple_of (by rfl) m_tuple PyProof.Rows.boot_tuple (pa_cons (pe_callB (Yk.cr_sortedK rfl) (by rfl) m_sorted boot_sorted (pa_cons (pe_callTy (Yk.cr_setK rfl) (by rfl) m_set PyProof.Rows.boot_set (pa_cons (pv 1) pa_nil)) pa_nil)) pa_nil)))
      (pss_one (ps_ret (pe_tup (pa_cons (pv 4) (pa_cons (pe_callB call_len_seq (by rfl) m_len PySem.boot_len (pa_cons (pv 4) pa_nil)) pa_nil)))))) (pss_nil))
      (pss_cons (ps_set (i := 5) nd rfl (.inl rfl) (pe_ix ix_list (pe_callB (cr_sorted.or cr_sortedS) (by rfl) m_sorted boot_sorted (pa_cons (pv 1) pa_nil)) (pe_ifExp (pt_cmpR op_eq (pv 0) pe_str (nomark _)) pe_int (pe_un un_neg pe_int)) (fun _ _ => rfl)))
      (pss_one (ps_ret (pe_tup (pa_cons (pe_tup (pa_cons (pv 5) pa_nil)) (pa_cons (pv 5) pa_nil)))))))))), ?_⟩
  have l64 : In64 (b.length : Int) := by
    unfold In64
    omega
  refine ⟨_, rfl, rfl, _, rfl, ite2 (fun e => ?_) (fun e => ?_)⟩
  · have e' := of_decide_eq_true e
    refine ⟨_, rfl, a, _, rfl, .inl hL, _, rfl, a, _, rfl, .inl hL, z2, fun p np => ?_⟩
    have ea : wrap (amt kind b) = (b.length : Int) := by
      unfold amt
      rw [if_pos e', wrap_id l64]
    refine q p (.int (b.length : Int)) _ (same_upd np) ?_ ?_
    · rw [st_num (.inl e'), ea]
      rfl
    · refine SqT.of ?_
      rw [upd_same]
      unfold toldV
      rw [if_pos (cs_in (.inl e')), ea, List.length_map]
  have e1 : V.str kind ≠ .str "count" := fun z => e (decide_eq_true z)
  -- total
  let cs := kind ∈ (["sum", "mean"] : List Str)
  refine ⟨_, rfl, a, rfl, ⟨_, hL⟩, fun D hD => lc_list (K := K) (xs := b.map kV) (fun i H' => Same H H' ∧ H' D = some (.lst (if kind ∈ (["sum", "mean"] : List Str) then (b.map kV).take i else []))) ⟨same_upd hD, by rw [upd_same]; split <;> rfl⟩ (fun i H' _ h => Same.sqL h.1 hL) ?_ ?_⟩
  · rintro i x H' hx ⟨sm, eD⟩
    refine ⟨rfl, _, rfl, z2, fun p np => ?_⟩
    have s1 := same_upd (o := .tup [.str "sum", .str "mean"]) np
    refine ⟨p, _, rfl, .inr (SqT.of upd_same), rfl, rfl, _, rfl, in_strs (l := ["sum", "mean"]) (fun h => ?_) (fun h => ?_)⟩
    · rw [if_pos h] at eD
      have hlt := (List.getElem?_eq_some_iff.mp hx).1
      have hlen : ((b.map kV).take i).length < 64 := by
        rw [List.length_take, List.length_map]
        omega
      refine ⟨_, rfl, _, s1 _ _ eD, Nat.lt_of_lt_of_le hlen (by decide), fun c o hc => ?_, ?_⟩
      · rw [upd_ne (ne_of_none hc hD)]
        exact s1 _ _ (sm _ _ hc)
      · rw [upd_same, if_pos h]
        obtain ⟨_, ex⟩ := List.getElem?_eq_some_iff.mp hx
        rw [← ex, List.take_succ_eq_append_getElem hlt]
    · rw [if_neg h] at eD
      refine ⟨sm.trans s1, ?_⟩
      rw [if_neg h]
      exact s1 _ _ eD
  rintro H1 ⟨sm, eD⟩
  rw [List.take_length] at eD
  have ht : ∃ ns : List Int, H1 D = some (.lst (ns.map V.int)) ∧ (V.str kind = .str "sum" ∨ V.str kind = .str "mean" → ns.sum = tot b) := by
    by_cases h : kind ∈ (["sum", "mean"] : List Str)
    · rw [if_pos h] at eD
      have h' : V.str kind = .str "sum" ∨ V.str kind = .str "mean" := by
        simp only [List.mem_cons, List.not_mem_nil, or_false] at h
        rcases h with rfl | rfl
        · exact .inl rfl
        · exact .inr rfl
      obtain ⟨i1, i2⟩ := ints_map b (hi h')
      rw [i1] at eD
      exact ⟨_, eD, fun _ => i2⟩
    · rw [if_neg h] at eD
      refine ⟨[], eD, fun z => absurd ?_ h⟩
      rcases z with z | z
      · rw [str_eq z]
        exact List.mem_cons_self
      · rw [str_eq z]
        exact List.mem_cons_of_mem _ List.mem_cons_self
  obtain ⟨ns, eN, hs⟩ := ht
  refine ⟨D, ns, rfl, SqL.of eN, _, _, rfl, rfl, hp, _, _, rfl, rfl, _, _, rfl, rfl, hp4, _, _, rfl, rfl, (by show (0 : Int) < 2 ^ 64; decide), _, _, rfl, rfl, hp, _, _, rfl, rfl, ?_⟩
  show gName 2 (V.int (wrap ns.sum)) _ _ _
  refine ⟨_, rfl, rfl, _, rfl, ite2 (fun e => ?_) (fun e => ?_)⟩
  · have e' := of_decide_eq_true e
    have ea : wrap (amt kind b) = wrap ns.sum := by
      unfold amt
      rw [if_neg e1, hs (.inl e')]
    refine ⟨_, rfl, _, rfl, z2, fun p np => q p (.int (wrap ns.sum)) _ (sm.trans (same_upd np)) ?_ ?_⟩
    · rw [st_num (.inr e'), ea]
      rfl
    · refine SqT.of ?_
      rw [upd_same]
      unfold toldV
      rw [if_pos (cs_in (.inr e')), ea]
  have e2 : V.str kind ≠ .str "sum" := fun z => e (decide_eq_true z)
  have hn : kind ∉ (["count", "sum"] : List Str) := fun z => (in_cs z).elim e1 e2
  refine ⟨_, rfl, rfl, _, rfl, ite2 (fun e => ?_) (fun e => ?_)⟩
  · have e' := of_decide_eq_true e
    rw [hs (.inr e')]
    refine ⟨_, rfl, _, rfl, a, _, rfl, .inl (Same.sqL sm hL), z2, fun p np => ?_⟩
    have s2 := sm.trans (same_upd (o := .tup [.int (wrap (tot b)), .int ((b.map kV).length : Nat)]) np)
    refine ⟨_, rfl, _, rfl, a, _, rfl, .inl (Same.sqL s2 hL), ?_⟩
    rw [List.length_map] at s2 ⊢
    refine ⟨_, _, rfl, rfl, small_ok (List.length_pos_iff.mpr hb) h64, z2, fun p2 np2 => q p2 (.ref p) _ (s2.trans (same_upd np2)) ?_ ?_⟩
    · rw [st_mean hn e']
      refine ⟨p, rfl, SqT.of ?_⟩
      rw [upd_ne (ne_of_none upd_same np2)]
      exact upd_same
    · refine SqT.of ?_
      rw [upd_same]
      unfold toldV
      rw [if_neg hn, if_pos e']
  have e3 : V.str kind ≠ .str "mean" := fun z => e (decide_eq_true z)
  have h1 : SqL K H1 a (b.map kV) := Same.sqL sm hL
  refine ⟨_, rfl, rfl, _, rfl, ite2 (fun e => ?_) (fun e => ?_)⟩
  · have e' := of_decide_eq_true e
    have es : sel kind (sd b) = sd b := by
      unfold sel
      rw [str_eq e', if_neg (by decide +kernel), if_neg (by decide +kernel)]
    refine ⟨_, rfl, ?_⟩
    dsimp only [tNil]
    refine set_sorted (.inl h1) hom h64 fun p3 H3 s3 t3 => ?_
    refine ⟨p3, _, rfl, .inl ⟨SqL.of t3, fun p4 np4 => ?_⟩⟩
    refine ⟨_, rfl, _, rfl, p4, _, rfl, .inr (SqT.of upd_same), z2, fun p5 np5 => ?_⟩
    have s4 := s3.trans (same_upd (o := .tup ((sd b).map kV)) np4)
    refine q p5 (.ref p4) _ (sm.trans (s4.trans (same_upd np5))) ?_ ?_
    · rw [st_ks hn e3, es]
      refine ⟨p4, rfl, SqT.of ?_⟩
      rw [upd_ne (ne_of_none upd_same np5)]
      exact upd_same
    · refine SqT.of ?_
      rw [upd_same]
      unfold toldV
      rw [if_neg hn, if_neg e3, if_pos e', es, List.length_map]
  have e4 : V.str kind ≠ .str "unlike" := fun z => e (decide_eq_true z)
  refine ⟨_, rfl, ?_⟩
  refine sorted_any h1 hom h64 fun p3 H3 ys s3 pm ng t3 => ?_
  have fin : ∀ k : L2.Key, sel kind (sd b) = [k] → ∀ p4 H4, Same H3 H4 → H4 p4 = none → ∀ p5, (upd H4 p4 (.tup [kV k])) p5 = none → Q (.ref p5) (upd (upd H4 p4 (.tup [kV k])) p5 (.tup [.ref p4, kV k])) := fun k ek p4 H4 s4 np4 p5 np5 => by
    refine q p5 (.ref p4) _ (sm.trans (s3.trans (s4.trans ((same_upd np4).trans (same_upd np5))))) ?_ ?_
    · rw [st_ks hn e3, ek]
      refine ⟨p4, rfl, SqT.of ?_⟩
      rw [upd_ne (ne_of_none upd_same np5)]
      exact upd_same
    · refine SqT.of ?_
      rw [upd_same]
      unfold toldV
      rw [if_neg hn, if_neg e3, if_neg e4, ek]
      rfl
  refine ⟨_, rfl, rfl, _, rfl, ite2 (fun e => ?_) (fun e => ?_)⟩
  · have e' := of_decide_eq_true e
    obtain ⟨k, hk, ek⟩ := notGt_first pm ng hb
    have hat : atI (ys.map kV) 0 = some (kV k) := atI_nat (j := 0) (by rw [List.getElem?_map, hk] <;> rfl)
    refine ⟨p3, _, 0, _, rfl, rfl, SqL.of t3, hat, ?_⟩
    refine ⟨_, rfl, z1, fun p4 np4 => ⟨_, rfl, z2, fun p5 np5 => fin k ?_ p4 _ (Same.refl _) np4 p5 np5⟩⟩
    unfold sel
    rw [if_pos e', ek]
  · have e5 : V.str kind ≠ .str "least" := fun z => e (decide_eq_true z)
    have e6 := six_last h6 e1 e2 e3 e4 e5
    obtain ⟨k, hk, ek⟩ := last_is pm ng hb
    have hat : atI (ys.map kV) (-1) = some (kV k) := atI_last (by rw [List.length_map, List.getElem?_map, hk] <;> rfl)
    refine ⟨_, rfl, p3, _, -1, _, rfl, rfl, SqL.of t3, hat, ?_⟩
    refine ⟨_, rfl, z1, fun p4 np4 => ⟨_, rfl, z2, fun p5 np5 => fin k ?_ p4 _ (Same.refl _) np4 p5 np5⟩⟩
    unfold sel
    rw [if_neg e5, if_pos e6, ek]
end
end Kx

namespace Kx
open PySem PySem.Spec PyProof.Rows L2
abbrev sGroup : Stmt := topS 15
/-- values that are the states of bags -/
def Bags (K : PySem.W.Frag) (H : Hp) (kind : Str) (xs : List V) (bs : List (List L2.Key)) : Prop := xs.length = bs.length ∧ ∀ (i : Nat) (x : V) (b : List L2.Key), xs[i]? = some x → bs[i]? = some b → StAt K H x (stOf kind b)
section
variable {P : Program} {w : World} {K : PySem.W.Frag} {mg : Str → Option Value} {base : Heap}
theorem Bags.but {H H' : Hp} {kind : Str} {xs : List V} {bs : List (List L2.Key)} {d : Addr} (B : Bags K H kind xs bs) (h : But d H H') (hd : ∃ l, H d = some (.lst l)) : Bags K H' kind xs bs :=
  ⟨B.1, fun i x b h1 h2 => StAt.but h hd (B.2 i x b h1 h2)⟩
theorem Bags.same {H H' : Hp} {kind : Str} {xs : List V} {bs : List (List L2.Key)} (B : Bags K H kind xs bs) (h : Same H H') : Bags K H' kind xs bs := ⟨B.1, fun i x b h1 h2 => StAt.same h (B.2 i x b h1 h2)⟩
theorem Bags.erase {H : Hp} {kind : Str} {xs : List V} {bs : List (List L2.Key)} (B : Bags K H kind xs bs) (k : Nat) : Bags K H kind (xs.eraseIdx k) (bs.eraseIdx k) := by
  refine ⟨by rw [List.length_eraseIdx, List.length_eraseIdx, B.1], fun i x b h1 h2 => ?_⟩
  rw [List.getElem?_eraseIdx] at h1 h2
  by_cases c : i < k
  · rw [if_pos c] at h1 h2
    exact B.2 i x b h1 h2
  · rw [if_neg c] at h1 h2
    exact B.2 _ x b h1 h2
theorem Bags.push {H : Hp} {kind : Str} {xs : List V} {bs : List (List L2.Key)} (B : Bags K H kind xs bs) {v : V} {c : List L2.Key} (hv : StAt K H v (stOf kind c)) : Bags K H kind (xs ++ [v]) (bs ++ [c]) := by
  refine ⟨by rw [List.length_append, List.length_append, B.1]; rfl, fun i x b h1 h2 => ?_⟩
  by_cases q : i < xs.length
  · rw [List.getElem?_append_left q] at h1
    rw [List.getElem?_append_left (by rw [← B.1]; exact q)] at h2
    exact B.2 i x b h1 h2
  · rw [List.getElem?_append_right (by omega)] at h1
    rw [List.getElem?_append_right (by rw [← B.1]; omega), ← B.1] at h2
    cases e : i - xs.length with
    | zero =>
      rw [e] at h1 h2
      cases h1
      cases h2
      exact hv
    | succ j =>
      rw [e] at h1
      cases h1
theorem flat_erase : ∀ {bs : List (List L2.Key)} {k : Nat} {b : List L2.Key}, bs[k]? = some b → (b ++ (bs.eraseIdx k).flatten).Perm bs.flatten
  | [], k, b, h => by cases h
  | x :: r, 0, b, h => by
    cases h
    exact List.Perm.refl _
  | x :: r, k + 1, b, h => by
    have ih := flat_erase (bs := r) (k := k) (b := b) h
    show (b ++ (x ++ (r.eraseIdx k).flatten)).Perm (x ++ r.flatten)
    exact (List.perm_append_comm_assoc b x _).trans (ih.append_left x)
def lenAt (l : Addr) (H : Hp) : Nat := match H l with
  | some (.lst xs) => xs.length
  | _ => 0
theorem lenAt_of {l : Addr} {H : Hp} {xs : List V} (h : H l = some (.lst xs)) : lenAt l H = xs.length := by
  unfold lenAt
  rw [h]
/-- where the grouping stands -/
structure GrpSt (K : PySem.W.Frag) (H0 H : Hp) (d s l : Addr) (ns : List Int) (n : Int) (kind : Str) (all : List L2.Key) (xs : List V) (bs : List (List L2.Key)) : Prop where
  dr : DrawAt H d s ns n
  b : But d H0 H
  at_l : H l = some (.lst xs)
  bags : Bags K H kind xs bs
  perm : bs.flatten.Perm all
  fresh : H0 l = none
  ne : l ≠ d
  nes : l ≠ s
theorem GrpSt.step {H0 H H' : Hp} {d s l : Addr} {ns : List Int} {n n' : Int} {kind : Str} {all : List L2.Key} {xs : List V} {bs : List (List L2.Key)} (S : GrpSt K H0 H d s l ns n kind all xs bs) (b : But d H H') (D : DrawAt H' d s ns n') :
    GrpSt K H0 H' d s l ns n' kind all xs bs := ⟨D, S.b.trans b, b _ _ S.ne S.at_l, S.bags.but b ⟨_, S.dr.at_d⟩, S.perm, S.fresh, S.ne, S.nes⟩
theorem but_upd {H : Hp} {l : Addr} {o : HO} : But l H (upd H l o) := fun c o' hc e => by
  rw [upd_ne hc]
  exact e
/-- the list is another one now -/
theorem GrpSt.set {H0 H : Hp} {d s l : Addr} {ns : List Int} {n : Int} {kind : Str} {all al2 : List L2.Key} {xs ys : List V} {bs cs : List (List L2.Key)} (S : GrpSt K H0 H d s l ns n kind all xs bs) (B : Bags K H kind ys cs) (hp : cs.flatten.Perm al2) :
    GrpSt K H0 (upd H l (.lst ys)) d s l ns n kind al2 ys cs :=
  ⟨⟨by rw [upd_ne S.ne.symm]; exact S.dr.at_d, by rw [upd_ne S.nes.symm]; exact S.dr.at_s, S.dr.n0⟩,
    fun c o hc e => by
      rw [upd_ne (ne_of_none e S.fresh)]
      exact S.b _ _ hc e, upd_same, B.but but_upd ⟨_, S.at_l⟩, hp, S.fresh, S.ne, S.nes⟩
def spGroup (K : PySem.W.Frag) : Sp := fun vs H Q _ => ∃ (d s a : Addr) (ns : List Int) (n : Int) (kind : Str) (xs : List V) (bs : List (List L2.Key)), vs = [.ref d, .str kind, .ref a] ∧ DrawAt H d s ns n ∧ SqL K H a xs ∧ Bags K H kind xs bs ∧ bs ≠ [] ∧ Hom bs.flatten ∧ bs.flatten.length < 64 ∧ bs.length < 64 ∧
  ∀ v n' H', But d H H' → DrawAt H' d s ns n' → StAt K H' v (stOf kind bs.flatten) → Q v H'
abbrev N_group : List Str := ["draw", "kind", "states", "left", "one", "other"]
theorem sc_group : FnScope N_group ["draw", "kind", "states"] (defScope sGroup) := ⟨rfl, rfl, rfl, by decide +kernel, rfl, by decide +kernel, by decide +kernel⟩
theorem pick_ix {xs : List V} {bs : List (List L2.Key)} (e : xs.length = bs.length) {r : Int} (r0 : 0 ≤ r) (r1 : r < (xs.length : Int)) (h64 : bs.length < 64) : ∃ y b, -(2 ^ 63) ≤ r ∧ r < 2 ^ 63 ∧ seqIndex? r xs.length = some r.toNat ∧ xs[r.toNat]? = some y ∧ bs[r.toNat]? = some b := by
  have hk : r.toNat < xs.length := by omega
  refine ⟨xs[r.toNat], bs[r.toNat]'(by omega), by omega, by omega, seqIndex_of r0 r1, List.getElem?_eq_getElem hk, List.getElem?_eq_getElem (by omega)⟩
set_option maxHeartbeats 16000000 in
theorem ok_group {f : Addr} {fd : FuncData} (F : Fun K "_law_grouped" "_law_grouped" sGroup f fd) (m_len : mg "len" = none) (m_list : mg "list" = none) (G_law_next : Ready P w K mg base 3 "_law_next" ["draw", "bound"] spNext) (G_put_together : Ready P w K mg base 2 "put_together" ["kind", "one", "other"] (spPut K)) :
    FnOk P w K mg base CX0 4 f fd ["draw", "kind", "states"] (spGroup K) := by
  refine F.ok sc_group (fun vs H Q E h => ?_) (fun cdv A outer s0 H vs Q E hr h => ?_)
  · obtain ⟨d, s, a, ns, n, kind, xs, bs, rfl, _⟩ := h
    rfl
  obtain ⟨d, s, a, ns, n, kind, xs, bs, rfl, D, hL, hB, hne, hom, h64, hb64, q⟩ := h
  have nd := sc_group.nd
  refine ⟨_, pss_cons (ps_set (i := 3) nd rfl (.inl rfl) (pe_callTy call_list_of (by rfl) m_list PyProof.Rows.boot_list (pa_cons (pv 2) pa_nil)))
      (pss_cons (ps_while PassesOwn.never (pt_cmpR op_gt (pe_callB call_len_seq (by rfl) m_len PySem.boot_len (pa_cons (pv 3) pa_nil)) pe_int (nomark _)) (pss_cons (ps_set (i := 4) nd rfl (.inl rfl) (pe_bm PySem.F.plainAttrs_list PySem.F.slot_list_pop PySem.F.type_list_pop mt_popAt (pv 3) (pa_cons (pe_fn (G_law_next) (hr.mono (by decide)) (pa_cons (pv 0) (pa_cons (pe_callB call_len_seq (by rfl) m_len PySem.boot_len (pa_cons (pv 3) pa_nil)) pa_nil))) pa_nil)))
      (pss_cons (ps_set (i := 5) nd rfl (.inl rfl) (pe_bm PySem.F.plainAttrs_list PySem.F.slot_list_pop PySem.F.type_list_pop mt_popAt (pv 3) (pa_cons (pe_fn (G_law_next) (hr.mono (by decide)) (pa_cons (pv 0) (pa_cons (pe_callB call_len_seq (by rfl) m_len PySem.boot_len (pa_cons (pv 3) pa_nil)) pa_nil))) pa_nil)))
      (pss_one (ps_expr (pe_bm PySem.F.plainAttrs_list PySem.F.slot_list_append PySem.F.type_list_append mt_append (pv 3) (pa_cons (pe_fn (G_put_together) (hr.mono (by decide)) (pa_cons (pv 1) (pa_cons (pv 4) (pa_cons (pv 5) pa_nil)))) pa_nil)))))))
      (pss_one (ps_ret (pe_ix ix_list (pv 3) pe_int (fun _ _ => rfl))))), ?_⟩
  refine ⟨_, rfl, a, xs, rfl, .inl hL, fun l hl => ?_⟩
  have s1 := same_upd (o := .lst xs) hl
  have S0 : GrpSt K H (upd H l (.lst xs)) d s l ns n kind bs.flatten xs bs := ⟨D.keep s1, same_but s1, upd_same, hB.same s1, List.Perm.refl _, hl, (ne_of_none D.at_d hl).symm, (ne_of_none D.at_s hl).symm⟩
  refine while_by (fun σ H' => ∃ n' y4 y5 xs' bs', σ = [some (.ref d), some (.str kind), some (.ref a), some (.ref l), y4, y5] ∧ GrpSt K H H' d s l ns n' kind bs.flatten xs' bs' ∧ bs' ≠ [] ∧ bs'.length < 64) (fun _ H' => lenAt l H')
    ⟨n, none, none, xs, bs, rfl, S0, hne, hb64⟩ ?_ ?_
  · rintro σ H' ⟨n', y4, y5, xs', bs', rfl, S, hne', h64'⟩
    refine ⟨_, rfl, l, _, rfl, .inl (SqL.of S.at_l), _, _, rfl, rfl, _, rfl, ?_⟩
    have e1 := S.bags.1
    by_cases c : (1 : Int) < (xs'.length : Int)
    · refine ite2 (fun _ => ?_) (fun z => absurd (decide_eq_true c) z)
      refine ⟨_, rfl, .inl ⟨rfl, _, SqL.of S.at_l⟩, _, rfl, _, rfl, l, _, rfl, .inl (SqL.of S.at_l), d, s, ns, _, _, rfl, S.dr, by omega, fun r H2 r0 r1 b2 D2 => ?_⟩
      have S2 := S.step b2 D2
      obtain ⟨y1, c1, x1, x2, x3, x4, x5⟩ := pick_ix e1 r0 r1 h64'
      refine ⟨l, _, r, r.toNat, y1, rfl, rfl, S2.at_l, x1, x2, x3, x4, ?_⟩
      have S3 := S2.set (S2.bags.erase r.toNat) (List.Perm.refl _)
      have t1 := StAt.but (but_upd (o := .lst (xs'.eraseIdx r.toNat))) ⟨_, S2.at_l⟩ (S2.bags.2 _ _ _ x4 x5)
      have p1 := flat_erase x5
      generalize upd H2 l (.lst (xs'.eraseIdx r.toNat)) = H3 at S3 t1 ⊢
      have l1 : (xs'.eraseIdx r.toNat).length = xs'.length - 1 := List.length_eraseIdx_of_lt (by omega)
      generalize xs'.eraseIdx r.toNat = xs2 at S3 l1
      generalize bs'.eraseIdx r.toNat = bs2 at S3 p1
      have e2 := S3.bags.1
      refine ⟨_, rfl, .inl ⟨rfl, _, SqL.of S3.at_l⟩, _, rfl, _, rfl, l, _, rfl, .inl (SqL.of S3.at_l), d, s, ns, _, _, rfl, S3.dr, by omega, fun r2 H4 r20 r21 b4 D4 => ?_⟩
      have S4 := S3.step b4 D4
      obtain ⟨y2, c2, z1, z2', z3, z4, z5⟩ := pick_ix e2 r20 r21 (by omega)
      refine ⟨l, _, r2, r2.toNat, y2, rfl, rfl, S4.at_l, z1, z2', z3, z4, ?_⟩
      have S5 := S4.set (S4.bags.erase r2.toNat) (List.Perm.refl _)
      have t2 := StAt.but (but_upd (o := .lst (xs2.eraseIdx r2.toNat))) ⟨_, S4.at_l⟩ (S4.bags.2 _ _ _ z4 z5)
      have t3 := StAt.but (but_upd (o := .lst (xs2.eraseIdx r2.toNat))) ⟨_, S4.at_l⟩ (StAt.but b4 ⟨_, S3.dr.at_d⟩ t1)
      have p2 := flat_erase z5
      generalize upd H4 l (.lst (xs2.eraseIdx r2.toNat)) = H5 at S5 t2 t3 ⊢
      have l2 : (xs2.eraseIdx r2.toNat).length = xs2.length - 1 := List.length_eraseIdx_of_lt (by omega)
      generalize xs2.eraseIdx r2.toNat = xs3 at S5 l2
      generalize bs2.eraseIdx r2.toNat = bs3 at S5 p2
      have pa : (c1 ++ (c2 ++ bs3.flatten)).Perm bs.flatten := ((p2.append_left c1).trans p1).trans S.perm
      have pl := pa.length_eq
      rw [List.length_append, List.length_append] at pl
      refine ⟨_, rfl, .inl ⟨rfl, _, SqL.of S5.at_l⟩, _, rfl, _, rfl, _, rfl, kind, y1, y2, c1, c2, rfl, t3, t2, hom_sub hom fun z hz => ?_, by rw [List.length_append]; omega, fun v H6 s6 hv => ?_⟩
      · refine pa.mem_iff.mp ?_
        rcases List.mem_append.mp hz with hz | hz
        · exact List.mem_append_left _ hz
        · exact List.mem_append_right _ (List.mem_append_left _ hz)
      have S6 := S5.step (same_but s6) (S5.dr.keep s6)
      refine ⟨l, _, v, rfl, rfl, S6.at_l, Nat.lt_of_lt_of_le (show xs3.length < 64 by omega) (by decide), ?_⟩
      have S7 := S6.set (al2 := bs.flatten) (S6.bags.push hv) (by
        rw [List.flatten_append]
        show (bs3.flatten ++ ((c1 ++ c2) ++ [])).Perm _
        rw [List.append_nil]
        refine List.perm_append_comm.trans ?_
        rw [List.append_assoc]
        exact pa)
      have e3 := S6.bags.1
      refine ⟨⟨_, _, _, _, _, rfl, S7, by simp, by rw [List.length_append]; show bs3.length + 1 < 64; omega⟩, ?_⟩
      rw [lenAt_of S7.at_l, lenAt_of S.at_l, List.length_append]
      show xs3.length + 1 < xs'.length
      omega
    · refine ite2 (fun z => absurd (of_decide_eq_true z) c) (fun _ => ?_)
      match bs', hne', e1, S with
      | [b], _, e1, S =>
        match xs', e1, S with
        | [x], _, S =>
          refine ⟨_, rfl, l, _, 0, _, rfl, rfl, SqL.of S.at_l, at0, q _ _ _ S.b S.dr ?_⟩
          have hp := S.perm
          rw [show ([b] : List (List L2.Key)).flatten = b ++ [] from rfl, List.append_nil] at hp
          rw [← stOf_perm hp]
          exact S.bags.2 0 x b rfl rfl
      | b :: b2 :: r, _, e1, S =>
        rw [e1, List.length_cons, List.length_cons] at c
        omega
  · rintro σ H' Q1 Q2 hq ⟨v, e, p, ys, e2, hS, i, j, e3, e4, k, e5, h⟩
    exact ⟨v, e, p, ys, e2, hS, i, j, e3, e4, k, e5, hq _ _ h⟩
end
end Kx

namespace Kx
open PySem PySem.Spec PyProof.Rows L2
abbrev sLaw : Stmt := topS 17
def FitV (sort : Str) (z : L2.Key) : Prop := (V.str sort = .str "text" ∧ ∃ x ∈ texts5, z = .inr x) ∨ (V.str sort ≠ .str "text" ∧ ∃ i, z = .inl i ∧ In64 i)
theorem fit_hom {sort : Str} {b : List L2.Key} (h : ∀ z ∈ b, FitV sort z) : Hom b := by
  by_cases c : V.str sort = .str "text"
  · refine .inr ⟨b.map fun k => match k with | Sum.inl _ => Str.empty | Sum.inr n => n, ?_⟩
    rw [List.map_map]
    conv => lhs; rw [← List.map_id b]
    refine List.map_congr_left fun k hk => ?_
    rcases h k hk with ⟨_, x, _, rfl⟩ | ⟨e, _⟩
    · rfl
    · exact absurd c e
  · refine .inl ⟨b.map toI, ?_⟩
    rw [List.map_map]
    conv => lhs; rw [← List.map_id b]
    refine List.map_congr_left fun k hk => ?_
    rcases h k hk with ⟨e, _⟩ | ⟨_, i, rfl, _⟩
    · exact absurd e c
    · rfl
theorem fit_ints {sort : Str} {b : List L2.Key} (h : ∀ z ∈ b, FitV sort z) (c : V.str sort ≠ .str "text") : ∃ ns : List Int, b = ns.map Sum.inl := by
  refine ⟨b.map toI, ?_⟩
  rw [List.map_map]
  conv => lhs; rw [← List.map_id b]
  refine List.map_congr_left fun k hk => ?_
  rcases h k hk with ⟨e, _⟩ | ⟨_, i, rfl, _⟩
  · exact absurd e c
  · rfl
theorem told_scal (kind : Str) (b : List L2.Key) (h : b ≠ []) : scal (toldV kind b) (toldV kind b) = true := by
  unfold toldV
  split
  · rfl
  split
  · rfl
  split
  · rfl
  · obtain ⟨k, l, e⟩ := sel_ne (kind := kind) h
    rw [e]
    cases k <;> rfl
theorem Bags.app {K : PySem.W.Frag} {H : Hp} {kind : Str} {xs ys : List V} {bs cs : List (List L2.Key)} (B : Bags K H kind xs bs) (C : Bags K H kind ys cs) : Bags K H kind (xs ++ ys) (bs ++ cs) := by
  refine ⟨by rw [List.length_append, List.length_append, B.1, C.1], fun i x b h1 h2 => ?_⟩
  by_cases q : i < xs.length
  · rw [List.getElem?_append_left q] at h1
    rw [List.getElem?_append_left (by rw [← B.1]; exact q)] at h2
    exact B.2 i x b h1 h2
  · rw [List.getElem?_append_right (by omega)] at h1
    rw [List.getElem?_append_right (by rw [← B.1]; omega), ← B.1] at h2
    exact C.2 _ x b h1 h2
theorem flat_one (b : List L2.Key) : (b.map fun k => [k]).flatten = b := by
  induction b with
  | nil => rfl
  | cons x r ih =>
    show [x] ++ (r.map fun k => [k]).flatten = x :: r
    rw [ih]
    rfl
theorem flat_rep (n : Nat) : (List.replicate n ([] : List L2.Key)).flatten = [] := by
  induction n with
  | zero => rfl
  | succ n ih =>
    rw [List.replicate_succ]
    exact ih
/-! ### states as data, for == -/
def kD : L2.Key → PyData
  | .inl i => .int i
  | .inr x => .str x
def dat : Stt → PyData
  | .n i => .int i
  | .m s c => .tuple [.int s, .int c]
  | .ks l => .tuple (l.map kD)
theorem dp_keys {K : PySem.W.Frag} {H : Hp} : ∀ l : List L2.Key, DpAll K H (l.map kV) (l.map kD)
  | [] => .nil
  | .inl i :: r => .cons (.int i) (dp_keys r)
  | .inr x :: r => .cons (.str x) (dp_keys r)
theorem st_dp {K : PySem.W.Frag} {H : Hp} : ∀ {v : V} {t : Stt}, StAt K H v t → Dp K H v (dat t)
  | _, .n i, rfl => .int i
  | _, .m s c, ⟨a, rfl, h⟩ => .tup h (.cons (.int s) (.cons (.int c) .nil))
  | _, .ks l, ⟨a, rfl, h⟩ => .tup h (dp_keys l)
def OkB (b : List L2.Key) : Prop := ∀ z ∈ b, ∀ x, z = Sum.inr x → x ∈ texts5
theorem texts_ok : ∀ x ∈ texts5, PyData.canLay0 (.str x) = true := by decide +kernel
theorem lay_keys : ∀ l : List L2.Key, OkB l → PyData.canLayAll0 (l.map kD) = true
  | [], _ => rfl
  | k :: r, h => by
    have ih := lay_keys r fun z hz => h z (List.mem_cons_of_mem _ hz)
    have h1 : PyData.canLay0 (kD k) = true := by
      cases k with
      | inl i => rfl
      | inr x => exact texts_ok x (h _ List.mem_cons_self x rfl)
    show (PyData.canLay0 (kD k) && PyData.canLayAll0 (r.map kD)) = true
    rw [h1, ih]
    rfl
theorem dep_keys : ∀ l : List L2.Key, PyData.depthAll (l.map kD) = 0
  | [] => rfl
  | k :: r => by
    show max (PyData.depth (kD k)) (PyData.depthAll (r.map kD)) = 0
    rw [dep_keys r]
    cases k <;> rfl
theorem st_shaped {kind : Str} {b : List L2.Key} (h : OkB b) : SeqAt.shaped (dat (stOf kind b)) = true := by
  unfold stOf
  split
  · rfl
  split
  · rfl
  · have h1 := lay_keys (sel kind (sd b)) fun z hz => h z (sel_sd_sub hz)
    show (PyData.canLayAll0 ((sel kind (sd b)).map kD) && decide (PyData.depthAll ((sel kind (sd b)).map kD) + 1 ≤ 64)) = true
    rw [h1, dep_keys]
    rfl
theorem st_refl {kind : Str} {b : List L2.Key} (h : OkB b) : PyData.eqv (dat (stOf kind b)) (dat (stOf kind b)) = true := SeqAt.eqv_refl _ (SeqAt.canLay_of_shaped (st_shaped h))
theorem cut_map (xs : List Int) (lo hi : Option Int) : ∃ ys : List Int, cutV (xs.map V.int) lo hi = ys.map V.int := by
  unfold cutV
  rw [← List.map_drop, ← List.map_take]
  exact ⟨_, rfl⟩
theorem mem_strs {v : V} {l : List Str} (h : v ∈ l.map V.str) : ∃ z, z ∈ l ∧ v = .str z := by
  obtain ⟨z, hz, e⟩ := List.mem_map.mp h
  exact ⟨z, hz, e.symm⟩
theorem iteNB {c : Bool} {A B : Prop} (h : c = true) (q : B) : if (!c) = true then A else B := by
  rw [h]
  exact q
def three : List Str := ["least", "greatest", "unlike"]
theorem three_no : ∀ x ∈ three, V.str x ≠ .str "sum" ∧ V.str x ≠ .str "mean" := by decide +kernel
def spLaw (K : PySem.W.Frag) : Sp := fun vs H Q _ => ∃ (a : Addr) (xs : List Int), vs = [.ref a] ∧ SqL K H a (xs.map V.int) ∧ ∀ H', Q (.bl true) H'
section
variable {P : Program} {w : World} {K : PySem.W.Frag} {mg : Str → Option Value} {base : Heap}
abbrev N_law : List Str := ["script", "draw", "turn", "kind", "sort", "values", "by", "states", "value", "due", "told", "more"]
theorem sc_law : FnScope N_law ["script"] (defScope sLaw) := ⟨rfl, rfl, rfl, by decide +kernel, rfl, by decide +kernel, by decide +kernel⟩
theorem sort_rule {σ : L2.St} {H : Hp} {D : Ends} {d s : Addr} {ns : List Int} {n : Int} {kind : Str} (h1 : σ[1]? = some (some (.ref d))) (h3 : σ[3]? = some (some (.str kind))) (Dr : DrawAt H d s ns n)
    (q : ∀ sort n' H', But d H H' → DrawAt H' d s ns n' → (V.str sort = .str "text" → kind ∈ three) → gName 4 (.str sort) σ H' D.nx) :
    tAsg (tIf (tAnd (tTest (tOp (rIn K false) (tVar 3) (tTup (tCons (tC (V.str "least")) (tCons (tC (V.str "greatest")) (tCons (tC (V.str "unlike")) tNil)))))) (tTest (tOp rEq (tCall spNext [] E0 (tCons (tVar 1) (tCons (tC (V.int 2)) tNil))) (tC (V.int 0))))) (tC (V.str "text")) (tC (V.str "int"))) (gName 4) D σ H := by
  refine ⟨_, h3, (by show 3 ≤ sizeLine; decide), fun p hp => ?_⟩
  have s1 := same_upd (o := .tup (three.map V.str)) hp
  refine ⟨p, _, rfl, .inr (SqT.of upd_same), rfl, rfl, _, rfl, in_strs (l := three) (fun h => ?_) (fun h => ?_)⟩
  · refine ⟨_, h1, d, s, ns, n, 2, rfl, Dr.keep s1, (by show (0 : Int) < 2; decide), fun r H2 r0 r1 b2 D2 => ⟨rfl, _, rfl, ?_⟩⟩
    have b := (same_but s1).trans b2
    exact ite2 (fun _ => q _ _ _ b D2 fun _ => h) (fun _ => q _ _ _ b D2 fun _ => h)
  · exact q _ _ _ (same_but s1) (Dr.keep s1) fun e => absurd e (by decide +kernel)
set_option maxHeartbeats 16000000 in
theorem ok_law {f : Addr} {fd : FuncData} (F : Fun K "law" "law" sLaw f fd) (m_range : mg "range" = none) (G_law_next : Ready P w K mg base 3 "_law_next" ["draw", "bound"] spNext) (G_law_pick : Ready P w K mg base 4 "_law_pick" ["draw", "things"] (spPick K)) (G_law_value : Ready P w K mg base 5 "_law_value" ["draw", "kind"] spValue)
    (G_one_state : Ready P w K mg base 1 "one_state" ["kind", "value"] (spOne K)) (G_no_state : Ready P w K mg base 1 "no_state" ["kind"] (spNo K)) (G_put_together : Ready P w K mg base 2 "put_together" ["kind", "one", "other"] (spPut K)) (G_state_told : Ready P w K mg base 1 "state_told" ["kind", "state"] (spTold K))
    (G_law_due : Ready P w K mg base 1 "_law_due" ["kind", "values"] (spDue K)) (G_law_grouped : Ready P w K mg base 4 "_law_grouped" ["draw", "kind", "states"] (spGroup K)) :
    FnOk P w K mg base CX0 6 f fd ["script"] (spLaw K) := by
  refine F.ok sc_law (fun vs H Q E h => ?_) (fun cdv A outer s0 H vs Q E hr h => ?_)
  · obtain ⟨a, xs, rfl, _⟩ := h
    rfl
  obtain ⟨a, xs, rfl, hS, q⟩ := h
  have nd := sc_law.nd
  have hu64 : _ + 64 < cLine := hr.units
  have hr5 : Room 5 _ := hr.mono (by decide)
  have hr4 : Room 4 _ := hr.mono (by decide)
  have hr3 : Room 3 _ := hr.mono (by decide)
  have hr2 : Room 2 _ := hr.mono (by decide)
  have hr1 : Room 1 _ := hr.mono (by decide)
  refine ⟨_, pss_cons (ps_set (i := 1) nd rfl (.inr rfl) (pe_lst (pa_cons (pe_slice sl_list (pv 0) po_none (po_some pe_int)) (pa_cons pe_int (pa_cons pe_int pa_nil)))))
      (pss_cons (ps_for PassesOwn.never rfl (pi_range1 rfl m_range (pa_cons pe_int pa_nil)) (pg_name (i := 2) nd rfl (.inl rfl)) (pss_cons (ps_set (i := 3) nd rfl (.inr rfl) (pe_fn (G_law_pick) hr4 (pa_cons (pv 1) (pa_cons (pe_tup (pa_cons pe_str (pa_cons pe_str (pa_cons pe_str (pa_cons pe_str (pa_cons pe_str (pa_cons pe_str pa_nil))))))) pa_nil))))
      (pss_cons (ps_set (i := 4) nd rfl (.inr rfl) (pe_ifExp (PW.pt (pw_and (pt_cmpR op_in_seq (pv 3) (pe_tup (pa_cons pe_str (pa_cons pe_str (pa_cons pe_str pa_nil)))) rfl) (pw_and1 (pt_cmpR op_eq (pe_fn (G_law_next) hr3 (pa_cons (pv 1) (pa_cons pe_int pa_nil))) pe_int (nomark _))))) pe_str pe_str))
      (pss_cons (ps_setLc (i := 5) (own := [("by", 6)]) (g := gName 6) (tt := tYes) rfl nd rfl rfl (sw_true rfl rfl rfl (by decide +kernel)) (pi_range1 rfl m_range (pa_cons (pe_op op_add pe_int (pe_fn (G_law_next) hr3 (pa_cons (pv 1) (pa_cons pe_int pa_nil)))) pa_nil)) (blkOk_by (N := N_law) (sc := defScope sLaw) (by decide +kernel)) (fun _ _ _ _ _ => pg_name (i := 6) nd rfl (Or.inl rfl)) (fun _ _ _ _ _ => pts_nil) (fun _ _ _ _ _ => (pe_fn (G_law_value) hr5 (pa_cons (pv 1) (pa_cons (pv 4) pa_nil)))))
      (pss_cons (ps_setLc (i := 7) (own := [("value", 8)]) (g := gName 8) (tt := tYes) rfl nd rfl rfl (sw_true rfl rfl rfl (by decide +kernel)) (pi_list (pv 5)) (blkOk_by (N := N_law) (sc := defScope sLaw) (by decide +kernel)) (fun _ _ _ _ _ => pg_name (i := 8) nd rfl (Or.inl rfl)) (fun _ _ _ _ _ => pts_nil) (fun _ _ _ _ _ => (pe_fn (G_one_state) hr1 (pa_cons (pv 3) (pa_cons (pe_ifExp (pt_cmpR op_eq (pv 3) pe_str (nomark _)) pe_non (pv 8)) pa_nil)))))
      (pss_cons (ps_asg (pe_fn (G_law_due) hr1 (pa_cons (pv 3) (pa_cons (pv 5) pa_nil))) (pg_tup rfl (pgs_cons (pg_name (i := 9) nd rfl (.inl rfl)) (pgs_cons (pg_name (i := 10) nd rfl (.inl rfl)) pgs_nil))))
      (pss_cons (ps_set (i := 11) nd rfl (.inl rfl) (pe_op op_cat (pv 7) (pe_lc (own := [("by", 6)]) (g := gName 6) (tt := tYes) rfl nd (pi_range1 rfl m_range (pa_cons (pe_fn (G_law_next) hr3 (pa_cons (pv 1) (pa_cons pe_int pa_nil))) pa_nil)) (blkOk_by (N := N_law) (sc := defScope sLaw) (by decide +kernel)) (fun _ _ _ _ _ => pg_name (i := 6) nd rfl (Or.inl rfl)) (fun _ _ _ _ _ => pts_nil) (fun _ _ _ _ _ => (pe_fn (G_no_state) hr1 (pa_cons (pv 3) pa_nil))))))
      (pss_cons (ps_for PassesOwn.never rfl (pi_range1 rfl m_range (pa_cons pe_int pa_nil)) (pg_name (i := 6) nd rfl (.inl rfl)) (pss_one (ps_if (pt_cmpR (op_neD hu64) (pe_fn (G_law_grouped) hr4 (pa_cons (pv 1) (pa_cons (pv 3) (pa_cons (pv 11) pa_nil)))) (pv 9) (nomark _)) (pss_one (ps_ret pe_bl)) (pss_nil))))
      (pss_one (ps_if (PW.pt (pw_or (pt_cmpR op_ne (pe_fn (G_state_told) hr1 (pa_cons (pv 3) (pa_cons (pv 9) pa_nil))) (pv 10) (nomark _)) (pw_or1 (pt_cmpR (op_neD hu64) (pe_fn (G_put_together) hr2 (pa_cons (pv 3) (pa_cons (pe_fn (G_no_state) hr1 (pa_cons (pv 3) pa_nil)) (pa_cons (pe_fn (G_no_state) hr1 (pa_cons (pv 3) pa_nil)) pa_nil)))) (pe_fn (G_no_state) hr1 (pa_cons (pv 3) pa_nil)) (nomark _))))) (pss_one (ps_ret pe_bl)) (pss_nil)))))))))))
      (pss_one (ps_ret pe_bl))), ?_⟩
  have z3 : 3 ≤ sizeLine := by decide
  obtain ⟨ns, ens⟩ := cut_map xs none (some 63)
  -- draw
  refine ⟨_, rfl, _, rfl, a, _, rfl, hS, fun s ns0 => ⟨z3, fun d nd0 => ?_⟩⟩
  rw [ens] at nd0 ⊢
  have D0 : DrawAt (upd (upd H s (.lst (ns.map V.int))) d (.lst [.ref s, .int 0, .int 0])) d s ns 0 := ⟨upd_same, by rw [upd_ne (ne_of_none upd_same nd0)]; exact upd_same, Int.le_refl 0⟩
  generalize upd (upd H s (.lst (ns.map V.int))) d (.lst [.ref s, .int 0, .int 0]) = H0 at D0 ⊢
  refine ⟨6, rfl, by decide, by decide, for_range (n := 6) (fun i σ H' => ∃ n y2 y3 y4 y5 y6 y7 y8 y9 y10 y11, σ = [some (.ref a), some (.ref d), y2, y3, y4, y5, y6, y7, y8, y9, y10, y11] ∧ DrawAt H' d s ns n)
    ⟨0, none, none, none, none, none, none, none, none, none, none, rfl, D0⟩ ?_ ?_⟩
  · rintro i σ H' hi ⟨n, y2, y3, y4, y5, y6, y7, y8, y9, y10, y11, rfl, D⟩
    -- kind
    refine ⟨_, rfl, (by show 6 ≤ sizeLine; decide), fun p hp => ?_⟩
    have s1 := same_upd (o := .tup (six.map V.str)) hp
    refine ⟨d, s, p, ns, n, six.map V.str, rfl, D.keep s1, (ne_of_none D.at_d hp).symm, .inr (SqT.of upd_same), (by intro z; cases z), fun v H1 hv b1 D1 => ?_⟩
    obtain ⟨kind, h6, rfl⟩ := mem_strs hv
    refine sort_rule (K := K) (kind := kind) rfl rfl D1 fun sort n2 H2 b2 D2 hk => ?_
    clear D D1 b1 b2 s1 hv
    -- values
    refine ⟨_, rfl, d, s, ns, _, 6, rfl, D2, (by show (0 : Int) < 6; decide), fun r H3 r0 r1 b3 D3 => ⟨_, _, rfl, rfl, _, rfl, by omega, by omega, fun D5 hD5 => ?_⟩⟩
    have n5 : D5 ≠ d := (ne_of_none D3.at_d hD5).symm
    refine lc_range (lo := 0) (n := (1 + r).toNat) (fun i H' => ∃ n' b, DrawAt H' d s ns n' ∧ H' D5 = some (.lst (b.map kV)) ∧ b.length = i ∧ ∀ z ∈ b, FitV sort z) ⟨_, [], D3.keep (same_upd hD5), upd_same, rfl, fun z hz => by cases hz⟩ ?_ ?_
    · rintro i H4 hi ⟨n', b, D', eD, el, fit⟩
      refine ⟨rfl, _, rfl, _, rfl, d, s, ns, n', sort, rfl, D', fun k n'' H5 fk b5 D'' => ?_⟩
      have n5s : D5 ≠ s := fun e => by
        rw [e, D3.at_s] at hD5
        cases hD5
      refine ⟨b.map kV, b5 _ _ n5 eD, Nat.lt_of_lt_of_le (show (b.map kV).length < 64 by rw [List.length_map]; omega) (by decide), n'', b ++ [k], ⟨by rw [upd_ne n5.symm]; exact D''.at_d, by rw [upd_ne n5s.symm]; exact D''.at_s, D''.n0⟩, ?_, by rw [List.length_append, el]; rfl, fun z hz => ?_⟩
      · rw [upd_same, List.map_append]
        rfl
      · rcases List.mem_append.mp hz with hz | hz
        · exact fit z hz
        · rw [List.mem_singleton.mp hz]
          exact fk
    rintro H4 ⟨n4, b, D4, eV, el, fit⟩
    clear D2 D3 b3
    have hb : b ≠ [] := fun e => by
      rw [e] at el
      have : (0 : Nat) = (1 + r).toNat := el
      omega
    have h64 : b.length < 64 := by omega
    have hom := fit_hom fit
    have okb : OkB b := fun z hz x e => by
      rcases fit z hz with ⟨_, y, hy, e2⟩ | ⟨_, i, e2, _⟩
      · rw [e2] at e
        cases e
        exact hy
      · rw [e2] at e
        cases e
    have okn : OkB [] := fun z hz => by cases hz
    have hsort : V.str kind = .str "sum" ∨ V.str kind = .str "mean" → V.str sort ≠ .str "text" := fun h e => (three_no kind (hk e)).1.elim (h.elim id fun h => absurd h (three_no kind (hk e)).2)
    -- states
    refine ⟨_, rfl, D5, rfl, ⟨_, SqL.of eV⟩, fun D7 hD7 => lc_list (K := K) (xs := b.map kV) (fun i H' => Same H4 H' ∧ ∃ xs, H' D7 = some (.lst xs) ∧ Bags K H' kind xs ((b.take i).map fun k => [k]))
      ⟨same_upd hD7, [], upd_same, rfl, fun i x c h => by cases h⟩ (fun i H' _ h => SqL.of (h.1 _ _ eV)) ?_ ?_⟩
    · rintro i x H5 hx ⟨sm, xs', eX, B⟩
      rw [List.getElem?_map] at hx
      obtain ⟨k, hkx, rfl⟩ := Option.map_eq_some_iff.mp hx
      obtain ⟨hlt, ek⟩ := List.getElem?_eq_some_iff.mp hkx
      have hx' : xs'.length = i := by
        rw [B.1, List.length_map, List.length_take]
        omega
      have rest : ∀ v H6, Same H5 H6 → StAt K H6 v (stOf kind [k]) → ∃ acc, H6 D7 = some (.lst acc) ∧ acc.length < sizeLine ∧ (Same H4 (upd H6 D7 (.lst (acc ++ [v]))) ∧ ∃ xs, (upd H6 D7 (.lst (acc ++ [v]))) D7 = some (.lst xs) ∧ Bags K (upd H6 D7 (.lst (acc ++ [v]))) kind xs ((b.take (i + 1)).map fun k => [k])) := fun v H6 s6 hv => by
        refine ⟨xs', s6 _ _ eX, Nat.lt_of_lt_of_le (show xs'.length < 64 by omega) (by decide), fun c o e => ?_, _, upd_same, ?_⟩
        · rw [upd_ne (ne_of_none e hD7)]
          exact s6 _ _ (sm _ _ e)
        · rw [List.take_succ_eq_append_getElem hlt, List.map_append, ek]
          exact ((B.same s6).push hv).but but_upd ⟨_, s6 _ _ eX⟩
      refine ⟨rfl, _, rfl, _, rfl, rfl, _, rfl, ite2 (fun c => ?_) (fun c => ?_)⟩
      · exact ⟨kind, _, k, rfl, fun z => absurd (of_decide_eq_true c) z, rest⟩
      · refine ⟨_, rfl, kind, _, k, rfl, fun z => ⟨rfl, fun h => ?_⟩, rest⟩
        rcases fit k (List.mem_of_getElem? hkx) with ⟨e, _⟩ | ⟨_, i, e, h64⟩
        · exact absurd e (hsort h)
        · exact ⟨i, e, h64⟩
    rintro H5 ⟨s5, xS, eS, BS⟩
    have n7 : D7 ≠ d := (ne_of_none D4.at_d hD7).symm
    rw [List.take_of_length_le (by rw [List.length_map]; exact Nat.le_refl _)] at BS
    have D5' := D4.keep s5
    -- due, told
    refine ⟨_, rfl, _, rfl, kind, D5, b, rfl, h6, SqL.of (s5 _ _ eV), hb, h64, hom, fun h => fit_ints fit (hsort h), fun pd vd H6 s6 hst htp => ?_⟩
    refine ⟨pd, _, rfl, htp, rfl, _, _, rfl, _, _, rfl, rfl, ?_⟩
    have D6 := D5'.keep s6
    have eS6 := s6 _ _ eS
    have BS6 := BS.same s6
    clear D4 D5' s5 eS BS
    -- more
    refine ⟨_, rfl, _, rfl, d, s, ns, _, 3, rfl, D6, (by show (0 : Int) < 3; decide), fun r2 H7 r20 r21 b7 D7' => ⟨_, rfl, by omega, by omega, fun DM hDM => ?_⟩⟩
    have hst7 := StAt.but b7 ⟨_, D6.at_d⟩ hst
    have eS7 := b7 _ _ n7 eS6
    have BS7 := BS6.but b7 ⟨_, D6.at_d⟩
    refine lc_range (lo := 0) (n := r2.toNat) (fun i H' => Same H7 H' ∧ ∃ xs, H' DM = some (.lst xs) ∧ Bags K H' kind xs (List.replicate i [])) ⟨same_upd hDM, [], upd_same, rfl, fun i x c h => by cases h⟩ ?_ ?_
    · rintro i H8 hi ⟨sm, xs', eX, B⟩
      have hx' : xs'.length = i := by
        rw [B.1, List.length_replicate]
      refine ⟨rfl, _, rfl, kind, rfl, fun v H9 s9 hv => ⟨xs', s9 _ _ eX, Nat.lt_of_lt_of_le (show xs'.length < 64 by omega) (by decide), fun c o e => ?_, _, upd_same, ?_⟩⟩
      · rw [upd_ne (ne_of_none e hDM)]
        exact s9 _ _ (sm _ _ e)
      · rw [List.replicate_succ']
        exact ((B.same s9).push hv).but but_upd ⟨_, s9 _ _ eX⟩
    rintro H8 ⟨s8, xN, eN, BN⟩
    have lS : xS.length = b.length := by
      rw [BS7.1, List.length_map]
    have lN : xN.length = r2.toNat := by
      rw [BN.1, List.length_replicate]
    refine ⟨D7, DM, xS, xN, rfl, rfl, s8 _ _ eS7, eN, Nat.le_trans (show xS.length + xN.length ≤ 64 by omega) (by decide), fun mo hmo => ?_⟩
    have s9 := same_upd (o := .lst (xS ++ xN)) hmo
    have BM := (((BS7.same s8).app BN).same s9)
    have hst9 := StAt.same s9 (StAt.same s8 hst7)
    have D9 := (D7'.keep s8).keep s9
    have eM : upd H8 mo (.lst (xS ++ xN)) mo = some (.lst (xS ++ xN)) := upd_same
    have nm : mo ≠ d := (ne_of_none (s8 _ _ D7'.at_d) hmo).symm
    have fl : ((b.map fun k => [k]) ++ List.replicate r2.toNat []).flatten = b := by
      rw [List.flatten_append, flat_one, flat_rep, List.append_nil]
    generalize upd H8 mo (.lst (xS ++ xN)) = H9 at BM hst9 D9 eM ⊢
    generalize xS ++ xN = xM at BM eM
    have nb : (b.map fun k => [k]) ++ List.replicate r2.toNat [] ≠ [] := fun e => hb (by rw [← fl, e]; rfl)
    have lb : ((b.map fun k => [k]) ++ List.replicate r2.toNat []).length < 64 := by
      rw [List.length_append, List.length_map, List.length_replicate]
      omega
    generalize (b.map fun k => [k]) ++ List.replicate r2.toNat [] = bM at BM fl nb lb
    subst fl
    -- three times
    refine ⟨3, rfl, by decide, by decide, for_range (n := 3) (fun i σ H' => ∃ n y2 y6 y8, σ = [some (.ref a), some (.ref d), y2, some (.str kind), some (.str sort), some (.ref D5), y6, some (.ref D7), y8, some vd, some (toldV kind bM.flatten), some (.ref mo)] ∧ DrawAt H' d s ns n ∧
        H' mo = some (.lst xM) ∧ Bags K H' kind xM bM ∧ StAt K H' vd (stOf kind bM.flatten))
      ⟨_, _, _, _, rfl, D9, eM, BM, hst9⟩ ?_ ?_⟩
    · rintro j σ HA hj ⟨nA, z2', z6, z8, rfl, DA, eA, BA, hA⟩
      refine ⟨_, rfl, _, rfl, _, rfl, d, s, mo, ns, _, kind, xM, bM, rfl, DA, SqL.of eA, BA, nb, hom, h64, lb, fun v nB HB bB DB hv => ?_⟩
      have hB := StAt.but bB ⟨_, DA.at_d⟩ hA
      refine ⟨_, rfl, _, _, st_dp hv, st_dp hB, st_shaped okb, st_shaped okb, _, rfl, iteNB (st_refl okb) ?_⟩
      exact ⟨_, _, _, _, rfl, DB, bB _ _ nm eA, BA.but bB ⟨_, DA.at_d⟩, hB⟩
    · rintro σ HA ⟨nA, z2', z6, z8, rfl, DA, eA, BA, hA⟩
      refine ⟨_, rfl, _, rfl, kind, vd, bM.flatten, rfl, hA, hb, h64, fun HB sB => ?_⟩
      refine ⟨_, rfl, told_scal _ _ hb, _, rfl, iteNB (decide_eq_true rfl) ?_⟩
      refine ⟨_, rfl, _, rfl, kind, rfl, fun v1 HC sC h1 => ?_⟩
      refine ⟨_, rfl, kind, rfl, fun v2 HD sD h2 => ?_⟩
      refine ⟨kind, v1, v2, [], [], rfl, StAt.same sD h1, h2, .inl ⟨[], rfl⟩, by decide, fun v3 HE sE h3 => ?_⟩
      refine ⟨_, rfl, kind, rfl, fun v4 HF sF h4 => ?_⟩
      refine ⟨_, _, st_dp (StAt.same sF h3), st_dp h4, st_shaped okn, st_shaped okn, _, rfl, iteNB (st_refl okn) ?_⟩
      exact ⟨_, _, _, _, _, _, _, _, _, _, _, rfl, ((((DA.keep sB).keep sC).keep sD).keep sE).keep sF⟩
  · rintro σ H' ⟨n, y2, y3, y4, y5, y6, y7, y8, y9, y10, y11, rfl, D⟩
    exact q _
end
end Kx

namespace Kx
open PySem PySem.Spec PyProof.Rows L2
theorem all_mk {l : PySem.W.OpenLaw} {w : World} {K : PySem.W.Frag} {h : Heap} {mg : Str → Option Value} {fa : Addr} (X : K.In h) (G : h.Ns mainGlobals mg) (hfa : mg "law" = some (.ref fa))
    {f1 f2 f3 f4 f5 f6 f7 f8 f9 f10 f11 f12 f13 f14 : Addr} {od1 an1 od2 an2 od3 an3 od4 an4 od5 an5 od6 an6 od7 an7 od8 an8 od9 an9 od10 an10 od11 an11 od12 an12 od13 an13 od14 an14 : Option Addr} {sl1 sl2 sl3 sl4 sl5 sl6 sl7 sl8 sl9 sl10 sl11 sl12 sl13 sl14 : Array (Option Value)} {oc1 kV1 dc1 pm1 cd1 ct1 oc2 kV2 dc2 pm2 cd2 ct2 oc3 kV3 dc3 pm3 cd3 ct3 oc4 kV4 dc4 pm4 cd4 ct4 oc5 kV5 dc5 pm5 cd5 ct5 oc6 kV6 dc6 pm6 cd6 ct6 oc7 kV7 dc7 pm7 cd7 ct7 oc8 kV8 dc8 pm8 cd8 ct8 oc9 kV9 dc9 pm9 cd9 ct9 oc10 kV10 dc10 pm10 cd10 ct10 oc11 kV11 dc11 pm11 cd11 ct11 oc12 kV12 dc12 pm12 cd12 ct12 oc13 kV13 dc13 pm13 cd13 ct13 oc14 kV14 dc14 pm14 cd14 ct14 : Value} {u1 : Tok}
    (a1 : PySem.W.nsIn K mainGlobals "wrapped" = some (some (.ref f1))) (l1 : K.lookup f1 = some ⟨oc1, od1, .func (PySem.W.fnOf "wrapped" "wrapped" (defArgs sWrap) (defBody sWrap) (defScope sWrap) .none kV1 dc1 pm1 an1 cd1 ct1), sl1⟩) (c1 : PySem.W.codeIn K cd1 "wrapped" = true) (k1 : PySem.W.keepIn K (.ref f1) = true)
    (a2 : PySem.W.nsIn K mainGlobals "no_state" = some (some (.ref f2))) (l2 : K.lookup f2 = some ⟨oc2, od2, .func (PySem.W.fnOf "no_state" "no_state" (defArgs sNo) (defBody sNo) (defScope sNo) .none kV2 dc2 pm2 an2 cd2 ct2), sl2⟩) (c2 : PySem.W.codeIn K cd2 "no_state" = true) (k2 : PySem.W.keepIn K (.ref f2) = true)
    (a3 : PySem.W.nsIn K mainGlobals "one_state" = some (some (.ref f3))) (l3 : K.lookup f3 = some ⟨oc3, od3, .func (PySem.W.fnOf "one_state" "one_state" (defArgs sOne) (defBody sOne) (defScope sOne) .none kV3 dc3 pm3 an3 cd3 ct3), sl3⟩) (c3 : PySem.W.codeIn K cd3 "one_state" = true) (k3 : PySem.W.keepIn K (.ref f3) = true)
    (a4 : PySem.W.nsIn K mainGlobals "put_together" = some (some (.ref f4))) (l4 : K.lookup f4 = some ⟨oc4, od4, .func (PySem.W.fnOf "put_together" "put_together" (defArgs sPut) (defBody sPut) (defScope sPut) .none kV4 dc4 pm4 an4 cd4 ct4), sl4⟩) (c4 : PySem.W.codeIn K cd4 "put_together" = true) (k4 : PySem.W.keepIn K (.ref f4) = true)
    (a5 : PySem.W.nsIn K mainGlobals "state_told" = some (some (.ref f5))) (l5 : K.lookup f5 = some ⟨oc5, od5, .func (PySem.W.fnOf "state_told" "state_told" (defArgs sTold) (defBody sTold) (defScope sTold) .none kV5 dc5 pm5 an5 cd5 ct5), sl5⟩) (c5 : PySem.W.codeIn K cd5 "state_told" = true) (k5 : PySem.W.keepIn K (.ref f5) = true)
    (a6 : PySem.W.nsIn K mainGlobals "_law_cell_at" = some (some (.ref f6))) (l6 : K.lookup f6 = some ⟨oc6, od6, .func (PySem.W.fnOf "_law_cell_at" "_law_cell_at" (defArgs sCell) (defBody sCell) (defScope sCell) .none kV6 dc6 pm6 an6 cd6 ct6), sl6⟩) (c6 : PySem.W.codeIn K cd6 "_law_cell_at" = true) (k6 : PySem.W.keepIn K (.ref f6) = true)
    (a7 : PySem.W.nsIn K mainGlobals "_law_draw" = some (some (.ref f7))) (l7 : K.lookup f7 = some ⟨oc7, od7, .func (PySem.W.fnOf "_law_draw" "_law_draw" (defArgs sDraw) (defBody sDraw) (defScope sDraw) .none kV7 dc7 pm7 an7 cd7 ct7), sl7⟩) (c7 : PySem.W.codeIn K cd7 "_law_draw" = true) (k7 : PySem.W.keepIn K (.ref f7) = true)
    (a8 : PySem.W.nsIn K mainGlobals "_law_number" = some (some (.ref f8))) (l8 : K.lookup f8 = some ⟨oc8, od8, .func (PySem.W.fnOf "_law_number" "_law_number" (defArgs sNumb) (defBody sNumb) (defScope sNumb) .none kV8 dc8 pm8 an8 cd8 ct8), sl8⟩) (c8 : PySem.W.codeIn K cd8 "_law_number" = true) (k8 : PySem.W.keepIn K (.ref f8) = true)
    (a9 : PySem.W.nsIn K mainGlobals "_law_next" = some (some (.ref f9))) (l9 : K.lookup f9 = some ⟨oc9, od9, .func (PySem.W.fnOf "_law_next" "_law_next" (defArgs sNext) (defBody sNext) (defScope sNext) .none kV9 dc9 pm9 an9 cd9 ct9), sl9⟩) (c9 : PySem.W.codeIn K cd9 "_law_next" = true) (k9 : PySem.W.keepIn K (.ref f9) = true)
    (a10 : PySem.W.nsIn K mainGlobals "_law_pick" = some (some (.ref f10))) (l10 : K.lookup f10 = some ⟨oc10, od10, .func (PySem.W.fnOf "_law_pick" "_law_pick" (defArgs sPick) (defBody sPick) (defScope sPick) .none kV10 dc10 pm10 an10 cd10 ct10), sl10⟩) (c10 : PySem.W.codeIn K cd10 "_law_pick" = true) (k10 : PySem.W.keepIn K (.ref f10) = true)
    (a11 : PySem.W.nsIn K mainGlobals "_law_value" = some (some (.ref f11))) (l11 : K.lookup f11 = some ⟨oc11, od11, .func (PySem.W.fnOf "_law_value" "_law_value" (defArgs sValue) (defBody sValue) (defScope sValue) .none kV11 dc11 pm11 an11 cd11 ct11), sl11⟩) (c11 : PySem.W.codeIn K cd11 "_law_value" = true) (k11 : PySem.W.keepIn K (.ref f11) = true)
    (a12 : PySem.W.nsIn K mainGlobals "_law_grouped" = some (some (.ref f12))) (l12 : K.lookup f12 = some ⟨oc12, od12, .func (PySem.W.fnOf "_law_grouped" "_law_grouped" (defArgs sGroup) (defBody sGroup) (defScope sGroup) .none kV12 dc12 pm12 an12 cd12 ct12), sl12⟩) (c12 : PySem.W.codeIn K cd12 "_law_grouped" = true) (k12 : PySem.W.keepIn K (.ref f12) = true)
    (a13 : PySem.W.nsIn K mainGlobals "_law_due" = some (some (.ref f13))) (l13 : K.lookup f13 = some ⟨oc13, od13, .func (PySem.W.fnOf "_law_due" "_law_due" (defArgs sDue) (defBody sDue) (defScope sDue) .none kV13 dc13 pm13 an13 cd13 ct13), sl13⟩) (c13 : PySem.W.codeIn K cd13 "_law_due" = true) (k13 : PySem.W.keepIn K (.ref f13) = true)
    (a14 : PySem.W.nsIn K mainGlobals "law" = some (some (.ref f14))) (l14 : K.lookup f14 = some ⟨oc14, od14, .func (PySem.W.fnOf "law" "law" (defArgs sLaw) (defBody sLaw) (defScope sLaw) .none kV14 dc14 pm14 an14 cd14 ct14), sl14⟩) (c14 : PySem.W.codeIn K cd14 "law" = true) (k14 : PySem.W.keepIn K (.ref f14) = true)
    (z1 : PySem.W.nsIn K mainGlobals "len" = some none)
    (z2 : PySem.W.nsIn K mainGlobals "int" = some none)
    (z3 : PySem.W.nsIn K mainGlobals "range" = some none)
    (z4 : PySem.W.nsIn K mainGlobals "sorted" = some none)
    (z5 : PySem.W.nsIn K mainGlobals "set" = some none)
    (z6 : PySem.W.nsIn K mainGlobals "tuple" = some none)
    (z7 : PySem.W.nsIn K mainGlobals "sum" = some none)
    (z8 : PySem.W.nsIn K mainGlobals "list" = some none)
    (g1 : PySem.W.nsIn K mainGlobals "LEAST_INT" = some (some (.int (-9223372036854775808) u1))) :
    ∃ fd : FuncData, (∀ (s : Shared) (v : Value), BindsTo s fd ⟨[v], []⟩ [("script", v)]) ∧ ∀ base : Heap, K.In base → base.Ns mainGlobals mg → FnOk l.prog w K mg base CX0 6 fa fd ["script"] (spLaw K) := by
  have e := hfa.symm.trans (PySem.W.mg_of X G a14)
  cases e
  have F1 := fun_mk (st := sWrap) l1 c1 k1
  have b1 := F1.binds (ps := ["number"]) fun _ _ _ _ _ _ us hl => match us, hl with | [_], _ => rfl
  have m1 := PySem.W.mg_of X G a1
  have F2 := fun_mk (st := sNo) l2 c2 k2
  have b2 := F2.binds (ps := ["kind"]) fun _ _ _ _ _ _ us hl => match us, hl with | [_], _ => rfl
  have m2 := PySem.W.mg_of X G a2
  have F3 := fun_mk (st := sOne) l3 c3 k3
  have b3 := F3.binds (ps := ["kind", "value"]) fun _ _ _ _ _ _ us hl => match us, hl with | [_, _], _ => rfl
  have m3 := PySem.W.mg_of X G a3
  have F4 := fun_mk (st := sPut) l4 c4 k4
  have b4 := F4.binds (ps := ["kind", "one", "other"]) fun _ _ _ _ _ _ us hl => match us, hl with | [_, _, _], _ => rfl
  have m4 := PySem.W.mg_of X G a4
  have F5 := fun_mk (st := sTold) l5 c5 k5
  have b5 := F5.binds (ps := ["kind", "state"]) fun _ _ _ _ _ _ us hl => match us, hl with | [_, _], _ => rfl
  have m5 := PySem.W.mg_of X G a5
  have F6 := fun_mk (st := sCell) l6 c6 k6
  have b6 := F6.binds (ps := ["script", "k"]) fun _ _ _ _ _ _ us hl => match us, hl with | [_, _], _ => rfl
  have m6 := PySem.W.mg_of X G a6
  have F7 := fun_mk (st := sDraw) l7 c7 k7
  have b7 := F7.binds (ps := ["cell", "k", "bound"]) fun _ _ _ _ _ _ us hl => match us, hl with | [_, _, _], _ => rfl
  have m7 := PySem.W.mg_of X G a7
  have F8 := fun_mk (st := sNumb) l8 c8 k8
  have b8 := F8.binds (ps := ["cell", "k", "bound"]) fun _ _ _ _ _ _ us hl => match us, hl with | [_, _, _], _ => rfl
  have m8 := PySem.W.mg_of X G a8
  have F9 := fun_mk (st := sNext) l9 c9 k9
  have b9 := F9.binds (ps := ["draw", "bound"]) fun _ _ _ _ _ _ us hl => match us, hl with | [_, _], _ => rfl
  have m9 := PySem.W.mg_of X G a9
  have F10 := fun_mk (st := sPick) l10 c10 k10
  have b10 := F10.binds (ps := ["draw", "things"]) fun _ _ _ _ _ _ us hl => match us, hl with | [_, _], _ => rfl
  have m10 := PySem.W.mg_of X G a10
  have F11 := fun_mk (st := sValue) l11 c11 k11
  have b11 := F11.binds (ps := ["draw", "kind"]) fun _ _ _ _ _ _ us hl => match us, hl with | [_, _], _ => rfl
  have m11 := PySem.W.mg_of X G a11
  have F12 := fun_mk (st := sGroup) l12 c12 k12
  have b12 := F12.binds (ps := ["draw", "kind", "states"]) fun _ _ _ _ _ _ us hl => match us, hl with | [_, _, _], _ => rfl
  have m12 := PySem.W.mg_of X G a12
  have F13 := fun_mk (st := sDue) l13 c13 k13
  have b13 := F13.binds (ps := ["kind", "values"]) fun _ _ _ _ _ _ us hl => match us, hl with | [_, _], _ => rfl
  have m13 := PySem.W.mg_of X G a13
  have F14 := fun_mk (st := sLaw) l14 c14 k14
  have m_len := PySem.W.mg_none_of X G z1
  have m_int := PySem.W.mg_none_of X G z2
  have m_range := PySem.W.mg_none_of X G z3
  have m_sorted := PySem.W.mg_none_of X G z4
  have m_set := PySem.W.mg_none_of X G z5
  have m_tuple := PySem.W.mg_none_of X G z6
  have m_sum := PySem.W.mg_none_of X G z7
  have m_list := PySem.W.mg_none_of X G z8
  have m_LEAST_INT := PySem.W.mg_of X G g1
  refine ⟨PySem.W.fnOf "law" "law" (defArgs sLaw) (defBody sLaw) (defScope sLaw) .none kV14 dc14 pm14 an14 cd14 ct14, fun s v => .of_eq rfl, fun base _ _ => ?_⟩
  have R_wrap : Ready l.prog w K mg base 1 "wrapped" ["number"] spWrap := ⟨⟨f1, _, ok_wrap F1 ⟨_, m_LEAST_INT⟩, b1, m1, k1⟩⟩
  have R_no : Ready l.prog w K mg base 1 "no_state" ["kind"] (spNo K) := ⟨⟨f2, _, ok_no F2, b2, m2, k2⟩⟩
  have R_one : Ready l.prog w K mg base 1 "one_state" ["kind", "value"] (spOne K) := ⟨⟨f3, _, ok_one F3, b3, m3, k3⟩⟩
  have R_put : Ready l.prog w K mg base 2 "put_together" ["kind", "one", "other"] (spPut K) := ⟨⟨f4, _, ok_put F4 m_sorted m_set m_tuple R_wrap, b4, m4, k4⟩⟩
  have R_told : Ready l.prog w K mg base 1 "state_told" ["kind", "state"] (spTold K) := ⟨⟨f5, _, ok_told F5 m_len, b5, m5, k5⟩⟩
  have R_cell : Ready l.prog w K mg base 1 "_law_cell_at" ["script", "k"] (spCell K) := ⟨⟨f6, _, ok_cell F6 m_len, b6, m6, k6⟩⟩
  have R_draw : Ready l.prog w K mg base 1 "_law_draw" ["cell", "k", "bound"] spDraw := ⟨⟨f7, _, ok_draw F7 m_int, b7, m7, k7⟩⟩
  have R_numb : Ready l.prog w K mg base 2 "_law_number" ["cell", "k", "bound"] spNumb := ⟨⟨f8, _, ok_numb F8 m_int m_range R_draw, b8, m8, k8⟩⟩
  have R_next : Ready l.prog w K mg base 3 "_law_next" ["draw", "bound"] spNext := ⟨⟨f9, _, ok_next F9 m_int R_cell R_numb, b9, m9, k9⟩⟩
  have R_pick : Ready l.prog w K mg base 4 "_law_pick" ["draw", "things"] (spPick K) := ⟨⟨f10, _, ok_pick F10 m_len R_next, b10, m10, k10⟩⟩
  have R_value : Ready l.prog w K mg base 5 "_law_value" ["draw", "kind"] spValue := ⟨⟨f11, _, ok_value F11 R_next R_pick, b11, m11, k11⟩⟩
  have R_group : Ready l.prog w K mg base 4 "_law_grouped" ["draw", "kind", "states"] (spGroup K) := ⟨⟨f12, _, ok_group F12 m_len m_list R_next R_put, b12, m12, k12⟩⟩
  have R_due : Ready l.prog w K mg base 1 "_law_due" ["kind", "values"] (spDue K) := ⟨⟨f13, _, ok_due F13 m_len m_sorted m_set m_tuple m_sum, b13, m13, k13⟩⟩
  exact ok_law F14 m_range R_next R_pick R_value R_one R_no R_put R_told R_due R_group
theorem walk {l : PySem.W.OpenLaw} {q : Program} {loose : List Str} {XP : (Str → Option Value) → Heap → Prop} {YP : World → Heap → Prop} {d : DefRec} {K : Params → PySem.W.Frag} (hn : l.most = some 63) (hdf : d.params.defaults = [])
    (hY : ∀ (w : World) (h : Heap), YP w h → (K w.params).In h)
    (F : ∀ (w : World) (mg : Str → Option Value) (fa : Addr) (h : Heap), (K w.params).In h → h.Ns mainGlobals mg → mg d.name = some (.ref fa) →
      ∃ fd : FuncData, (∀ (s : Shared) (u : Value), BindsTo s fd ⟨[u], []⟩ [("script", u)]) ∧ ∀ base : Heap, (K w.params).In base → base.Ns mainGlobals mg → FnOk l.prog w (K w.params) mg base CX0 6 fa fd ["script"] (spLaw (K w.params))) :
    PySem.W.WalkO q loose XP YP l.row.toRowW d [] (fun f vs => PySem.call f vs) :=
  L2.walk_of (n := 63) (k := 6) (x := "script") (CX := fun _ => CX0) (sp := fun w => spLaw (K w.params)) hn (by decide) hdf ⟨rfl, by decide, by decide⟩ hY F (fun _ _ a ns hl _ hS => ⟨a, ns, rfl, hS, fun _ => rfl⟩) fun _ _ _ _ _ z => z
end Kx
open PySem PySem.W PyProof.Rows
set_option maxRecDepth 100000 in
set_option maxHeartbeats 0 in
theorem PySem.Challenge.cw_countedonce_k02_whole_fold_states_holds : PySem.Challenge.rw_countedonce_k02_whole_fold_states.Holds := by
  w_on; o_law; k_head; (case hw => w_witness2)
  k_fill
  refine Kx.walk (l := PySem.Challenge.rw_countedonce_k02_whole_fold_states) rfl rfl (fun w h Y => PySem.W.kIn_of Y) ?F
  case F =>
    intro w mg fa h KX G hmg
    refine' Kx.all_mk KX G hmg ?a1 ?l1 ?c1 ?k1 ?a2 ?l2 ?c2 ?k2 ?a3 ?l3 ?c3 ?k3 ?a4 ?l4 ?c4 ?k4 ?a5 ?l5 ?c5 ?k5 ?a6 ?l6 ?c6 ?k6 ?a7 ?l7 ?c7 ?k7 ?a8 ?l8 ?c8 ?k8 ?a9 ?l9 ?c9 ?k9 ?a10 ?l10 ?c10 ?k10 ?a11 ?l11 ?c11 ?k11 ?a12 ?l12 ?c12 ?k12 ?a13 ?l13 ?c13 ?k13 ?a14 ?l14 ?c14 ?k14 ?z1 ?z2 ?z3 ?z4 ?z5 ?z6 ?z7 ?z8 ?g1
    (case a1 => k_is)
    (case l1 => k_is)
    (case c1 => k_is)
    (case k1 => k_is)
    (case a2 => k_is)
    (case l2 => k_is)
    (case c2 => k_is)
    (case k2 => k_is)
    (case a3 => k_is)
    (case l3 => k_is)
    (case c3 => k_is)
    (case k3 => k_is)
    (case a4 => k_is)
    (case l4 => k_is)
    (case c4 => k_is)
    (case k4 => k_is)
    (case a5 => k_is)
    (case l5 => k_is)
    (case c5 => k_is)
    (case k5 => k_is)
    (case a6 => k_is)
    (case l6 => k_is)
    (case c6 => k_is)
    (case k6 => k_is)
    (case a7 => k_is)
    (case l7 => k_is)
    (case c7 => k_is)
    (case k7 => k_is)
    (case a8 => k_is)
    (case l8 => k_is)
    (case c8 => k_is)
    (case k8 => k_is)
    (case a9 => k_is)
    (case l9 => k_is)
    (case c9 => k_is)
    (case k9 => k_is)
    (case a10 => k_is)
    (case l10 => k_is)
    (case c10 => k_is)
    (case k10 => k_is)
    (case a11 => k_is)
    (case l11 => k_is)
    (case c11 => k_is)
    (case k11 => k_is)
    (case a12 => k_is)
    (case l12 => k_is)
    (case c12 => k_is)
    (case k12 => k_is)
    (case a13 => k_is)
    (case l13 => k_is)
    (case c13 => k_is)
    (case k13 => k_is)
    (case a14 => k_is)
    (case l14 => k_is)
    (case c14 => k_is)
    (case k14 => k_is)
    (case z1 => k_is)
    (case z2 => k_is)
    (case z3 => k_is)
    (case z4 => k_is)
    (case z5 => k_is)
    (case z6 => k_is)
    (case z7 => k_is)
    (case z8 => k_is)
    (case g1 => k_is)

#print axioms PySem.Challenge.cw_countedonce_k02_whole_fold_states_holds

