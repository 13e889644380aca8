import PyProof.Rows.All
import Wide.All
import OpenK.AllK
import Wide.FinOn
import HandS.Base
import HandS.Call
import HandS.List
import HandS.Comp
import HandS.Ends
import HandS.Lambda
import KE.SortKeyHeap
import KE.LtData
import HandS.Words
import HandS.WordsList
import HandS.Wide
import HandS.TupAny
import HandS.Style
import HandS.Iter
import HandS.ForSpec
import HandS.TryOnly
import HandS.TryElse
import KE.KExcInit
import PyProof.Rows.ChunkEnd
import HandS.DictSub
import HandS.SortKw
import KE.DataMinMax
import KE.SortData
import HandS.Deep
import HandS.EndTab
import KE.KNestM
import PySem.Challenge.RW_countedonce_k19_sorting_in_runs
set_option Elab.async false
set_option linter.all false
set_option maxRecDepth 100000
set_option maxHeartbeats 4000000
namespace Kx
open PySem PySem.Spec PyProof.Rows L2
/-! ### a call of lambda row: (row[at], row) -/
def lamBody (p1 p2 p3 p4 p5 : Pos) (k : Nat) : Expr := .Tuple [.Subscript (.Name "row" p1) (.Name "at" p2) p3, .Name "row" p4] k p5
theorem lam_call {prog : Program} {w : World} {A : Around} {E : Value → Shared → Prop} {Q : Value → Shared → Prop} {s : Shared} {p1 p2 p3 p4 p5 : Pos} {k : Nat} {qual : Str} {params : Arguments} {scope : Scope} {cl : List (Str × Addr)} {pm ctv : Value} {f c' cA t : Addr} {us : List Value} {i : Int} {j : Nat} {x : Value} {tk : Tok}
    (hroom : A.depth < recursionLimit) (hf : s.heap.get? f = some (PySem.W.kla_obj "<lambda>" qual params (lamBody p1 p2 p3 p4 p5 k) scope cl pm c' ctv)) (hcd : s.heap.CodeRec (.ref c') qual) (hlim : s.heap.NoLimit)
    (hbind : bindArgs (PySem.W.kla_fn "<lambda>" qual params (lamBody p1 p2 p3 p4 p5 k) scope cl pm (.ref c') ctv) ⟨[.ref t], []⟩ = pure [(("row" : Str), Value.ref t)])
    (hk : scope.kind = .function) (hco : scope.isCoroutine = false) (hgen : scope.isGenerator = false) (hnc : ∀ y ∈ scope.names, y.2 ≠ .cell) (hrow : scope.names.lookup ("row" : Str) = some NameKind.local) (hat : scope.names.lookup ("at" : Str) = some NameKind.free)
    (hcl : cl.lookup ("at" : Str) = some cA) (hcell : s.heap.IsCell cA (some (.int i tk))) (ht : IsTup s.heap t us.toArray) (hlo : -(2 ^ 63) ≤ i) (hhi : i < 2 ^ 63) (hj : seqIndex? i us.length = some j) (hx : us[j]? = some x)
    (h : ∀ (h' : Heap) (T : Addr) (tk' : Nat), (∀ b o, s.heap.get? b = some o → h'.get? b = some o) → (∀ b o, s.heap.get? b = some o → b ≠ T) → h'.get? T = some { cls := .type "tuple", data := .seq #[x, .ref t] } → Q (.ref T) { s with heap := h', toks := tk' }) :
    wpAny (model prog w) A (call (.ref f) [.ref t]) Q E s := by
  refine wpAny_call (PySem.W.kla_callFunE hroom hf rfl hco hgen rfl hcd ?_)
  rw [hbind]
  refine wpAny_pure (wpAny_newFunctionEnv hnc (fun y hy => ?_) (fun h₁ hns hsb => ⟨hlim.fresh _ hsb, ?_⟩) hk)
  · rw [List.mem_singleton.mp hy]
    exact hrow
  have kp : ∀ b o, s.heap.get? b = some o → h₁.get? b = some o := fun b o e => hsb.extBut b o (Nat.ne_of_lt (Heap.lt_size e)) (Heap.get?_push_of_some _ e)
  refine PySem.W.kla_codeExpr ?_
  have look : ∀ {E'} {Q' : Value → Shared → Prop} {pos : Pos} {tk' : Nat}, Q' (.ref t) { s with heap := h₁, toks := tk' } → wpAny (model prog w) (A.deeper (PySem.W.envX qual scope s.heap.objs.size f (.ref c') cl)) (eval (.Name "row" pos) (PySem.W.envX qual scope s.heap.objs.size f (.ref c') cl)) Q' E' { s with heap := h₁, toks := tk' } :=
    fun {E' Q' pos tk'} q => wpAny_Name (wpAny_loadName_local hk hrow hns rfl q) (by decide)
  refine wpAny_Tuple_spliced ?_
  show wpAny _ _ (spliced [(false, eval (.Subscript (.Name "row" p1) (.Name "at" p2) p3) _), (false, eval (.Name "row" p4) _)]) _ _ _
  refine Calls.spliced_cons ?_
  have ht1 : IsTup h₁ t us.toArray := ht.keeps kp
  refine PySem.Subscript_Name (look ?_)
  refine wpAny_Name (wpAny_loadName_free hk hat hcl (v := .int i tk) ?_ ?_) (by decide)
  · obtain ⟨o, ho, hd⟩ := hcell
    exact ⟨o, kp _ _ ho, hd⟩
  refine ⟨"tuple", _, slot_tuple_getitem.lookup, ht1.typeIs, ?_⟩
  refine getItem_tuple ht1 hlo hhi (j := j) (by rw [List.size_toArray]; exact hj) (x := x) (by simpa using hx) ?_
  refine Calls.spliced_cons (look ?_)
  refine Calls.spliced_nil ⟨by show 2 ≤ sizeLine; decide, ?_⟩
  exact h _ h₁.objs.size _ (fun b o e => Heap.get?_push_of_some _ (kp b o e)) (fun b o e => Nat.ne_of_lt (Heap.lt_size (kp b o e))) (Heap.get?_push_size _ rfl)
/-! ### sorted(rows, key=lambda row: (row[at], row)) -/
def FlatD (d : PyData) : Prop := (∃ i, d = .int i) ∨ ∃ x, d = .str x
theorem flat_one {K : PySem.W.Frag} {H : Hp} {v : V} {d : PyData} {u : Value} {h : Heap} (hd : Dp K H v d) (f : FlatD d) (r : RelV v u) : Reads h u d [] := by
  rcases f with ⟨i, rfl⟩ | ⟨x, rfl⟩
  · cases hd
    obtain ⟨t, rfl⟩ := r
    exact .int i t
  · cases hd
    obtain ⟨t, rfl⟩ := r
    exact .str x t
theorem flat_all {K : PySem.W.Frag} {H : Hp} {h : Heap} : ∀ {ds : List PyData} {vs : List V} {us : List Value}, DpAll K H vs ds → (∀ d ∈ ds, FlatD d) → Vals vs us → ReadsAll h us ds []
  | [], _, _, hd, _, r => by
    cases hd
    cases r
    exact .nil
  | d :: ds, _, _, hd, f, r => by
    cases hd with
    | cons h1 h2 =>
      cases r with
      | cons r1 r2 => exact .cons (flat_one h1 (f d List.mem_cons_self) r1) (flat_all h2 (fun x hx => f x (List.mem_cons_of_mem _ hx)) r2)
theorem dpAll_get {K : PySem.W.Frag} {H : Hp} : ∀ {ds : List PyData} {vs : List V} {j : Nat} {d : PyData}, DpAll K H vs ds → ds[j]? = some d → ∃ v, vs[j]? = some v ∧ Dp K H v d
  | [], _, _, _, _, e => by cases e
  | d :: ds, _, j, d', h, e => by
    cases h with
    | cons h1 h2 =>
      cases j with
      | zero =>
        cases e
        exact ⟨_, rfl, h1⟩
      | succ j => exact dpAll_get (j := j) h2 e
theorem ext_sqL {K : PySem.W.Frag} {H H' : Hp} (h : LamX.ExtN H H') {a : Addr} {xs : List V} (q : SqL K H a xs) : SqL K H' a xs := by
  rcases q with (q | ⟨o, q⟩) | q
  · exact .inl (.inl (h _ _ q fun _ z => by cases z))
  · exact .inl (.inr ⟨o, h _ _ q fun _ z => by cases z⟩)
  · exact .inr q
theorem ext_sqT {K : PySem.W.Frag} {H H' : Hp} (h : LamX.ExtN H H') {a : Addr} {xs : List V} (q : SqT K H a xs) : SqT K H' a xs := by
  rcases q with (q | ⟨o, q⟩) | q
  · exact .inl (.inl (h _ _ q fun _ z => by cases z))
  · exact .inl (.inr ⟨o, h _ _ q fun _ z => by cases z⟩)
  · exact .inr q
def RowKey (K : PySem.W.Frag) (H : Hp) (n : Int) (p : V × PyData) (key : PyData) : Prop :=
  ∃ (t : Addr) (xs : List V) (ds : List PyData) (j : Nat) (d : PyData), p.1 = .ref t ∧ SqT K H t xs ∧ p.2 = .tuple ds ∧ DpAll K H xs ds ∧ (∀ d ∈ ds, FlatD d) ∧ seqIndex? n xs.length = some j ∧ ds[j]? = some d ∧ key = .tuple [d, p.2]
def tSortLam (K : PySem.W.Frag) (T : List (Addr × Str)) (iAt : Nat) (te : TE) : TE := fun σ H Q => te σ H fun x H1 => ∃ (a : Addr) (bs : List (V × PyData)) (n : Int) (ky : V × PyData → PyData), x = .ref a ∧ SqL K H1 a (bs.map (·.1)) ∧ LamX.Tabs T H1 ∧ σ[iAt]? = some (some (.int n)) ∧ -(2 ^ 63) ≤ n ∧ n < 2 ^ 63 ∧
  (∀ p ∈ bs, RowKey K H1 n p (ky p)) ∧ PySem.W.AllAlike (bs.map ky) ∧ PySem.W.Sortable (bs.map ky) ∧ (∀ p ∈ bs, (ky p).depth ≤ 60) ∧
  ∀ (D : Addr) (H2 : Hp), LamX.ExtN H1 H2 → LamX.Tabs T H2 → H2 D = some (.lst ((bs.mergeSort (PySem.W.dataLe false ky)).map (·.1))) → (∀ b o, H1 b = some o → (∀ ps, o ≠ .tbl ps) → b ≠ D) → Q (.ref D) H2
theorem each_of : ∀ {bs : List (V × PyData)} {us : List Value}, Vals (bs.map (·.1)) us → PySem.W.EachIs (fun v (b : V × PyData) => RelV b.1 v) us bs
  | [], us, r => by
    cases r
    exact .nil
  | b :: bs, us, r => by
    cases r with
    | cons r1 r2 => exact .cons r1 (each_of r2)
theorem vals_of : ∀ {bs : List (V × PyData)} {us : List Value}, PySem.W.EachIs (fun v (b : V × PyData) => RelV b.1 v) us bs → Vals (bs.map (·.1)) us
  | [], us, r => by
    cases r
    exact .nil
  | b :: bs, us, r => by
    cases r with
    | cons r1 r2 => exact .cons r1 (vals_of r2)
section
variable {X : Cx}
theorem pe_sortLam {T : List (Addr × Str)} {c P : Addr} {iAt k : Nat} {p pos lpos kpos p1 p2 p3 p4 p5 : Pos} {params : Arguments} {scope : Scope} {e : Expr} {te : TE} (he : PE X e te) (hg : Gl X "sorted") (hm : X.mg "sorted" = none) (hv : bootBuiltins "sorted" = some (.builtin "sorted"))
    (TB : LamX.TabB X.base X.mg c P) (hcode : X.env.code = .ref c) (hmT : (P, X.env.qual ++ "<lambda>") ∈ T) (hu : ∀ p ∈ T, p.1 = P → p.2 = X.env.qual ++ "<lambda>") {kr : Nat} (hr : Room kr X.A) (hdef : defaultsOf params X.env = ([], []))
    (hk : scope.kind = .function) (hco : scope.isCoroutine = false) (hgen : scope.isGenerator = false) (hnc : ∀ y ∈ scope.names, y.2 ≠ .cell) (hrow : scope.names.lookup ("row" : Str) = some NameKind.local) (hat : scope.names.lookup ("at" : Str) = some NameKind.free)
    (honly : ∀ y ∈ scope.names, y.2 = .free → y.1 = ("at" : Str)) (hcellK : X.env.scope.names.lookup ("at" : Str) = some NameKind.cell) (hN : X.N[iAt]? = some ("at" : Str))
    (hbind : ∀ (q : Str) (cl : List (Str × Addr)) (pm cv ctv u : Value), bindArgs (PySem.W.kla_fn "<lambda>" q params (lamBody p1 p2 p3 p4 p5 k) scope cl pm cv ctv) ⟨[u], []⟩ = pure [(("row" : Str), u)])
    (hs : starEach [e] X.env = (false, eval e X.env) :: starEach [] X.env := by rfl) :
    PE X (.Call (.Name "sorted" p) [e] [⟨some "key", .Lambda params (lamBody p1 p2 p3 p4 p5 k) scope lpos, kpos⟩] pos) (tSortLam X.K T iAt te) := by
  refine ⟨fun pins s σ H Q I h => ?_⟩
  refine wpAny_Call_Name_kw (ld_blt I hg hm hv ?_)
  refine PyProof.Rows.callWith_kw ?_ (by rw [hs]; rfl) (by rw [hs]; rfl) (by rfl) (by rfl)
  rw [hs]
  show wpAny _ _ (spliced ((false, eval e X.env) :: [])) _ _ s
  refine Calls.spliced_cons (thn (he.run pins s σ H _ I h) fun u s1 ⟨x, H1, I1, r1, q1⟩ => Calls.spliced_nil ?_)
  obtain ⟨a, bs, n, ky, rfl, hL, hT, hnat, hlo, hhi, hrows, hal, hso, hdep, q⟩ := q1
  cases r1
  show wpAny _ _ (evalAll [do let v ← eval (.Lambda params (lamBody p1 p2 p3 p4 p5 k) scope lpos) X.env; standAt pos; pure v]) _ _ s1
  have hfree : ∀ y ∈ scope.names, y.2 = .free → ∃ c, X.env.cells.lookup y.1 = some c := fun y hy e' => by
    rw [honly y hy e']
    exact I1.ok.has _ (.inl hcellK)
  refine wpAny_evalAll_cons (wpAny_bind (LamX.lam_make2 I1 TB hcode hmT hu hT hdef hfree fun f c' pm ctv H2 s2 I2 eN T2 hf hfn hfr hco2 => wpAny_bind (wpAny_standAt (wpAny_pure ?_))))
  refine wpAny_evalAll_nil ?_
  show wpAny _ _ (call (.builtin "sorted") [.ref a] [(("key" : Str), Value.ref f)]) _ _ s2
  obtain ⟨its, rv, hl, hz⟩ := I2.list (ext_sqL eN hL)
  obtain ⟨m, hn, hlk⟩ := I2.loc
  obtain ⟨u, ru, lk⟩ := hlk iAt ("at" : Str) (.int n) hN hnat (.inr (.inl hcellK))
  obtain ⟨tkn, rfl⟩ := (show ∃ tk, u = Value.int n tk from ru)
  obtain ⟨cA, hcA, hcell⟩ : ∃ c, X.env.cells.lookup ("at" : Str) = some c ∧ s2.heap.IsCell c (some (.int n tkn)) := by
    rcases lk with ⟨z, _⟩ | ⟨_, z⟩
    · rw [show X.env.kindOf ("at" : Str) = some NameKind.cell from hcellK] at z
      cases z
    · exact z
  have hcl : (cloFrom X.env.cells scope.names []).lookup ("at" : Str) = some cA := by
    obtain ⟨c0, h0⟩ := mem_lookup (cloFrom_has (cells := X.env.cells) (acc := []) (PySem.mem_of_lookup hat))
    rcases cloFrom_mem (PySem.mem_of_lookup h0) with z | ⟨_, z⟩
    · cases z
    · rw [h0, z, hcA]
      rfl
  have hlen : bs.length ≤ sizeLine := by
    rw [List.length_map] at hz
    exact hz
  have un := hr.units
  refine PySem.W.sorted_key_data (b := false) ky hl.isList (each_of rv) hal hso hlen (fun p hp => by have := hdep p hp; omega) (PyProof.Rows.ksk_s1 _ _) (fun _ => PyProof.Rows.ksk_l1 _ _) (fun _ => PyProof.Rows.ksk_t1 _ _) (fun v x hR hx h tk kp => ?_) (fun out c2 h' tk kp hno hD len eo => ?_)
  · obtain ⟨t, xs, ds, j, d, e1, hq, e2, hd, hfl, hj, hdj, ek⟩ := hrows x hx
    rw [e1] at hR
    obtain rfl : v = Value.ref t := hR
    obtain ⟨tits, trv, tpl, tz⟩ := I2.tuple (ext_sqT eN hq)
    obtain ⟨v', hv', hdv⟩ := dpAll_get hd hdj
    obtain ⟨x', ex', rx'⟩ := trv.get hv'
    obtain ⟨⟨oc, cvs, ct, hoc, hdc, hvc⟩, _, _⟩ := I2.hok c' _ hco2
    have hlen2 := trv.length
    obtain ⟨oc2, hoc2, hdc2⟩ := hcell
    refine lam_call (prog := X.prog) (w := X.w) (s := { s2 with heap := h, toks := tk }) (j := j) (x := x') (us := tits) hr.depth (kp _ _ hf) ⟨c', oc, cvs, ct, rfl, kp _ _ hoc, hdc, hvc⟩ (I2.nolimit.keeps kp) (hbind _ _ _ _ _ _) hk hco hgen hnc hrow hat hcl ⟨oc2, kp _ _ hoc2, hdc2⟩ (IsTup.keeps tpl kp) hlo hhi (by rw [← hlen2]; exact hj) ex' ?_
    intro h3 T3 tk3 kp3 nT hT3
    refine ⟨h3, tk3, rfl, kp3, ?_⟩
    obtain ⟨ot, hot, hct, nt, hdt⟩ := tpl
    rw [ek, e2]
    exact .tuple hT3 rfl rfl (.cons (flat_one hdv (hfl d (List.mem_of_getElem? hdj)) rx') (.cons (.tuple (kp3 _ _ (kp _ _ hot)) hct hdt (flat_all hd hfl trv)) .nil))
  · have nD : H2 (s2.heap.objs.size + 1) = none := I2.hok.fresh (Nat.le_succ _)
    refine ⟨.ref _, upd H2 (s2.heap.objs.size + 1) (.lst ((bs.mergeSort (PySem.W.dataLe false ky)).map (·.1))), I2.laid (t' := tk) kp (Nat.le_succ _) ⟨?_, out, c2, vals_of eo, hD⟩, rfl, q _ _ (eN.trans fun b o eb _ => ?_) (T2.ext fun b o eb => ?_) upd_same fun b o eb nt ez => ?_⟩
    · rw [List.length_map, List.length_mergeSort]
      exact hlen
    · rw [upd_ne (ne_of_none eb nD)]
      exact eb
    · rw [upd_ne (ne_of_none eb nD)]
      exact eb
    · have := eN b o eb nt
      rw [ez, nD] at this
      cases this
end
end Kx

namespace Hk
open PySem
/-! ### heaps, as lists -/
def at' (ts : List Addr) (i : Nat) : Addr := ts.getD i 0
theorem at_get {ts : List Addr} {i : Nat} (h : i < ts.length) : ts[i]? = some (at' ts i) := by
  unfold at'
  rw [List.getD_eq_getElem?_getD, List.getElem?_eq_getElem h]
  rfl
def sw (ts : List Addr) (i j : Nat) : List Addr := (ts.set i (at' ts j)).set j (at' ts i)
theorem sw_len (ts : List Addr) (i j : Nat) : (sw ts i j).length = ts.length := by
  unfold sw
  rw [List.length_set, List.length_set]
theorem sw_at {ts : List Addr} {i j k : Nat} (hi : i < ts.length) (hj : j < ts.length) : at' (sw ts i j) k = if k = j then at' ts i else if k = i then at' ts j else at' ts k := by
  unfold sw
  show ((ts.set i (at' ts j)).set j (at' ts i)).getD k 0 = _
  rw [List.getD_eq_getElem?_getD, List.getElem?_set]
  by_cases c : j = k
  · rw [if_pos c, if_pos c.symm, if_pos (by rw [List.length_set]; omega)]
    rfl
  · rw [if_neg c, if_neg (Ne.symm c), List.getElem?_set]
    by_cases c2 : i = k
    · rw [if_pos c2, if_pos c2.symm, if_pos (by omega)]
      rfl
    · rw [if_neg c2, if_neg (Ne.symm c2)]
      rfl
theorem sw_perm {ts : List Addr} {i j : Nat} (hi : i < ts.length) (hj : j < ts.length) : (sw ts i j).Perm ts := by
  have e1 : at' ts j = ts[j] := by simp [at', hj]
  have e2 : at' ts i = ts[i] := by simp [at', hi]
  unfold sw
  rw [e1, e2]
  exact List.set_set_perm hi hj
structure Ord (lt : Addr → Addr → Bool) : Prop where
  irr : ∀ a, lt a a = false
  tr : ∀ a b c, lt a b = true → lt b c = true → lt a c = true
  neg : ∀ a b c, lt a c = true → lt a b = true ∨ lt b c = true
section
variable {lt : Addr → Addr → Bool}
def IsHeap (lt : Addr → Addr → Bool) (ts : List Addr) : Prop := ∀ i, 0 < i → i < ts.length → lt (at' ts i) (at' ts ((i - 1) / 2)) = false
structure Up (lt : Addr → Addr → Bool) (ts : List Addr) (pos : Nat) : Prop where
  all : ∀ i, 0 < i → i < ts.length → i ≠ pos → lt (at' ts i) (at' ts ((i - 1) / 2)) = false
  grand : 0 < pos → ∀ c, 0 < c → c < ts.length → (c - 1) / 2 = pos → lt (at' ts c) (at' ts ((pos - 1) / 2)) = false
structure Dn (lt : Addr → Addr → Bool) (ts : List Addr) (pos : Nat) : Prop where
  all : ∀ i, 0 < i → i < ts.length → i ≠ pos → (i - 1) / 2 ≠ pos → lt (at' ts i) (at' ts ((i - 1) / 2)) = false
  grand : 0 < pos → ∀ c, 0 < c → c < ts.length → (c - 1) / 2 = pos → lt (at' ts c) (at' ts ((pos - 1) / 2)) = false
theorem Ord.asym (O : Ord lt) {a b : Addr} (h : lt a b = true) : lt b a = false := by
  cases e : lt b a with
  | false => rfl
  | true =>
    have := O.tr _ _ _ h e
    rw [O.irr] at this
    cases this
theorem Ord.le_lt (O : Ord lt) {a b c : Addr} (h1 : lt b a = false) (h2 : lt b c = true) : lt a c = true := by
  rcases O.neg b a c h2 with z | z
  · rw [h1] at z
    cases z
  · exact z
theorem Ord.ge_tr (O : Ord lt) {a b c : Addr} (h1 : lt a b = false) (h2 : lt b c = false) : lt a c = false := by
  cases e : lt a c with
  | false => rfl
  | true =>
    rcases O.neg a b c e with z | z
    · rw [h1] at z
      cases z
    · rw [h2] at z
      cases z
theorem Up.done {ts : List Addr} {pos : Nat} (u : Up lt ts pos) (h : 0 < pos → pos < ts.length → lt (at' ts pos) (at' ts ((pos - 1) / 2)) = false) : IsHeap lt ts := fun i i0 il => by
  by_cases e : i = pos
  · subst e
    exact h i0 il
  · exact u.all i i0 il e
theorem Up.step (O : Ord lt) {ts : List Addr} {pos : Nat} (u : Up lt ts pos) (hp : 0 < pos) (hl : pos < ts.length) (h : lt (at' ts pos) (at' ts ((pos - 1) / 2)) = true) : Up lt (sw ts ((pos - 1) / 2) pos) ((pos - 1) / 2) := by
  have hpl : (pos - 1) / 2 < ts.length := by omega
  have hne : (pos - 1) / 2 ≠ pos := by omega
  refine ⟨fun i i0 il ne => ?_, fun p0 c c0 cl cp => ?_⟩
  · rw [sw_len] at il
    rw [sw_at hpl hl, sw_at hpl hl]
    by_cases e1 : i = pos
    · subst e1
      rw [if_pos rfl, if_neg hne, if_pos rfl]
      exact O.asym h
    · rw [if_neg e1, if_neg ne]
      by_cases e2 : (i - 1) / 2 = pos
      · rw [if_pos e2]
        have := u.grand hp i i0 il e2
        exact this
      · rw [if_neg e2]
        by_cases e3 : (i - 1) / 2 = (pos - 1) / 2
        · rw [if_pos e3]
          have z := u.all i i0 il e1
          rw [e3] at z
          exact O.ge_tr z (O.asym h)
        · rw [if_neg e3]
          exact u.all i i0 il e1
  · rw [sw_len] at cl
    have hq : ((pos - 1) / 2 - 1) / 2 ≠ pos := by omega
    have hq2 : ((pos - 1) / 2 - 1) / 2 ≠ (pos - 1) / 2 := by omega
    rw [sw_at hpl hl, sw_at hpl hl, if_neg hq, if_neg hq2]
    have z := u.all ((pos - 1) / 2) p0 hpl hne
    by_cases e1 : c = pos
    · rw [if_pos e1]
      exact z
    · have e2 : c ≠ (pos - 1) / 2 := by omega
      rw [if_neg e1, if_neg e2]
      have z2 := u.all c c0 cl e1
      rw [cp] at z2
      exact O.ge_tr z2 z
theorem Dn.up {ts : List Addr} {pos : Nat} (u : Dn lt ts pos) (h : ts.length / 2 ≤ pos) : Up lt ts pos := ⟨fun i i0 il ne => u.all i i0 il ne (by omega), fun p0 c c0 cl cp => by omega⟩
theorem Dn.step (O : Ord lt) {ts : List Addr} {pos c : Nat} (u : Dn lt ts pos) (hc0 : 0 < c) (hcl : c < ts.length) (hcp : (c - 1) / 2 = pos) (h : ∀ i, 0 < i → i < ts.length → (i - 1) / 2 = pos → lt (at' ts i) (at' ts c) = false) : Dn lt (sw ts c pos) c := by
  have hpl : pos < ts.length := by omega
  refine ⟨fun i i0 il ne1 ne2 => ?_, fun _ g g0 gl gp => ?_⟩
  · rw [sw_len] at il
    rw [sw_at hcl hpl, sw_at hcl hpl]
    by_cases e1 : i = pos
    · subst e1
      have a1 : (i - 1) / 2 ≠ i := by omega
      rw [if_pos rfl, if_neg a1, if_neg ne2]
      exact u.grand i0 c hc0 hcl hcp
    · rw [if_neg e1, if_neg ne1]
      by_cases e2 : (i - 1) / 2 = pos
      · rw [if_pos e2]
        exact h i i0 il e2
      · rw [if_neg e2, if_neg ne2]
        exact u.all i i0 il e1 e2
  · rw [sw_len] at gl
    rw [sw_at hcl hpl, sw_at hcl hpl]
    have g1 : g ≠ pos := by omega
    have g2 : g ≠ c := by omega
    rw [if_neg g1, if_neg g2, if_pos hcp]
    have z := u.all g g0 gl g1 (by omega)
    rw [gp] at z
    exact z
theorem heap_min (O : Ord lt) {ts : List Addr} (h : IsHeap lt ts) : ∀ i, i < ts.length → lt (at' ts i) (at' ts 0) = false := by
  intro i
  induction i using Nat.strongRecOn with
  | _ i ih =>
    intro hi
    rcases Nat.eq_zero_or_pos i with e | e
    · rw [e]
      exact O.irr _
    · exact O.ge_tr (h i e hi) (ih ((i - 1) / 2) (by omega) (by omega))
end
end Hk

namespace Hk
open PySem PySem.Spec PyProof.Rows
theorem entry_sift : entryFor table "_heapq.heapify.sift" = some Builtin.«_heapq.heapify.sift» := entryFor_of_fast (by kernel_rfl)
theorem plain_sift : plainId "_heapq.heapify.sift" = true := by decide +kernel
theorem entry_push : entryFor table "_heapq.heappush" = some Builtin.«_heapq.heappush» := entryFor_of_fast (by kernel_rfl)
theorem entry_pop : entryFor table "_heapq.heappop" = some Builtin.«_heapq.heappop» := entryFor_of_fast (by kernel_rfl)
def HL (a : Addr) (h : Heap) (ts : List Addr) : Prop := ∃ n, h.get? a = some { cls := .type "list", data := .seq (ts.map Value.ref).toArray n }
def Kept (a : Addr) (h h' : Heap) : Prop := ∀ b o, b ≠ a → h.get? b = some o → h'.get? b = some o
section
variable {prog : Program} {w : World} {A : Around} {R : Result → Shared → Prop} {lt : Addr → Addr → Bool}
theorem arr_get {ts : List Addr} {i : Nat} (h : i < ts.length) : (ts.map Value.ref).toArray[i]? = some (.ref (at' ts i)) := by
  rw [List.getElem?_toArray, List.getElem?_map, at_get h]
  rfl
theorem HL.upd {a : Addr} {h : Heap} {ts us : List Addr} {f : Array Value → Array Value} (x : HL a h ts) (e : f (ts.map Value.ref).toArray = (us.map Value.ref).toArray) : HL a (h.update a (Obj.mapSeq f)) us := by
  obtain ⟨n, hn⟩ := x
  unfold HL
  rw [← e]
  exact ⟨_, Heap.get?_update_self _ hn rfl⟩
theorem Kept.upd {a : Addr} {h0 h : Heap} {f : Array Value → Array Value} (k : Kept a h0 h) : Kept a h0 (h.update a (Obj.mapSeq f)) := fun b o hb e => (Heap.get?_update_other _ _ (Ne.symm hb)).trans (k b o hb e)
theorem sw_arr {ts : List Addr} {i j : Nat} (hi : i < ts.length) (hj : j < ts.length) : (((ts.map Value.ref).toArray).setIfInBounds i (.ref (at' ts j))).setIfInBounds j (.ref (at' ts i)) = ((sw ts i j).map Value.ref).toArray := by
  apply Array.toList_inj.mp
  simp [sw, List.map_set]
theorem sift_up (O : Ord lt) {a : Addr} {ts0 : List Addr} {s0 : Shared} {result : Value} (hz : ts0.length ≤ 1000)
    (hcmp : ∀ (h : Heap), Kept a s0.heap h → ∀ t ∈ ts0, ∀ u ∈ ts0, PySem.SeqAt.RcLt A.in1 { s0 with heap := h } (.ref t) (.ref u) (lt t u))
    (hR : ∀ (ts : List Addr) (h : Heap), ts.Perm ts0 → IsHeap lt ts → Kept a s0.heap h → HL a h ts → R (.ok (.ret result)) { s0 with heap := h }) :
    ∀ (k pos : Nat) (ts : List Addr) (h : Heap), pos ≤ k → ts.Perm ts0 → Up lt ts pos → pos < ts.length → HL a h ts → Kept a s0.heap h →
      codeAny (model prog w) A (.builtin "_heapq.heapify.sift" ⟨[.ref a, .bool false, .bool false, rawInt pos, rawInt 0, result, rawInt (-1)], []⟩) R { s0 with heap := h } := by
  intro k
  induction k with
  | zero =>
    intro pos ts h hk hp u hpl hl kp
    have hl' := hl
    obtain ⟨n, hn⟩ := hl
    have e0 : pos = 0 := by omega
    subst e0
    refine codeAny_builtin entry_sift ?_
    rw [Around.under_plainId plain_sift _]
    unfold Builtin.«_heapq.heapify.sift»
    simp only [rawInt, Bool.false_eq_true, if_false, Int.toNat_natCast]
    refine wpAny_bind ?_
    show wpAny _ _ (seqItems? (.ref a) >>= _) _ _ _
    refine wpAny_bind (wpAny_seqItems hn rfl ?_)
    refine wpAny_pure ?_
    rw [if_neg (by decide), if_pos (by decide)]
    exact wpAny_pure (hR ts h hp (u.done fun z => absurd z (Nat.lt_irrefl 0)) kp hl')
  | succ k ih =>
    intro pos ts h hk hp u hpl hl kp
    have hl' := hl
    obtain ⟨n, hn⟩ := hl
    refine codeAny_builtin entry_sift ?_
    rw [Around.under_plainId plain_sift _]
    unfold Builtin.«_heapq.heapify.sift»
    simp only [rawInt, Bool.false_eq_true, if_false, Int.toNat_natCast]
    refine wpAny_bind ?_
    show wpAny _ _ (seqItems? (.ref a) >>= _) _ _ _
    refine wpAny_bind (wpAny_seqItems hn rfl ?_)
    refine wpAny_pure ?_
    by_cases c : pos > Int.toNat 0
    · have c' : 0 < pos := c
      rw [if_pos c]
      have hpp : (pos - 1) / 2 < ts.length := by omega
      refine wpAny_bind ?_
      show wpAny _ _ (match (ts.map Value.ref).toArray[pos]? with | some v => pure v | none => _) _ _ _
      rw [arr_get hpl]
      refine wpAny_pure ?_
      refine wpAny_bind ?_
      show wpAny _ _ (match (ts.map Value.ref).toArray[(pos - 1) / 2]? with | some v => pure v | none => _) _ _ _
      rw [arr_get hpp]
      refine wpAny_pure ?_
      refine wpAny_bind ?_
      show wpAny _ _ (holding _ _ >>= _) _ _ _
      have m1 : at' ts pos ∈ ts0 := hp.mem_iff.mp (List.mem_of_getElem? (at_get hpl))
      have m2 : at' ts ((pos - 1) / 2) ∈ ts0 := hp.mem_iff.mp (List.mem_of_getElem? (at_get hpp))
      refine wpAny_bind (wpAny_holding (wpAny_bind (hcmp h kp _ m1 _ m2 prog w _ _ ?_)))
      refine wpAny_truthy_bool ?_
      refine wpAny_bind ?_
      show wpAny _ _ (seqItems? (.ref a) >>= _) _ _ _
      refine wpAny_bind (wpAny_seqItems hn rfl ?_)
      refine wpAny_pure ?_
      rw [if_neg (by simp)]
      refine wpAny_pure ?_
      cases hb : lt (at' ts pos) (at' ts ((pos - 1) / 2)) with
      | false =>
        rw [if_neg (by decide), if_pos (by decide)]
        exact wpAny_pure (hR ts h hp (u.done fun _ _ => hb) kp hl')
      | true =>
        rw [if_pos rfl]
        refine wpAny_bind ?_
        show wpAny _ _ (_ >>= _) _ _ _
        refine wpAny_bind ?_
        show wpAny _ _ (seqItems? (.ref a) >>= _) _ _ _
        refine wpAny_bind (wpAny_seqItems hn rfl ?_)
        refine wpAny_pure ?_
        refine wpAny_bind ?_
        show wpAny _ _ (match (ts.map Value.ref).toArray[(pos - 1) / 2]? with | some v => pure v | none => _) _ _ _
        rw [arr_get hpp]
        refine wpAny_pure ?_
        refine wpAny_bind ?_
        show wpAny _ _ (match (ts.map Value.ref).toArray[pos]? with | some v => pure v | none => _) _ _ _
        rw [arr_get hpl]
        refine wpAny_pure ?_
        have hzt : ts.length ≤ 1000 := by rw [hp.length_eq]; exact hz
        refine wpAny_updateSeq hn rfl ?_ (by rw [List.size_toArray, List.length_map, sizeLine_eq]; omega) (by rw [Array.size_setIfInBounds, Array.size_setIfInBounds, List.size_toArray, List.length_map, sizeLine_eq]; omega)
        refine wpAny_pure ⟨plainId_quiet plain_sift _, ?_⟩
        have hps := sw_perm hpp hpl
        exact ih ((pos - 1) / 2) (sw ts ((pos - 1) / 2) pos) _ (by omega) (hps.trans hp) (u.step O c' hpl hb) (by rw [sw_len]; exact hpp) (hl'.upd (sw_arr hpp hpl)) kp.upd
    · have e0 : pos = 0 := by
        have : ¬ 0 < pos := c
        omega
      rw [if_neg c, if_pos (by decide)]
      exact wpAny_pure (hR ts h hp (u.done fun z => absurd z (by omega)) kp hl')
end
end Hk

namespace Hk
open PySem PySem.Spec PyProof.Rows
section
variable {prog : Program} {w : World} {A : Around} {R : Result → Shared → Prop} {lt : Addr → Addr → Bool}
theorem sift_dn (O : Ord lt) {a : Addr} {ts0 : List Addr} {s0 : Shared} {result : Value} (hz : ts0.length ≤ 1000)
    (hcmp : ∀ (h : Heap), Kept a s0.heap h → ∀ t ∈ ts0, ∀ u ∈ ts0, PySem.SeqAt.RcLt A.in1 { s0 with heap := h } (.ref t) (.ref u) (lt t u))
    (hR : ∀ (ts : List Addr) (h : Heap), ts.Perm ts0 → IsHeap lt ts → Kept a s0.heap h → HL a h ts → R (.ok (.ret result)) { s0 with heap := h }) :
    ∀ (k pos : Nat) (ts : List Addr) (h : Heap), ts.length - pos ≤ k → ts.Perm ts0 → Dn lt ts pos → pos < ts.length → HL a h ts → Kept a s0.heap h →
      codeAny (model prog w) A (.builtin "_heapq.heapify.sift" ⟨[.ref a, .bool false, .bool true, rawInt pos, rawInt 0, result, rawInt (-1)], []⟩) R { s0 with heap := h } := by
  intro k
  induction k with
  | zero =>
    intro pos ts h hk hp u hpl hl kp
    omega
  | succ k ih =>
    intro pos ts h hk hp u hpl hl kp
    have hl' := hl
    obtain ⟨n, hn⟩ := hl
    have hzt : ts.length ≤ 1000 := by rw [hp.length_eq]; exact hz
    refine codeAny_builtin entry_sift ?_
    rw [Around.under_plainId plain_sift _]
    unfold Builtin.«_heapq.heapify.sift»
    simp only [rawInt, Bool.false_eq_true, if_false, if_true, Int.toNat_natCast]
    refine wpAny_bind ?_
    show wpAny _ _ (seqItems? (.ref a) >>= _) _ _ _
    refine wpAny_bind (wpAny_seqItems hn rfl ?_)
    refine wpAny_pure ?_
    have esz : (ts.map Value.ref).toArray.size = ts.length := by rw [List.size_toArray, List.length_map]
    have swap : ∀ (c : Nat) {Q : Unit → Shared → Prop} {E : Value → Shared → Prop}, c < ts.length → Q () { s0 with heap := h.update a (Obj.mapSeq fun xs => (xs.setIfInBounds c (.ref (at' ts pos))).setIfInBounds pos (.ref (at' ts c))) } →
        wpAny (model prog w) A.in1 (updateSeq a fun xs => (xs.setIfInBounds c (.ref (at' ts pos))).setIfInBounds pos (.ref (at' ts c))) Q E { s0 with heap := h } := fun c {Q E} hc q =>
      wpAny_updateSeq hn rfl q (by rw [List.size_toArray, List.length_map, sizeLine_eq]; omega) (by rw [Array.size_setIfInBounds, Array.size_setIfInBounds, List.size_toArray, List.length_map, sizeLine_eq]; omega)
    rw [esz]
    by_cases c1 : pos < ts.length / 2
    · rw [if_pos c1]
      by_cases c2 : 2 * pos + 1 + 1 < ts.length
      · rw [if_pos c2]
        have hl1 : 2 * pos + 1 < ts.length := by omega
        refine wpAny_bind ?_
        show wpAny _ _ (match (ts.map Value.ref).toArray[2 * pos + 1]? with | some v => pure v | none => _) _ _ _
        rw [arr_get hl1]
        refine wpAny_pure ?_
        refine wpAny_bind ?_
        show wpAny _ _ (match (ts.map Value.ref).toArray[2 * pos + 1 + 1]? with | some v => pure v | none => _) _ _ _
        rw [arr_get c2]
        refine wpAny_pure ?_
        refine wpAny_bind ?_
        show wpAny _ _ (holding _ _ >>= _) _ _ _
        have m1 : at' ts (2 * pos + 1) ∈ ts0 := hp.mem_iff.mp (List.mem_of_getElem? (at_get hl1))
        have m2 : at' ts (2 * pos + 1 + 1) ∈ ts0 := hp.mem_iff.mp (List.mem_of_getElem? (at_get c2))
        refine wpAny_bind (wpAny_holding (wpAny_bind (hcmp h kp _ m1 _ m2 prog w _ _ ?_)))
        refine wpAny_truthy_bool ?_
        refine wpAny_bind ?_
        show wpAny _ _ (seqItems? (.ref a) >>= _) _ _ _
        refine wpAny_bind (wpAny_seqItems hn rfl ?_)
        refine wpAny_pure ?_
        rw [if_neg (by rw [esz]; simp)]
        refine wpAny_pure ?_
        cases hb : lt (at' ts (2 * pos + 1)) (at' ts (2 * pos + 1 + 1)) with
        | false =>
          rw [if_pos (by decide)]
          refine wpAny_bind ?_
          show wpAny _ _ (_ >>= _) _ _ _
          refine wpAny_bind ?_
          show wpAny _ _ (seqItems? (.ref a) >>= _) _ _ _
          refine wpAny_bind (wpAny_seqItems hn rfl ?_)
          refine wpAny_pure ?_
          refine wpAny_bind ?_
          show wpAny _ _ (match (ts.map Value.ref).toArray[2 * pos + 1 + 1]? with | some v => pure v | none => _) _ _ _
          rw [arr_get c2]
          refine wpAny_pure ?_
          refine wpAny_bind ?_
          show wpAny _ _ (match (ts.map Value.ref).toArray[pos]? with | some v => pure v | none => _) _ _ _
          rw [arr_get hpl]
          refine wpAny_pure ?_
          refine swap _ c2 ?_
          refine wpAny_pure ⟨plainId_quiet plain_sift _, ?_⟩
          exact ih (2 * pos + 1 + 1) (sw ts (2 * pos + 1 + 1) pos) _ (by rw [sw_len]; omega) ((sw_perm c2 hpl).trans hp) (u.step O (by omega) c2 (by omega) fun i i0 il ip => by
            rcases (show i = 2 * pos + 1 ∨ i = 2 * pos + 1 + 1 by omega) with e | e
            · rw [e]
              exact hb
            · rw [e]
              exact O.irr _) (by rw [sw_len]; exact c2) (hl'.upd (sw_arr c2 hpl)) kp.upd
        | true =>
          rw [if_neg (by decide)]
          refine wpAny_bind ?_
          show wpAny _ _ (_ >>= _) _ _ _
          refine wpAny_bind ?_
          show wpAny _ _ (seqItems? (.ref a) >>= _) _ _ _
          refine wpAny_bind (wpAny_seqItems hn rfl ?_)
          refine wpAny_pure ?_
          refine wpAny_bind ?_
          show wpAny _ _ (match (ts.map Value.ref).toArray[2 * pos + 1]? with | some v => pure v | none => _) _ _ _
          rw [arr_get hl1]
          refine wpAny_pure ?_
          refine wpAny_bind ?_
          show wpAny _ _ (match (ts.map Value.ref).toArray[pos]? with | some v => pure v | none => _) _ _ _
          rw [arr_get hpl]
          refine wpAny_pure ?_
          refine swap _ hl1 ?_
          refine wpAny_pure ⟨plainId_quiet plain_sift _, ?_⟩
          exact ih (2 * pos + 1) (sw ts (2 * pos + 1) pos) _ (by rw [sw_len]; omega) ((sw_perm hl1 hpl).trans hp) (u.step O (by omega) hl1 (by omega) fun i i0 il ip => by
            rcases (show i = 2 * pos + 1 ∨ i = 2 * pos + 1 + 1 by omega) with e | e
            · rw [e]
              exact O.irr _
            · rw [e]
              exact O.asym hb) (by rw [sw_len]; exact hl1) (hl'.upd (sw_arr hl1 hpl)) kp.upd
      · rw [if_neg c2]
        have hl1 : 2 * pos + 1 < ts.length := by omega
        refine wpAny_bind ?_
        show wpAny _ _ (_ >>= _) _ _ _
        refine wpAny_bind ?_
        show wpAny _ _ (seqItems? (.ref a) >>= _) _ _ _
        refine wpAny_bind (wpAny_seqItems hn rfl ?_)
        refine wpAny_pure ?_
        refine wpAny_bind ?_
        show wpAny _ _ (match (ts.map Value.ref).toArray[2 * pos + 1]? with | some v => pure v | none => _) _ _ _
        rw [arr_get hl1]
        refine wpAny_pure ?_
        refine wpAny_bind ?_
        show wpAny _ _ (match (ts.map Value.ref).toArray[pos]? with | some v => pure v | none => _) _ _ _
        rw [arr_get hpl]
        refine wpAny_pure ?_
        refine swap _ hl1 ?_
        refine wpAny_pure ⟨plainId_quiet plain_sift _, ?_⟩
        exact ih (2 * pos + 1) (sw ts (2 * pos + 1) pos) _ (by rw [sw_len]; omega) ((sw_perm hl1 hpl).trans hp) (u.step O (by omega) hl1 (by omega) fun i i0 il ip => by
            have e : i = 2 * pos + 1 := by omega
            rw [e]
            exact O.irr _) (by rw [sw_len]; exact hl1) (hl'.upd (sw_arr hl1 hpl)) kp.upd
    · rw [if_neg c1]
      refine wpAny_pure ⟨plainId_quiet plain_sift _, ?_⟩
      exact sift_up O hz hcmp hR pos pos ts h (Nat.le_refl _) hp (u.up (by omega)) hpl hl' kp
end
end Hk

namespace Hk
open PySem PySem.Spec PyProof.Rows
theorem plain_push : plainId "_heapq.heappush" = true := by decide +kernel
theorem plain_pop : plainId "_heapq.heappop" = true := by decide +kernel
theorem args_push (a t : Addr) : argsOk "_heapq.heappush" ⟨[.ref a, .ref t], []⟩ := by unfold argsOk; kernel_rfl
theorem args_pop (a : Addr) : argsOk "_heapq.heappop" ⟨[.ref a], []⟩ := by unfold argsOk; kernel_rfl
section
variable {prog : Program} {w : World} {A : Around} {lt : Addr → Addr → Bool}
theorem push_run (O : Ord lt) {a t : Addr} {ts : List Addr} {s : Shared} {Q E : Value → Shared → Prop} (hz : ts.length < 1000) (hh : IsHeap lt ts) (hl : HL a s.heap ts)
    (hcmp : ∀ (h : Heap), Kept a s.heap h → ∀ t1 ∈ ts ++ [t], ∀ u ∈ ts ++ [t], PySem.SeqAt.RcLt A.in1 { s with heap := h } (.ref t1) (.ref u) (lt t1 u))
    (hR : ∀ (us : List Addr) (h : Heap), us.Perm (ts ++ [t]) → IsHeap lt us → Kept a s.heap h → HL a h us → Q .none { s with heap := h }) :
    wpAny (model prog w) A (call (.builtin "_heapq.heappush") [.ref a, .ref t]) Q E s := by
  refine wpAny_call (codeAny_call_builtin_code (plainId_quiet plain_push _) ?_)
  rw [show checkBuiltinCall "_heapq.heappush" ⟨[.ref a, .ref t], []⟩ = pure () from args_push a t]
  refine wpAny_pure (codeAny_builtin entry_push ?_)
  rw [Around.under_plainId plain_push _]
  unfold Builtin.«_heapq.heappush»
  refine wpAny_bind ?_
  show wpAny _ _ (_ >>= _) _ _ _
  refine wpAny_bind (wpAny_pure ?_)
  refine wpAny_bind (wpAny_pure ?_)
  have hl' := hl
  obtain ⟨n, hn⟩ := hl
  have hty : s.TypeIs (.ref a) "list" := ⟨_, hn, rfl⟩
  show wpAny _ _ (_ >>= _) _ _ _
  refine wpAny_bind ?_
  show wpAny _ _ (isInstance (.ref a) (.type "list") >>= _) _ _ _
  refine wpAny_bind (wpAny_isInstance (T := "list") hty F.sub_list_list ?_)
  rw [if_pos rfl]
  refine wpAny_pure (wpAny_pure ?_)
  show wpAny _ _ (_ >>= _) _ _ _
  refine wpAny_bind (wpAny_updateSeq hn rfl ?_ (by rw [List.size_toArray, List.length_map, sizeLine_eq]; omega) (by rw [Array.size_push, List.size_toArray, List.length_map, sizeLine_eq]; omega))
  have hl2 : HL a (s.heap.update a (Obj.mapSeq fun x => x.push (.ref t))) (ts ++ [t]) := hl'.upd (by simp)
  have hl3 := hl2
  obtain ⟨n2, hn2⟩ := hl2
  refine wpAny_bind ?_
  show wpAny _ _ (seqItems? (.ref a) >>= _) _ _ _
  refine wpAny_bind (wpAny_seqItems hn2 rfl ?_)
  refine wpAny_pure ?_
  refine wpAny_pure ⟨plainId_quiet plain_sift _, ?_⟩
  have esz : ((ts ++ [t]).map Value.ref).toArray.size - 1 = ts.length := by rw [List.size_toArray, List.length_map, List.length_append]; rfl
  rw [esz]
  have k0 : Kept a s.heap (s.heap.update a (Obj.mapSeq fun x => x.push (.ref t))) := Kept.upd fun b o _ e => e
  have up : Up lt (ts ++ [t]) ts.length := by
    have g : ∀ i, i < ts.length → at' (ts ++ [t]) i = at' ts i := fun i hi => by
      unfold at'
      rw [List.getD_eq_getElem?_getD, List.getD_eq_getElem?_getD, List.getElem?_append_left hi]
    refine ⟨fun i i0 il ne => ?_, fun p0 c c0 cl cp => ?_⟩
    · rw [List.length_append] at il
      have il' : i < ts.length := by
        have : [t].length = 1 := rfl
        omega
      rw [g i il', g _ (by omega)]
      exact hh i i0 il'
    · rw [List.length_append] at cl
      have : [t].length = 1 := rfl
      omega
  exact sift_up O (ts0 := ts ++ [t]) (s0 := s) (result := .none) (by rw [List.length_append]; show ts.length + 1 ≤ 1000; omega) hcmp hR ts.length ts.length (ts ++ [t]) _ (Nat.le_refl _) (List.Perm.refl _) up (by rw [List.length_append]; exact Nat.lt_succ_self _) hl3 k0
end
end Hk

namespace Hk
open PySem PySem.Spec PyProof.Rows
section
variable {prog : Program} {w : World} {A : Around} {lt : Addr → Addr → Bool}
theorem pop_run (O : Ord lt) {a : Addr} {ts : List Addr} {s : Shared} {Q E : Value → Shared → Prop} (hne : ts ≠ []) (hz : ts.length ≤ 1000) (hh : IsHeap lt ts) (hl : HL a s.heap ts)
    (hcmp : ∀ (h : Heap), Kept a s.heap h → ∀ t1 ∈ ts, ∀ u ∈ ts, PySem.SeqAt.RcLt A.in1 { s with heap := h } (.ref t1) (.ref u) (lt t1 u))
    (hR : ∀ (us : List Addr) (h : Heap), (at' ts 0 :: us).Perm ts → IsHeap lt us → Kept a s.heap h → HL a h us → Q (.ref (at' ts 0)) { s with heap := h }) :
    wpAny (model prog w) A (call (.builtin "_heapq.heappop") [.ref a]) Q E s := by
  refine wpAny_call (codeAny_call_builtin_code (plainId_quiet plain_pop _) ?_)
  rw [show checkBuiltinCall "_heapq.heappop" ⟨[.ref a], []⟩ = pure () from args_pop a]
  refine wpAny_pure (codeAny_builtin entry_pop ?_)
  rw [Around.under_plainId plain_pop _]
  unfold Builtin.«_heapq.heappop»
  have hl' := hl
  obtain ⟨n, hn⟩ := hl
  have hty : s.TypeIs (.ref a) "list" := ⟨_, hn, rfl⟩
  show wpAny _ _ (_ >>= _) _ _ _
  refine wpAny_bind ?_
  show wpAny _ _ (_ >>= _) _ _ _
  refine wpAny_bind ?_
  refine wpAny_pure ?_
  refine wpAny_bind ?_
  show wpAny _ _ (isInstance (.ref a) (.type "list") >>= _) _ _ _
  refine wpAny_bind (wpAny_isInstance (T := "list") hty F.sub_list_list ?_)
  rw [if_pos rfl]
  refine wpAny_pure (wpAny_pure ?_)
  show wpAny _ _ (_ >>= _) _ _ _
  refine wpAny_bind ?_
  show wpAny _ _ (seqItems? (.ref a) >>= _) _ _ _
  refine wpAny_bind (wpAny_seqItems hn rfl ?_)
  refine wpAny_pure ?_
  have k0 : Kept a s.heap (s.heap.update a (Obj.mapSeq fun x => x.pop)) := Kept.upd fun b o _ e => e
  have esz : (ts.map Value.ref).toArray.size = ts.length := by rw [List.size_toArray, List.length_map]
  have zsz : (ts.map Value.ref).toArray.size ≤ sizeLine := by rw [esz, sizeLine_eq]; omega
  have zpop : ((ts.map Value.ref).toArray.pop).size ≤ sizeLine + 1 := by rw [Array.size_pop, esz, sizeLine_eq]; omega
  rcases List.eq_nil_or_concat ts with e | ⟨ini, z, e⟩
  · exact absurd e hne
  have e' : ts = ini ++ [z] := by rw [e, List.concat_eq_append]
  have hb : (ts.map Value.ref).toArray.back? = some (.ref z) := by rw [e']; simp
  rw [hb]
  have hl2 : HL a (s.heap.update a (Obj.mapSeq fun x => x.pop)) ini := hl'.upd (by rw [e']; simp)
  have hl3 := hl2
  obtain ⟨n2, hn2⟩ := hl2
  refine wpAny_bind (wpAny_updateSeq hn rfl ?_ zsz zpop)
  cases ini with
  | nil =>
    have e1 : ts = [z] := e'
    rw [if_pos (by rw [esz, e1]; rfl)]
    refine wpAny_pure ?_
    have q := hR [] _ (by rw [e1]; exact List.Perm.refl _) (fun i _ il => absurd il (Nat.not_lt_zero _)) k0 hl3
    rw [e1] at q
    exact q
  | cons x mid =>
    have e1 : ts = x :: (mid ++ [z]) := e'
    have len : ts.length = mid.length + 2 := by
      rw [e1, List.length_cons, List.length_append]
      rfl
    rw [if_neg (by rw [esz, len]; simp)]
    refine wpAny_bind ?_
    show wpAny _ _ (match (ts.map Value.ref).toArray[0]? with | some v => pure v | none => _) _ _ _
    rw [arr_get (by omega : 0 < ts.length)]
    refine wpAny_pure ?_
    have hx : at' ts 0 = x := by rw [e1]; rfl
    refine wpAny_bind (wpAny_updateSeq hn2 rfl ?_ (by rw [List.size_toArray, List.length_map, sizeLine_eq, List.length_cons]; omega) (by rw [Array.size_setIfInBounds, List.size_toArray, List.length_map, sizeLine_eq, List.length_cons]; omega))
    refine wpAny_pure ⟨plainId_quiet plain_sift _, ?_⟩
    have hl4 : HL a ((s.heap.update a (Obj.mapSeq fun x => x.pop)).update a (Obj.mapSeq fun xs => xs.setIfInBounds 0 (.ref z))) (z :: mid) := hl3.upd (by apply Array.toList_inj.mp; simp)
    have k4 := k0.upd (f := fun xs => xs.setIfInBounds 0 (.ref z))
    have sub : ∀ t ∈ z :: mid, t ∈ ts := fun t ht => by
      rw [e1]
      rcases List.mem_cons.mp ht with c | c
      · rw [c]
        simp
      · simp [c]
    have g : ∀ i, 0 < i → i < (z :: mid).length → at' (z :: mid) i = at' ts i := fun i i0 hi => by
      rw [e1]
      unfold at'
      rw [List.getD_eq_getElem?_getD, List.getD_eq_getElem?_getD]
      cases i with
      | zero => omega
      | succ i =>
        rw [List.getElem?_cons_succ, List.getElem?_cons_succ, List.getElem?_append_left (by rw [List.length_cons] at hi; omega)]
    have dn : Dn lt (z :: mid) 0 := ⟨fun i i0 il _ ne => by
      rw [g i i0 il, g _ (by omega) (by omega)]
      exact hh i i0 (by rw [len]; rw [List.length_cons] at il; omega), fun p0 => absurd p0 (Nat.lt_irrefl 0)⟩
    have := sift_dn (prog := prog) (w := w) (A := A) O (ts0 := z :: mid) (s0 := s) (result := .ref (at' ts 0)) (R := fun r s' => match r with | .ok (.ret v) => Q v s' | .ok _ => False | .error e => E e s') (by rw [List.length_cons]; omega) (fun h kp t ht u hu => hcmp h kp t (sub t ht) u (sub u hu))
      (fun us h hp hi kp hlu => hR us h (by
        rw [hx, e1]
        exact List.Perm.cons _ (hp.trans (List.perm_append_comm (l₁ := [z]) (l₂ := mid)))) hi kp hlu)
      (z :: mid).length 0 (z :: mid) _ (by omega) (List.Perm.refl _) dn (by rw [List.length_cons]; omega) hl4 k4
    exact this
end
end Hk

namespace Kx
open PySem PySem.Spec PyProof.Rows L2
/-! ### entries of a heap: (value, row, number, place) -/
def entD (d1 : PyData) (rd : List PyData) (r p : Nat) : PyData := .tuple [d1, .tuple rd, .int (r : Int), .int (p : Int)]
def EntAt (K : PySem.W.Frag) (H : Hp) (t : Addr) (d1 : PyData) (rd : List PyData) (r p : Nat) : Prop :=
  ∃ (v : V) (row : Addr) (xs : List V), H t = some (.tup [v, .ref row, .int (r : Int), .int (p : Int)]) ∧ Dp K H v d1 ∧ FlatD d1 ∧ SqT K H row xs ∧ DpAll K H xs rd ∧ ∀ d ∈ rd, FlatD d
theorem ent_reads {X : Cx} {pins : List (Addr × Obj)} {σ : L2.St} {H : Hp} {s : Shared} (I : Inv X pins σ H s) {t : Addr} {d1 : PyData} {rd : List PyData} {r p : Nat} (e : EntAt X.K H t d1 rd r p) : Reads s.heap (.ref t) (entD d1 rd r p) [] := by
  obtain ⟨v, row, xs, h1, h2, h3, h4, h5, h6⟩ := e
  obtain ⟨its, rv, ⟨o, ho, hc, n, hd⟩, _⟩ := I.tuple (SqT.of h1)
  obtain ⟨its2, rv2, ⟨o2, ho2, hc2, n2, hd2⟩, _⟩ := I.tuple h4
  have q2 : ReadsAll s.heap its2 rd [] := flat_all h5 h6 rv2
  cases rv with
  | cons r1 rv =>
    cases rv with
    | cons r2 rv =>
      cases rv with
      | cons r3 rv =>
        cases rv with
        | cons r4 rv =>
          cases rv
          cases r2
          obtain ⟨t3, rfl⟩ := r3
          obtain ⟨t4, rfl⟩ := r4
          exact .tuple ho hc hd (.cons (flat_one h2 h3 r1) (.cons (.tuple ho2 hc2 hd2 q2) (.cons (.int _ _) (.cons (.int _ _) .nil))))
theorem refs_of : ∀ {ts : List Addr} {us : List Value}, Vals (ts.map V.ref) us → us = ts.map Value.ref
  | [], us, r => by
    cases r
    rfl
  | t :: ts, us, r => by
    cases r with
    | cons r1 r2 =>
      cases r1
      rw [refs_of r2]
      rfl
theorem of_refs : ∀ ts : List Addr, Vals (ts.map V.ref) (ts.map Value.ref)
  | [] => .nil
  | t :: ts => .cons rfl (of_refs ts)
def ltk (κ : Addr → PyData) (t u : Addr) : Bool := PySem.W.dataLt (κ t) (κ u)
theorem ltk_ord (κ : Addr → PyData) : Hk.Ord (ltk κ) := by
  exact ⟨fun a => (listOrd itemOrd).irrefl _, fun a b c h1 h2 => (listOrd itemOrd).trans _ _ _ h1 h2, fun a b c h => (listOrd itemOrd).negTrans _ _ _ h⟩
/-- the entries of a heap at ts -/
structure Ents (K : PySem.W.Frag) (H : Hp) (κ : Addr → PyData) (ts : List Addr) : Prop where
  ent : ∀ t ∈ ts, ∃ d1 rd r p, EntAt K H t d1 rd r p ∧ κ t = entD d1 rd r p
  alk : ∀ t ∈ ts, ∀ u ∈ ts, PySem.W.alike (κ t) (κ u) = true
theorem flat_depth {d : PyData} (h : FlatD d) : PyData.depth d = 0 := by
  rcases h with ⟨i, rfl⟩ | ⟨x, rfl⟩ <;> simp [PyData.depth]
theorem flat_depths : ∀ {ds : List PyData}, (∀ d ∈ ds, FlatD d) → PyData.depthAll ds = 0
  | [], _ => by simp [PyData.depthAll]
  | d :: ds, h => by
    rw [PyData.depthAll, flat_depth (h d List.mem_cons_self), flat_depths fun x hx => h x (List.mem_cons_of_mem _ hx)]
    rfl
theorem ent_depth {d1 : PyData} {rd : List PyData} {r p : Nat} (h : FlatD d1) (hr : ∀ d ∈ rd, FlatD d) : (entD d1 rd r p).depth ≤ 2 := by
  simp [entD, PyData.depth, PyData.depthAll, flat_depth h, flat_depths hr]
theorem ents_lt {X : Cx} {pins : List (Addr × Obj)} {σ : L2.St} {H : Hp} {s : Shared} (I : Inv X pins σ H s) (hu : X.A.units + 64 < cLine) {a : Addr} {κ : Addr → PyData} {ts : List Addr} (E : Ents X.K H κ ts) (hl : ∀ o, s.heap.get? a = some o → o.cls = .type "list") :
    ∀ (h : Heap), Hk.Kept a s.heap h → ∀ t ∈ ts, ∀ u ∈ ts, PySem.SeqAt.RcLt X.A.in1 { s with heap := h } (.ref t) (.ref u) (ltk κ t u) := by
  intro h kp t ht u hu2
  obtain ⟨d1, rd, r, p, e1, k1⟩ := E.ent t ht
  obtain ⟨d2, rd2, r2, p2, e2, k2⟩ := E.ent u hu2
  have a1 := E.alk t ht t ht
  have a2 := E.alk u hu2 u hu2
  have a3 := E.alk t ht u hu2
  have q1 := PySem.W.Reads.keepBut (a := a) kp hl _ _ _ (by rw [← k1]; exact a1) (ent_reads I e1) (by simp)
  have q2 := PySem.W.Reads.keepBut (a := a) kp hl _ _ _ (by rw [← k2]; exact a2) (ent_reads I e2) (by simp)
  unfold ltk
  rw [k1, k2] at a3 ⊢
  obtain ⟨_, _, _, _, _, f1, _, _, f2⟩ := e1
  have dd := ent_depth (r := r) (p := p) f1 f2
  exact PySem.W.rcLt_alike _ _ _ _ _ _ _ _ q1 q2 a3 (by intro z; cases z) (by
    show X.A.units + 1 + min _ _ < cLine
    omega)
def rPush (K : PySem.W.Frag) : List V → Hp → VK → Prop := fun vs H Q => ∃ (a t : Addr) (ts : List Addr) (κ : Addr → PyData), vs = [.ref a, .ref t] ∧ H a = some (.lst (ts.map V.ref)) ∧ ts.length < 1000 ∧ Hk.IsHeap (ltk κ) ts ∧ Ents K H κ (ts ++ [t]) ∧
  ∀ us : List Addr, us.Perm (ts ++ [t]) → Hk.IsHeap (ltk κ) us → Q .non (upd H a (.lst (us.map V.ref)))
def rPop (K : PySem.W.Frag) : List V → Hp → VK → Prop := fun vs H Q => ∃ (a : Addr) (ts : List Addr) (κ : Addr → PyData), vs = [.ref a] ∧ H a = some (.lst (ts.map V.ref)) ∧ ts ≠ [] ∧ ts.length ≤ 1000 ∧ Hk.IsHeap (ltk κ) ts ∧ Ents K H κ ts ∧
  ∀ (t : Addr) (us : List Addr), (t :: us).Perm ts → Hk.IsHeap (ltk κ) us → (∀ u ∈ ts, ltk κ u t = false) → Q (.ref t) (upd H a (.lst (us.map V.ref)))
section
variable {X : Cx}
theorem list_hl {pins : List (Addr × Obj)} {σ : L2.St} {H : Hp} {s : Shared} (I : Inv X pins σ H s) {a : Addr} {ts : List Addr} (e : H a = some (.lst (ts.map V.ref))) : Hk.HL a s.heap ts := by
  obtain ⟨z, its, n, r, q⟩ := (show ObjOk X.prog X.w H s.heap a (.lst (ts.map V.ref)) from I.hok a _ e)
  rw [refs_of r] at q
  exact ⟨n, q⟩
theorem put_hl {pins : List (Addr × Obj)} {σ : L2.St} {H : Hp} {s : Shared} (I : Inv X pins σ H s) {a : Addr} {ts us : List Addr} {h : Heap} (e : H a = some (.lst (ts.map V.ref))) (kp : Hk.Kept a s.heap h) (hl : Hk.HL a h us) (hz : us.length ≤ 1000) : Inv X pins σ (upd H a (.lst (us.map V.ref))) { s with heap := h } := by
  obtain ⟨n, hn⟩ := hl
  refine I.write (t' := s.toks) (x := a) (e := a) (by rw [e]; trivial) (.inl rfl) kp ⟨_, hn⟩ ⟨?_, us.map Value.ref, n, of_refs us, hn⟩
  rw [List.length_map, sizeLine_eq]
  omega
theorem cr_push (hu : X.A.units + 64 < cLine) : CallR X (.builtin "_heapq.heappush") (rPush X.K) := by
  intro pins s σ H vs us Q I r h
  obtain ⟨a, t, ts, κ, rfl, ea, hz, hh, E, q⟩ := h
  have e1 : us = [.ref a, .ref t] := refs_of (ts := [a, t]) r
  subst e1
  have hl := list_hl I ea
  refine Hk.push_run (ltk_ord κ) hz hh hl (ents_lt I hu E fun o e => ?_) fun us h hp hi kp hl2 => ?_
  · obtain ⟨n, hn⟩ := hl
    rw [hn] at e
    cases e
    rfl
  · have hz2 : us.length ≤ 1000 := by
      rw [hp.length_eq, List.length_append]
      show ts.length + 1 ≤ 1000
      omega
    exact ⟨.non, _, put_hl I ea kp hl2 hz2, rfl, q us hp hi⟩
theorem cr_pop (hu : X.A.units + 64 < cLine) : CallR X (.builtin "_heapq.heappop") (rPop X.K) := by
  intro pins s σ H vs us Q I r h
  obtain ⟨a, ts, κ, rfl, ea, hne, hz, hh, E, q⟩ := h
  have e1 : us = [.ref a] := refs_of (ts := [a]) r
  subst e1
  have hl := list_hl I ea
  refine Hk.pop_run (ltk_ord κ) hne hz hh hl (ents_lt I hu E fun o e => ?_) fun us h hp hi kp hl2 => ?_
  · obtain ⟨n, hn⟩ := hl
    rw [hn] at e
    cases e
    rfl
  · have hz2 : us.length ≤ 1000 := by
      have := hp.length_eq
      rw [List.length_cons] at this
      omega
    refine ⟨.ref (Hk.at' ts 0), _, put_hl I ea kp hl2 hz2, rfl, q _ us hp hi fun u hu3 => ?_⟩
    obtain ⟨i, hi2, ei⟩ := List.getElem_of_mem hu3
    have hm := Hk.heap_min (ltk_ord κ) hh i hi2
    have : Hk.at' ts i = u := by
      have e2 := Hk.at_get hi2
      rw [List.getElem?_eq_getElem hi2, ei] at e2
      cases e2
      rfl
    rw [this] at hm
    exact hm
end
end Kx

namespace Kx
open PySem PySem.Spec PyProof.Rows L2
def topS (i : Nat) : Stmt := PySem.Challenge.pw_countedonce_k19_sorting_in_runs.main.body.getD i (.Pass ⟨0, 0, 0, 0⟩)
abbrev sCell : Stmt := topS 11
abbrev sDraw : Stmt := topS 12
abbrev sNumb : Stmt := topS 13
abbrev sNext : Stmt := topS 14
abbrev sPick : Stmt := topS 15
section
variable {P : Program} {w : World} {K : PySem.W.Frag} {mg : Str → Option Value} {base : Heap}
/-- a def of the top that keeps a promise, and may be called by its name -/
structure Ready (P : Program) (w : World) (K : PySem.W.Frag) (mg : Str → Option Value) (base : Heap) (k : Nat) (x : Str) (ps : List Str) (sp : Sp) : Prop where
  ex : ∃ f fd, FnOk P w K mg base CX0 k f fd ps sp ∧ Binds K fd ps [] ∧ mg x = some (.ref f) ∧ PySem.W.keepIn K (.ref f) = true
end
theorem pe_fn {X : Cx} {k : Nat} {x : Str} {ps : List Str} {sp : Sp} {p pos : Pos} {e : Expr} {es : List Expr} {t : TA} (G : Ready X.prog X.w X.K X.mg X.base k x ps sp) (hr : Room k X.A) (ha : PA X (e :: es) t) (hg : Gl X x := by rfl)
    (hdb : (x == ("__debug__" : Str)) = false := by decide) (he : starEach (e :: es) X.env = (false, eval e X.env) :: starEach es X.env := by rfl) (hpl : (backTo pos (starEach es X.env)).any (·.1) = false := by rfl) :
    PE X (.Call (.Name x p) (e :: es) [] pos) (tCall sp [] E0 t) := by
  obtain ⟨f, fd, h, hb, hm, hk⟩ := G.ex
  exact pe_call h hr hg hm hk hb .nil pass0 ha hdb he hpl
/-- all that was tracked is as it was, but what stands at d -/
def But (d : Addr) (H H' : Hp) : Prop := ∀ b o, b ≠ d → H b = some o → H' b = some o
theorem But.refl (d : Addr) (H : Hp) : But d H H := fun _ _ _ h => h
theorem But.trans {d : Addr} {H H1 H2 : Hp} (a : But d H H1) (b : But d H1 H2) : But d H H2 := fun c o n h => b c o n (a c o n h)
theorem same_but {d : Addr} {H H' : Hp} (a : Same H H') : But d H H' := fun c o _ h => a c o h
theorem same_upd {H : Hp} {p : Addr} {o : HO} (h : H p = none) : Same H (upd H p o) := fun b x e => by
  rw [upd_ne (ne_of_none e h)]
  exact e
section
variable {P : Program} {w : World} {K : PySem.W.Frag} {mg : Str → Option Value} {base : Heap}
/-! ### the law's draws -/
def spCell (K : PySem.W.Frag) : Sp := fun vs H Q _ => ∃ (a : Addr) (ns : List Int) (k : Int), vs = [.ref a, .int k] ∧ SqL K H a (ns.map V.int) ∧ 0 ≤ k ∧ ∀ c : Int, Q (.int c) H
theorem sc_cell : FnScope ["script", "k"] ["script", "k"] (defScope sCell) := ⟨rfl, rfl, rfl, by decide +kernel, rfl, by decide +kernel, by decide +kernel⟩
theorem ok_cell {f : Addr} {fd : FuncData} (F : Fun K "_law_cell_at" "_law_cell_at" sCell f fd) (m_len : mg "len" = none) : FnOk P w K mg base CX0 1 f fd ["script", "k"] (spCell K) := by
  refine F.ok sc_cell (fun vs H Q E h => ?_) (fun cdv A outer s H vs Q E hr h => ?_)
  · obtain ⟨a, ns, k, rfl, _⟩ := h
    rfl
  obtain ⟨a, ns, k, rfl, hS, h0, q⟩ := h
  refine ⟨_, pss_cons (ps_if (pt_cmpR op_lt (pv 1) (pe_callB call_len_seq (by rfl) m_len PySem.boot_len (pa_cons (pv 0) pa_nil)) (nomark _)) (pss_one (ps_ret (pe_ix ix_list (pv 0) (pv 1) (fun _ _ => rfl)))) (pss_nil))
      (pss_one (ps_ret pe_int)), ?_⟩
  refine ⟨_, rfl, _, rfl, a, _, rfl, .inl hS, _, _, rfl, rfl, _, rfl, ?_⟩
  refine ite2 (fun c => ?_) (fun c => q 0)
  have c' : k < ((ns.map V.int).length : Int) := of_decide_eq_true c
  have ek : k = ((k.toNat : Nat) : Int) := by omega
  have hk : k.toNat < ns.length := by rw [List.length_map] at c'; omega
  have ha : atI (ns.map V.int) ((k.toNat : Nat) : Int) = some (.int ns[k.toNat]) := atI_nat (by rw [List.getElem?_map, List.getElem?_eq_getElem hk] <;> rfl)
  rw [← ek] at ha
  exact ⟨_, rfl, _, rfl, a, _, _, _, rfl, rfl, hS, ha, q _⟩
def spDraw : Sp := fun vs H Q _ => ∃ (c k b : Int), vs = [.int c, .int k, .int b] ∧ 0 < b ∧ ∀ (r : Int) (H' : Hp), 0 ≤ r → r < b → Same H H' → Q (.int r) H'
theorem sc_draw : FnScope ["cell", "k", "bound", "primes"] ["cell", "k", "bound"] (defScope sDraw) := ⟨rfl, rfl, rfl, by decide +kernel, rfl, by decide +kernel, by decide +kernel⟩
def primesL : List Int := [1000003, 1000033, 1000037, 1000039, 1000081, 1000099, 1000117, 1000121, 1000133, 1000151, 1000159, 1000171, 1000183, 1000187, 1000193, 1000199]
theorem primes_at {i : Int} (h0 : 0 ≤ i) (h : i < 16) : ∃ p : Int, 0 < p ∧ atI (primesL.map V.int) i = some (.int p) := by
  have ei : i = ((i.toNat : Nat) : Int) := by omega
  have hk : i.toNat < primesL.length := by show i.toNat < 16; omega
  refine ⟨primesL[i.toNat], ?_, ?_⟩
  · have : ∀ x ∈ primesL, (0 : Int) < x := by decide
    exact this _ (List.getElem_mem hk)
  · have q : atI (primesL.map V.int) ((i.toNat : Nat) : Int) = some (.int primesL[i.toNat]) := atI_nat (by rw [List.getElem?_map, List.getElem?_eq_getElem hk] <;> rfl)
    rw [← ei] at q
    exact q
theorem ok_draw {f : Addr} {fd : FuncData} (F : Fun K "_law_draw" "_law_draw" sDraw f fd) (m_int : mg "int" = none) : FnOk P w K mg base CX0 1 f fd ["cell", "k", "bound"] spDraw := by
  refine F.ok sc_draw (fun vs H Q E h => ?_) (fun cdv A outer s H vs Q E hr h => ?_)
  · obtain ⟨c, k, b, rfl, _⟩ := h
    rfl
  obtain ⟨c, k, b, rfl, hb, q⟩ := h
  have nd := sc_draw.nd
  refine ⟨_, pss_cons (ps_set (i := 3) nd rfl (.inl rfl) (pe_tup (pa_cons pe_int (pa_cons pe_int (pa_cons pe_int (pa_cons pe_int (pa_cons pe_int (pa_cons pe_int (pa_cons pe_int (pa_cons pe_int (pa_cons pe_int (pa_cons pe_int (pa_cons pe_int (pa_cons pe_int (pa_cons pe_int (pa_cons pe_int (pa_cons pe_int (pa_cons pe_int pa_nil))))))))))))))))))
      (pss_one (ps_ret (pe_op op_mod (pe_op op_mod (pe_callTy call_int1 (by rfl) m_int boot_int (pa_cons (pe_op op_add (pe_op op_mul (pv 0) pe_int) (pe_op op_mul (pv 1) pe_int)) pa_nil)) (pe_ix ix_tup (pv 3) (pe_op op_mod (pe_callTy call_int1 (by rfl) m_int boot_int (pa_cons (pv 1) pa_nil)) pe_int) (fun _ _ => rfl))) (pv 2)))), ?_⟩
  refine ⟨by show 16 ≤ sizeLine; decide, fun t ht => ?_⟩
  obtain ⟨p, hp, hat⟩ := primes_at (i := k % 16) (by omega) (by omega)
  refine ⟨_, rfl, _, _, rfl, rfl, .inr (by show _ ∧ _; decide), _, rfl, _, _, rfl, rfl, .inr (by show _ ∧ _; decide), _, _, rfl, rfl, .inl ⟨_, rfl, ?_⟩⟩
  refine ⟨_, rfl, _, rfl, .inl ⟨_, rfl, _, _, rfl, rfl, (by show (0 : Int) < 16; decide), ?_⟩⟩
  refine ⟨t, primesL.map V.int, _, _, rfl, rfl, SqT.of upd_same, hat, _, _, rfl, rfl, hp, _, rfl, _, _, rfl, rfl, hb, ?_⟩
  exact q _ _ (Int.emod_nonneg _ (by omega)) (Int.emod_lt_of_pos _ hb) (same_upd ht)
end
end Kx

namespace Kx
open PySem PySem.Spec PyProof.Rows L2
section
variable {P : Program} {w : World} {K : PySem.W.Frag} {mg : Str → Option Value} {base : Heap}
theorem pow_lt : ∀ i : Nat, i < 24 → (1009 ^ i : Nat) < 2 ^ 240 := by decide +kernel
theorem sc_numb : FnScope ["cell", "k", "bound", "power", "lap", "remains", "small"] ["cell", "k", "bound"] (defScope sNumb) := ⟨rfl, rfl, rfl, by decide +kernel, rfl, by decide +kernel, by decide +kernel⟩
def spNumb : Sp := fun vs H Q _ => ∃ (c k b : Int), vs = [.int c, .int k, .int b] ∧ 0 ≤ k ∧ k ≤ 100 ∧ 0 < b ∧ ∀ (r : Int) (H' : Hp), 0 ≤ r → r < b → Same H H' → Q (.int r) H'
theorem ok_numb {f : Addr} {fd : FuncData} (F : Fun K "_law_number" "_law_number" sNumb f fd) (m_int : mg "int" = none) (m_range : mg "range" = none) (G_law_draw : Ready P w K mg base 1 "_law_draw" ["cell", "k", "bound"] spDraw) :
    FnOk P w K mg base CX0 2 f fd ["cell", "k", "bound"] spNumb := by
  refine F.ok sc_numb (fun vs H Q E h => ?_) (fun cdv A outer s H vs Q E hr h => ?_)
  · obtain ⟨c, k, b, rfl, _⟩ := h
    rfl
  obtain ⟨c, k, b, rfl, k0, k1, hb, q⟩ := h
  have nd := sc_numb.nd
  refine ⟨_, pss_cons (ps_set (i := 3) nd rfl (.inl rfl) pe_int)
      (pss_cons (ps_for PassesOwn.never rfl (pi_range1 rfl m_range (pa_cons (pe_op op_mod (pe_callTy call_int1 (by rfl) m_int boot_int (pa_cons (pv 1) pa_nil)) pe_int) pa_nil)) (pg_name (i := 4) nd rfl (.inl rfl)) (pss_one (ps_set (i := 3) nd rfl (.inl rfl) (pe_op op_mul (pv 3) pe_int))))
      (pss_cons (ps_set (i := 5) nd rfl (.inl rfl) (pe_op op_fdivW (pe_op op_sub (pv 0) (pe_op op_pow pe_int pe_int)) (pv 3)))
      (pss_cons (ps_if (pt_cmpR op_gt (pv 5) pe_int (nomark _)) (pss_one (ps_ret (pe_op op_mod (pe_op op_mod (pe_callTy call_int1 (by rfl) m_int boot_int (pa_cons (pv 5) pa_nil)) pe_int) (pv 2)))) (pss_nil))
      (pss_cons (ps_set (i := 6) nd rfl (.inl rfl) (pe_op op_mod (pe_callTy call_int1 (by rfl) m_int boot_int (pa_cons (pv 0) pa_nil)) pe_int))
      (pss_one (ps_ret (pe_op op_mod (pe_fn (G_law_draw) (hr.mono (by decide)) (pa_cons (pe_op op_mul (pe_op op_add (pv 6) (pe_op op_mul pe_int (pv 1))) (pe_op op_add (pe_op op_add (pv 6) (pe_op op_mul pe_int (pv 1))) pe_int)) (pa_cons (pe_op op_add (pe_op op_mod (pe_callTy call_int1 (by rfl) m_int boot_int (pa_cons (pv 1) pa_nil)) pe_int) pe_int) (pa_cons pe_int pa_nil)))) (pv 2)))))))), ?_⟩
  refine ⟨_, rfl, .inl ⟨_, rfl, _, _, rfl, rfl, (by show (0 : Int) < 24; decide), _, rfl, by omega, by omega, ?_⟩⟩
  have m0 : 0 ≤ k % 24 := Int.emod_nonneg _ (by omega)
  have m1 : k % 24 < 24 := Int.emod_lt_of_pos _ (by omega)
  refine for_range (fun i σ H' => ∃ y4, σ = [some (.int c), some (.int k), some (.int b), some (.int ((1009 ^ i : Nat) : Int)), y4, none, none] ∧ H' = H) ⟨none, rfl, rfl⟩ ?_ ?_
  · rintro i σ H' hi ⟨y4, rfl, rfl⟩
    refine ⟨_, rfl, _, _, rfl, rfl, .inr (by show _ ∧ _; decide), ?_⟩
    refine ⟨some (.int (0 + (i : Nat))), ?_, rfl⟩
    rw [Nat.pow_succ, Int.natCast_mul]
    rfl
  · rintro σ H' ⟨y4, rfl, rfl⟩
    have hj : (k % 24).toNat < 24 := by omega
    have hp := pow_lt _ hj
    have hp0 : 0 < (1009 ^ (k % 24).toNat : Nat) := Nat.pow_pos (by decide)
    generalize (1009 ^ (k % 24).toNat : Nat) = pw at hp hp0
    refine ⟨_, rfl, _, _, rfl, rfl, (by show _ ∧ _ ∧ _; decide), _, _, rfl, rfl, _, rfl, _, _, rfl, rfl, wide_div (b := 240) (by omega) (by omega) (by decide) (by decide), ?_⟩
    refine ⟨_, rfl, _, _, rfl, rfl, _, rfl, ?_⟩
    refine ite2 (fun _ => ?_) (fun _ => ?_)
    · refine ⟨_, rfl, .inl ⟨_, rfl, _, _, rfl, rfl, (by show (0 : Int) < 1009; decide), _, rfl, _, _, rfl, rfl, hb, ?_⟩⟩
      exact q _ _ (Int.emod_nonneg _ (by omega)) (Int.emod_lt_of_pos _ hb) (Same.refl _)
    · refine ⟨_, rfl, .inl ⟨_, rfl, _, _, rfl, rfl, (by show (0 : Int) < 1000003; decide), ?_⟩⟩
      have s0 : 0 ≤ c % 1000003 := Int.emod_nonneg _ (by omega)
      have s1 : c % 1000003 < 1000003 := Int.emod_lt_of_pos _ (by omega)
      refine ⟨_, rfl, _, rfl, _, _, rfl, rfl, .inl (by show _ ∧ _; decide), _, _, rfl, rfl, ?_⟩
      refine ⟨_, rfl, _, rfl, _, _, rfl, rfl, .inl (by show _ ∧ _; decide), _, _, rfl, rfl, _, _, rfl, rfl, _, _, rfl, rfl, .inl (by show _ ∧ _; omega), ?_⟩
      refine ⟨_, rfl, .inl ⟨_, rfl, _, _, rfl, rfl, (by show (0 : Int) < 9; decide), _, _, rfl, rfl, _, _, _, rfl, by decide, fun r H2 r0 r1 sm => ?_⟩⟩
      refine ⟨_, rfl, _, _, rfl, rfl, hb, ?_⟩
      exact q _ _ (Int.emod_nonneg _ (by omega)) (Int.emod_lt_of_pos _ hb) sm
/-- the three things of a draw: the script's first cells, where it begins, how many were drawn -/
structure DrawAt (H : Hp) (d s : Addr) (ns : List Int) (n : Int) : Prop where
  at_d : H d = some (.lst [.ref s, .int 0, .int n])
  at_s : H s = some (.lst (ns.map V.int))
  n0 : 0 ≤ n
theorem DrawAt.ne {H : Hp} {d s : Addr} {ns : List Int} {n : Int} (D : DrawAt H d s ns n) : s ≠ d := fun e => by
  have a := D.at_s
  rw [e, D.at_d] at a
  cases ns with
  | nil => cases a
  | cons x r => cases a
theorem DrawAt.keep {H H' : Hp} {d s : Addr} {ns : List Int} {n : Int} (D : DrawAt H d s ns n) (h : Same H H') : DrawAt H' d s ns n := ⟨h _ _ D.at_d, h _ _ D.at_s, D.n0⟩
def spNext : Sp := fun vs H Q _ => ∃ (d s : Addr) (ns : List Int) (n b : Int), vs = [.ref d, .int b] ∧ DrawAt H d s ns n ∧ 0 < b ∧ ∀ (r : Int) (H' : Hp), 0 ≤ r → r < b → But d H H' → DrawAt H' d s ns (n + 1) → Q (.int r) H'
theorem sc_next : FnScope ["draw", "bound", "at", "cell"] ["draw", "bound"] (defScope sNext) := ⟨rfl, rfl, rfl, by decide +kernel, rfl, by decide +kernel, by decide +kernel⟩
theorem ok_next {f : Addr} {fd : FuncData} (F : Fun K "_law_next" "_law_next" sNext f fd) (m_int : mg "int" = none) (G_law_cell_at : Ready P w K mg base 1 "_law_cell_at" ["script", "k"] (spCell K)) (G_law_number : Ready P w K mg base 2 "_law_number" ["cell", "k", "bound"] spNumb) :
    FnOk P w K mg base CX0 3 f fd ["draw", "bound"] spNext := by
  refine F.ok sc_next (fun vs H Q E h => ?_) (fun cdv A outer s H vs Q E hr h => ?_)
  · obtain ⟨d, s, ns, n, b, rfl, _⟩ := h
    rfl
  obtain ⟨d, s, ns, n, b, rfl, D, hb, q⟩ := h
  have nd := sc_next.nd
  refine ⟨_, pss_cons (ps_asg (pe_op op_add (pe_ix ix_list (pv 0) pe_int (fun _ _ => rfl)) pe_int) (pg_sub (pv 0) pe_int set_list))
      (pss_cons (ps_set (i := 2) nd rfl (.inl rfl) (pe_op op_fdiv (pe_ix ix_list (pv 0) pe_int (fun _ _ => rfl)) pe_int))
      (pss_cons (ps_set (i := 3) nd rfl (.inl rfl) (pe_op op_add (pe_fn (G_law_cell_at) (hr.mono (by decide)) (pa_cons (pe_ix ix_list (pv 0) pe_int (fun _ _ => rfl)) (pa_cons (pe_op op_add (pe_ix ix_list (pv 0) pe_int (fun _ _ => rfl)) (pv 2)) pa_nil))) (pe_op op_mul pe_int (pv 2))))
      (pss_one (ps_ret (pe_fn (G_law_number) (hr.mono (by decide)) (pa_cons (pv 3) (pa_cons (pe_op op_add (pe_op op_mod (pe_callTy call_int1 (by rfl) m_int boot_int (pa_cons (pe_ix ix_list (pv 0) pe_int (fun _ _ => rfl)) pa_nil)) pe_int) pe_int) (pa_cons (pv 1) pa_nil)))))))), ?_⟩
  refine ⟨_, rfl, d, _, 2, _, rfl, rfl, SqL.of D.at_d, rfl, _, _, rfl, rfl, _, rfl, d, _, _, _, rfl, rfl, D.at_d, rfl, ?_⟩
  have D1 : DrawAt (upd H d (.lst [.ref s, .int 0, .int (n + 1)])) d s ns (n + 1) := ⟨upd_same, by rw [upd_ne D.ne]; exact D.at_s, by have := D.n0; omega⟩
  have b1 : But d H (upd H d (.lst [.ref s, .int 0, .int (n + 1)])) := fun c o hc e => by rw [upd_ne hc]; exact e
  have n0 := D1.n0
  refine ⟨_, rfl, d, _, 2, _, rfl, rfl, SqL.of D1.at_d, rfl, _, _, rfl, rfl, (by show _ ∧ _; decide), ?_⟩
  refine ⟨_, rfl, d, _, 0, _, rfl, rfl, SqL.of D1.at_d, rfl, _, rfl, d, _, 1, _, rfl, rfl, SqL.of D1.at_d, rfl, _, rfl, _, _, rfl, rfl, s, ns, _, rfl, SqL.of D1.at_s, by omega, fun c => ?_⟩
  refine ⟨_, rfl, _, _, rfl, rfl, .inl (by show _ ∧ _; decide), _, _, rfl, rfl, ?_⟩
  refine ⟨_, rfl, _, rfl, d, _, 2, _, rfl, rfl, SqL.of D1.at_d, rfl, .inl ⟨_, rfl, _, _, rfl, rfl, (by show (0 : Int) < 12; decide), _, _, rfl, rfl, _, rfl, ?_⟩⟩
  refine ⟨_, _, _, rfl, by omega, by omega, hb, fun r H' r0 r1 sm => ?_⟩
  exact q r H' r0 r1 (b1.trans (same_but sm)) (D1.keep sm)
/-- a list or a tuple of values -/
def Seq (K : PySem.W.Frag) (H : Hp) (a : Addr) (xs : List V) : Prop := SqL K H a xs ∨ SqT K H a xs
theorem nth {xs : List V} {r : Int} (h0 : 0 ≤ r) (h1 : r < (xs.length : Int)) : ∃ v, v ∈ xs ∧ atI xs r = some v := by
  have er : r = ((r.toNat : Nat) : Int) := by omega
  have hk : r.toNat < xs.length := by omega
  have q : atI xs ((r.toNat : Nat) : Int) = some xs[r.toNat] := atI_nat (List.getElem?_eq_getElem hk)
  rw [← er] at q
  exact ⟨_, List.getElem_mem hk, q⟩
theorem But.sqT {H H' : Hp} {d a : Addr} {xs : List V} (h : But d H H') (hd : ∃ l, H d = some (.lst l)) (q : SqT K H a xs) : SqT K H' a xs := by
  rcases q with (q | ⟨o, q⟩) | q
  · refine .inl (.inl (h _ _ (fun e => ?_) q))
    obtain ⟨l, hl⟩ := hd
    rw [e, hl] at q
    cases q
  · refine .inl (.inr ⟨o, h _ _ (fun e => ?_) q⟩)
    obtain ⟨l, hl⟩ := hd
    rw [e, hl] at q
    cases q
  · exact .inr q
def spPick (K : PySem.W.Frag) : Sp := fun vs H Q _ => ∃ (d s t : Addr) (ns : List Int) (n : Int) (xs : List V), vs = [.ref d, .ref t] ∧ DrawAt H d s ns n ∧ t ≠ d ∧ Seq K H t xs ∧ xs ≠ [] ∧ ∀ (v : V) (H' : Hp), v ∈ xs → But d H H' → DrawAt H' d s ns (n + 1) → Q v H'
theorem sc_pick : FnScope ["draw", "things"] ["draw", "things"] (defScope sPick) := ⟨rfl, rfl, rfl, by decide +kernel, rfl, by decide +kernel, by decide +kernel⟩
theorem But.seq {H H' : Hp} {d a : Addr} {xs : List V} (h : But d H H') (hd : a ≠ d) (q : Seq K H a xs) : Seq K H' a xs := by
  rcases q with ((q | ⟨o, q⟩) | q) | ((q | ⟨o, q⟩) | q)
  · exact .inl (.inl (.inl (h _ _ hd q)))
  · exact .inl (.inl (.inr ⟨o, h _ _ hd q⟩))
  · exact .inl (.inr q)
  · exact .inr (.inl (.inl (h _ _ hd q)))
  · exact .inr (.inl (.inr ⟨o, h _ _ hd q⟩))
  · exact .inr (.inr q)
theorem ok_pick {f : Addr} {fd : FuncData} (F : Fun K "_law_pick" "_law_pick" sPick f fd) (m_len : mg "len" = none) (G_law_next : Ready P w K mg base 3 "_law_next" ["draw", "bound"] spNext) :
    FnOk P w K mg base CX0 4 f fd ["draw", "things"] (spPick K) := by
  refine F.ok sc_pick (fun vs H Q E h => ?_) (fun cdv A outer s H vs Q E hr h => ?_)
  · obtain ⟨d, s, t, ns, n, xs, rfl, _⟩ := h
    rfl
  obtain ⟨d, s, t, ns, n, xs, rfl, D, td, hS, hne, q⟩ := h
  have nd := sc_pick.nd
  refine ⟨_, pss_one (ps_ret (pe_ix ix_seq (pv 1) (pe_fn (G_law_next) (hr.mono (by decide)) (pa_cons (pv 0) (pa_cons (pe_callB call_len_seq (by rfl) m_len PySem.boot_len (pa_cons (pv 1) pa_nil)) pa_nil))) (fun _ _ => rfl))), ?_⟩
  have hl : 0 < (xs.length : Int) := by
    have := List.length_pos_iff.mpr hne
    omega
  refine ⟨_, rfl, _, rfl, _, rfl, t, xs, rfl, hS, d, s, ns, n, _, rfl, D, hl, fun r H' r0 r1 bt D' => ?_⟩
  obtain ⟨v, hv, hat⟩ := nth r0 r1
  rcases bt.seq td hS with hL | hT
  · exact .inl ⟨t, xs, _, _, rfl, rfl, hL, hat, q _ _ hv bt D'⟩
  · exact .inr (.inl ⟨t, xs, _, _, rfl, rfl, hT, hat, q _ _ hv bt D'⟩)
end
end Kx

namespace PySem
namespace BadX
open PySem.W PySem.Calls PyProof.Rows PySem.HandSPX
/-! ### self.thing = v on an exception that has no dict yet -/
abbrev exT : List Value := [.type "Exception", .type "BaseException", .type "object"]
section
open Builtin Builtin.ObjectAttr
variable {prog : Program} {w : World} {A : Around} {R : Result → Shared → Prop} {hp : Heap} {g : Array GenState} {d : Drawn} {t : Nat} {os : OsState}
theorem osa_first {K : Frag} {name : Str} {tk : Tok} {v : Value} {x C : Addr} {fv : Array Value} {cd : ClassData} {bm : List Value}
    (X : K.In hp) (ho : hp.get? x = some { cls := .ref C, data := .fields fv }) (hc : clsIn K C = some cd) (ht : excTail exT bm = true) (hm : cd.mro = .ref C :: bm) (hh : cd.hasDict = true) (hn : findIn K (.ref C) name = some none)
    (q : ∀ h' tk' dx, (∀ b o, b ≠ x → hp.get? b = some o → h'.get? b = some o) → hp.objs.size ≤ dx → dx ≠ x → h'.get? x = some { cls := .ref C, dict := some dx, data := .fields fv } → h'.Ns1 dx (fun y => if y = name then some v else none) → R (.ok (.ret .none)) ⟨h', g, d, tk', os⟩) :
    codeAny (model prog w) A (.call (.builtin "object.__setattr__") ⟨[.ref x, .str name tk, v], []⟩) R ⟨hp, g, d, t, os⟩ := by
  have over : excOver K C exT = true := by
    unfold excOver
    rw [hc]
    show (match cd.mro with | .ref C' :: bm => C' == C && excTail exT bm | _ => false) = true
    rw [hm]
    show (C == C && excTail exT bm) = true
    rw [ht, beq_self_eq_true] <;> rfl
  have free : takerIn K C name = some none := by
    unfold takerIn
    rw [hn] <;> rfl
  have apart : hp.objs.size ≠ x := fun z => absurd (Heap.lt_size ho) (by rw [z]; exact Nat.lt_irrefl _)
  refine osa_openX (s := ⟨hp, g, d, t, os⟩) F.store_Exception X (ox := { cls := .ref C, data := .fields fv }) (od := none) ⟨ho, rfl, rfl, trivial⟩ over free fun b => ?_
  have look : Looks (model prog w) hp (classData C) cd := looks_clsIn X hc
  obtain ⟨c1, c2, c3, c4, c5, c6, c7, c8, c9, c10, c11⟩ := cd
  dsimp only at hh
  subst hh
  show wpAny _ _ (storeInOwnDict (.ref x) (.ref C) (.str name tk) name v b) _ _ _
  unfold storeInOwnDict ownDictForStores
  repeat (first | with_reducible refine look.at ?_ | with_reducible refine wpAny_loadPart_at ho ?_ | with_reducible refine store_in_new ?_ ?_ | wp_step)
  · exact ⟨_, #[], _, (Heap.get?_update_ne _ _ _ _ apart).trans (Heap.get?_push_at rfl rfl), rfl, (by intro e he; simp at he), (fun _ => rfl)⟩
  intro h2 tk2 n2 sb
  have mid : (hp.push { cls := .type "dict", data := .dict #[] }).get? x = some { cls := .ref C, data := .fields fv } := Heap.get?_push_of_some _ ho
  refine q h2 tk2 _ (fun c o hc e => ?_) (Nat.le_refl _) apart ((sb.2 x apart.symm).trans (Heap.get?_update_self _ mid rfl)) n2
  have far : c ≠ hp.objs.size := fun z => absurd (Heap.lt_size e) (by rw [z]; exact Nat.lt_irrefl _)
  rw [sb.2 c far, Heap.get?_update_ne _ _ _ _ hc]
  exact Heap.get?_push_of_some _ e
end
/-! ### the text of __init__ -/
def iA (p1 p2 : Pos) : Arguments := { posonlyargs := [], args := [{ arg := "self", annotation := none, pos := p1 }, { arg := "thing", annotation := none, pos := p2 }], vararg := none, kwonlyargs := [], kw_defaults := [], kwarg := none, defaults := [] }
def iB (q1 q2 q3 q4 : Pos) : List Stmt := [.Assign [.Attribute (.Name "self" q1) "thing" q2] (.Name "thing" q3) q4]
def iS : Scope := { kind := .function, names := [(PySem.Str.ofString "self", .local), (PySem.Str.ofString "thing", .local)], isGenerator := false, isCoroutine := false, more := [] }
/-- what the written part says of BadThing, at C, and of its __init__, at fI -/
structure BadTxt (K : Frag) (mg : Str → Option Value) (C fI : Addr) : Prop where
  gC : mg "BadThing" = some (.ref C)
  cls : ∃ nm q N bs bm sn sub ab col dd k0 k1 k2 k3 k5, K.lookup C = some (excClassObj nm q C N bs bm true sn sub ab col dd k0 k1 k2 k3 k5 "Exception.__new__") ∧ excTail exT bm = true
  sa : findIn K (.ref C) "__setattr__" = some (some (.builtin "object.__setattr__"))
  ga : findIn K (.ref C) "__getattribute__" = some (some (.builtin "BaseException.__getattribute__"))
  gg : findIn K (.ref C) "__getattr__" = some none
  noN : findIn K (.ref C) "thing" = some none
  iC : findIn K (.ref C) "__init__" = some (some (.ref fI))
  tC : typeIn K (.ref fI) = some (.type "function")
  kC : keepIn K (.ref C) = true
  exC : subIn K (.ref C) (.type "BaseException") = some true
  tyC : typeIn K (.ref C) = some (.type "type")
  hdC : hasDictIn K C = true
  te : exmOne K (.ref C) (.ref C) = some true
  fn : ∃ (oc : Value) (od : Option Addr) (doc pm : Value) (an : Option Addr) (cdv ct : Value) (osl : Array (Option Value)) (p1 p2 q1 q2 q3 q4 : Pos),
    K.lookup fI = some ⟨oc, od, .func (fnOf "__init__" "BadThing.__init__" (iA p1 p2) (iB q1 q2 q3 q4) iS .none .none doc pm an cdv ct), osl⟩ ∧ codeIn K cdv "BadThing.__init__" = true
theorem one_size (v : Value) : [v].length ≤ sizeLine := by
  rw [sizeLine_eq]
  exact (by decide : 1 ≤ 16777216)
theorem kept_but {K : Frag} {h h' : Heap} {x : Addr} (X : K.In h) (hx : K.lookup x = none) (k : ∀ b o, b ≠ x → h.get? b = some o → h'.get? b = some o) : K.In h' := fun a o e =>
  k a o (fun z => by rw [z, hx] at e; cases e) (X a o e)
theorem ldC {M : Model} {s : Shared} {name : Str} {scope : Scope} {L a : Addr} {cd : Value} {m : Str → Option Value} {x : Str} {pos : Pos} {v : Value} {Q : Value → Shared → Prop} {A : Around} {E : Value → Shared → Prop} (hn : s.heap.Ns L m) (hv : m x = some v) (h : Q v s)
    (hk : scope.kind = .function := by rfl) (hl : (envOfC name scope L a cd).kindOf x = some .local := by rfl) (hd : (x == ("__debug__" : Str)) = false := by decide) :
    wpAny M A (eval (.Name x pos) (envOfC name scope L a cd)) Q E s := wpAny_Name (wpAny_loadName_local hk hl hn hv h) hd
/-- what __init__ leaves of a fresh exception at x -/
structure InitEnd (h h' : Heap) (x C dx t1 : Addr) (v : Value) : Prop where
  keep : ∀ b o, b ≠ x → h.get? b = some o → h'.get? b = some o
  obj : h'.get? x = some { cls := .ref C, dict := some dx, data := .fields #[.ref t1, .none, .none, .none, .bool false, .none] }
  dbig : h.objs.size ≤ dx
  dne : dx ≠ x
  ns : h'.Ns1 dx (fun y => if y = "thing" then some v else none)
/-- a made BadThing -/
structure OwnMade (h h' : Heap) (e C d : Addr) (v : Value) : Prop where
  keep : ∀ b o, h.get? b = some o → h'.get? b = some o
  new : h.objs.size ≤ e
  obj : ∃ oe vs, h'.get? e = some oe ∧ oe.cls = .ref C ∧ oe.dict = some d ∧ oe.data = .fields vs ∧ vs[1]? = some .none
  dbig : h.objs.size ≤ d
  dne : d ≠ e
  ns : h'.Ns1 d (fun y => if y = "thing" then some v else none)
section
variable {prog : Program} {w : World} {A : Around} {E : Value → Shared → Prop} {R : Result → Shared → Prop} {s : Shared} {K : Frag} {mg : Str → Option Value} {C fI : Addr}
theorem bad_init (T : BadTxt K mg C fI) {x t0 : Addr} {v : Value} (X : K.In s.heap) (hlim : s.heap.NoLimit) (hx : s.heap.get? x = some (excO C t0)) (hnx : K.lookup x = none) (hroom : A.depth < recursionLimit)
    (hq : ∀ h' tk dx, InitEnd s.heap h' x C dx t0 v → R (.ok (.ret .none)) { s with heap := h', toks := tk }) :
    codeAny (model prog w) A (.call (.ref fI) ⟨[.ref x, v], []⟩) R s := by
  obtain ⟨oc, od, doc, pm, an, cdv, ct, osl, p1, p2, q1, q2, q3, q4, ho, hcd⟩ := T.fn
  obtain ⟨nm, q, N, bs, bm, sn, sub, ab, col, dd, k0, k1, k2, k3, k5, hC, hbm⟩ := T.cls
  have hcl : clsIn K C = some { name := nm, bases := bs, mro := .ref C :: bm, ns := N, qualname := q, hasDict := true, slotNames := sn, subclasses := sub, abstract := ab, collection := col, hasDel := false } := by unfold clsIn; rw [hC] <;> rfl
  refine Att.call_fn (binds := [("self", .ref x), ("thing", v)]) X hlim ho hcd hroom (BindsTo.of_eq (by first | rfl | with_unfolding_all rfl)) (by first | rfl | decide | with_unfolding_all rfl) (fun s₁ IC => ?_) rfl rfl rfl
  obtain ⟨h₁, tk₁, rfl⟩ := IC.toInCall.same
  have k : ∀ b o, s.heap.get? b = some o → h₁.get? b = some o := IC.toInCall.keep
  have hn := IC.toInCall.ns
  have hxL : s.heap.objs.size ≠ x := Nat.ne_of_gt (Heap.lt_size hx)
  have X₁ : K.In h₁ := X.keeps k
  have hx₁ := k _ _ hx
  -- self.by = by
  show wpAny _ _ (execs _ _) _ _ _
  refine wpAny_execs_cons (plainObj_wpAny_Assign_Attribute ?_)
  refine ldC (v := v) hn (by first | rfl | with_unfolding_all rfl | kernel_rfl) (ldC (v := .ref x) hn (by first | rfl | with_unfolding_all rfl | kernel_rfl) ?_)
  refine set_plain X₁ (ox := excO C t0) (od := none) ⟨hx₁, rfl, rfl, trivial⟩ T.sa ?_
  refine osa_first X₁ hx₁ hcl (show excTail exT bm = true from hbm) rfl rfl T.noN (fun h₃ tk₃ dx k₃ dn dne hx₃ hn₃ => ?_)
  show wpAny _ _ (execs _ _) _ _ _
  have z : s.heap.objs.size < h₁.objs.size := hn.lt
  exact wpAny_execs_nil (hq h₃ tk₃ dx ⟨fun b o hb e => k₃ b o hb (k b o e), hx₃, Nat.le_of_lt (Nat.lt_of_lt_of_le z dn), dne, hn₃⟩)
theorem bad_made (T : BadTxt K mg C fI) {v : Value} (X : K.In s.heap) (hlim : s.heap.NoLimit) (hroom : A.depth + 1 < recursionLimit)
    (hq : ∀ h' tk e d, OwnMade s.heap h' e C d v → R (.ok (.ret (.ref e))) { s with heap := h', toks := tk }) :
    codeAny (model prog w) A (.call (.ref C) ⟨[v], []⟩) R s := by
  obtain ⟨nm, q, N, bs, bm, sn, sub, ab, col, dd, k0, k1, k2, k3, k5, hC, hbm⟩ := T.cls
  obtain ⟨hp, g, dr, tk, os⟩ := s
  have k : ∀ b o, hp.get? b = some o → ((hp.push (kdv_tup [v])).push (excO C hp.objs.size)).get? b = some o := fun b o e => Heap.get?_push_of_some _ (Heap.get?_push_of_some _ e)
  have hget : ((hp.push (kdv_tup [v])).push (excO C hp.objs.size)).get? (hp.objs.size + 1) = some (excO C hp.objs.size) := by heap_get
  have hnx : K.lookup (hp.objs.size + 1) = none := by
    cases e : K.lookup (hp.objs.size + 1) with
    | none => rfl
    | some o =>
      have z : hp.get? (hp.objs.size + 1) = some o := X _ _ e
      exact absurd (Nat.lt_of_succ_lt (Heap.lt_size z)) (Nat.lt_irrefl _)
  refine call_own F.excBase_Exception (fun X => excTail_contains X bm hbm) (X _ _ hC) (looks_findIn X T.iC) (fun self => bind_fn X self T.tC) (one_size v) ?_
  refine bad_init (s := ⟨(hp.push (kdv_tup [v])).push (excO C hp.objs.size), g, dr, tk, os⟩) T (X.keeps k) (hlim.keeps k) hget hnx ?_ fun h' tk' dx ⟨k', hx, dn, dne, hns⟩ => ?_
  · show A.depth + 1 < recursionLimit
    exact hroom
  · have old : ∀ b o, hp.get? b = some o → h'.get? b = some o := fun b o e => k' b o (Nat.ne_of_lt (Nat.lt_succ_of_lt (Heap.lt_size e))) (k b o e)
    have z : hp.objs.size + 1 + 1 ≤ dx := by
      first
        | (simpa only [Heap.size_push] using dn)
        | exact dn
        | (have q := dn; rw [Heap.size_push, Heap.size_push] at q; exact q)
    exact ⟨rfl, hq h' tk' (hp.objs.size + 1) dx ⟨old, Nat.le_succ _, ⟨_, _, hx, rfl, rfl, rfl, rfl⟩, Nat.le_trans (Nat.le_trans (Nat.le_succ _) (Nat.le_succ _)) z, dne, hns⟩⟩
end
end BadX
end PySem
namespace Kx
open PySem PySem.Spec PyProof.Rows L2
theorem relO_bad {v : V} {v' : Value} (r : RelV v v') (f : Str) : RelO (List.lookup f [(("thing" : Str), v)]) (if f = "thing" then some v' else none) := by
  by_cases hw : f = "thing"
  · subst hw
    rw [if_pos rfl]
    have q : List.lookup ("thing" : Str) [(("thing" : Str), v)] = some v := by simp [List.lookup]
    rw [q]
    exact r
  · rw [if_neg hw]
    have qw : (f == ("thing" : Str)) = false := by simpa using hw
    have q2 : List.lookup f [(("thing" : Str), v)] = none := by simp [List.lookup, qw]
    rw [q2]
    trivial
section
variable {X : Cx} {C fI : Addr}
/-- BadThing(e) -/
def tMkBad (C : Addr) (ta : TA) : L2.St → Hp → XK → Prop := fun σ H Q => ta σ H fun vs H1 => ∃ v, vs = [v] ∧ ∀ d, H1 d = none → Q (.ref C) (some d) (upd H1 d (.xd [(("thing" : Str), v)]))
theorem pmk_bad {a : Expr} {ta : TA} {p pos : Pos} {k : Nat} (T : PySem.BadX.BadTxt X.K X.mg C fI) (hr : Room k X.A) (ha : PA X [a] ta) (hg : Gl X "BadThing" := by rfl)
    (he : starEach (a :: []) X.env = (false, eval a X.env) :: starEach [] X.env := by rfl) (hpl : (backTo pos (starEach [] X.env)).any (·.1) = false := by rfl) :
    PMk X (.Call (.Name "BadThing" p) [a] [] pos) (tMkBad C ta) := by
  intro pins s σ H Q I h
  refine wpAny_Call_Name_kw (ld_glob I hg T.gC ?_)
  refine PySem.W.callWith_K (h₀ := X.base) I.ok.mod.kin T.kC (thn (ha.run pos pins s σ H _ I h) fun us s1 hh => ?_) he hpl
  obtain ⟨vs, H1, I1, r1, v, ev, q1⟩ := hh
  subst ev
  refine ⟨I1.kIn, ?_⟩
  cases r1 with
  | cons rv rn =>
    rename_i v' us'
    cases rn
    show wpAny _ _ (call (.ref C) [v']) _ _ _
    have hlim := I1.nolimit
    obtain ⟨hp, g, dr, tk, os⟩ := s1
    refine wpAny_call (PySem.BadX.bad_made T I1.kIn hlim (by have := hr.dp; omega) fun h' tk' e d M => ?_)
    show MkP X pins σ Q (.ref e) ⟨h', g, dr, tk', os⟩
    obtain ⟨oe, fv, hoe, hc, hd, hdat, h1⟩ := M.obj
    have hns := M.ns
    obtain ⟨G', g1, g2⟩ := restrict h' fun b => decide (b ≠ e)
    have gk : ∀ b, b ≠ e → G'.get? b = h'.get? b := fun b hb => g1 b (decide_eq_true hb)
    have ge : G'.get? e = none := g2 e (by simp)
    have old : ∀ b o, hp.get? b = some o → G'.get? b = some o := fun b o q => (gk b (Nat.ne_of_lt (Nat.lt_of_lt_of_le (Heap.lt_size q) M.new))).trans (M.keep b o q)
    have ob : ObjOk X.prog X.w (upd H1 d (.xd [(("thing" : Str), v)])) G' d (.xd [(("thing" : Str), v)]) :=
      ⟨_, hns.at (fun o q => (gk d M.dne).trans q), fun f => relO_bad rv f⟩
    have J : Inv X pins σ (upd H1 d (.xd [(("thing" : Str), v)])) ⟨G', g, dr, tk', os⟩ := I1.laid (t' := tk') old M.dbig ob
    refine ⟨e, oe, fv, ⟨G', g, dr, tk', os⟩, _, .ref C, some d, rfl, J, fun b o q => ?_, ge, hoe, ⟨hc, hd⟩, hdat, h1, ?_, rfl, I1.bare, raises_own T.exC T.tyC, q1 d (I1.hok.fresh M.dbig)⟩
    · by_cases hb : b = e
      · have q' : G'.get? b = some o := q
        rw [hb, ge] at q'; cases q'
      · exact (gk b hb).symm.trans q
    · rw [upd_ne (Ne.symm M.dne)]
      exact I1.hok.fresh M.new
/-- raise BadThing(e) -/
def tRaiseBad (C : Addr) (W : WX) (ta : TA) : TS := fun _ σ H => tMkBad C ta σ H fun cls d H' => W cls d σ H'
theorem ps_raiseBad {a : Expr} {ta : TA} {W : WX} {p pos pos2 : Pos} {k : Nat} (hc : X.calm = true) (T : PySem.BadX.BadTxt X.K X.mg C fI) (hr : Room k X.A) (tk : Takes X W) (ha : PA X [a] ta) (hg : Gl X "BadThing" := by rfl)
    (he : starEach (a :: []) X.env = (false, eval a X.env) :: starEach [] X.env := by rfl) (hpl : (backTo pos (starEach [] X.env)).any (·.1) = false := by rfl) :
    PS X (.Raise (some (.Call (.Name "BadThing" p) [a] [] pos)) none pos2) (tRaiseBad C W ta) := ps_raise hc tk (pmk_bad T hr ha hg he hpl)
/-- error.thing, low the exception that the suite holds (at a; its class cls, its dict d) -/
def tByBad (C : Addr) (a : Addr) (cls : Value) (d : Option Addr) (te : TE) : TE := fun σ H Q => te σ H fun x H1 => x = .ref a ∧ cls = .ref C ∧ ∃ (dd : Addr) (v : V), d = some dd ∧ H1 dd = some (.xd [(("thing" : Str), v)]) ∧ Q v H1
theorem pe_byBad {a : Addr} {oe : Obj} {cls : Value} {d : Option Addr} {pn : List (Addr × Obj)} {e : Expr} {te : TE} {pos : Pos} (T : PySem.BadX.BadTxt X.K X.mg C fI) (hz : Zc cls d oe) (hf : ∃ vs, oe.data = .fields vs) (he : PE (X.suite a ((a, oe) :: pn)) e te)
    (hb : attributeBase e "thing" X.env (eval e X.env) = eval e X.env := by rfl) :
    PE (X.suite a ((a, oe) :: pn)) (.Attribute e "thing" pos) (tByBad C a cls d te) := by
  refine ⟨fun pins s σ H Q I h => ?_⟩
  refine attr_of hb (thn (he.run pins s σ H _ I h) fun u s1 hh => ?_)
  obtain ⟨x, H1, I1, rx, ex, ec, dd, v, ed, ea, q⟩ := hh
  subst ex
  obtain rfl : u = Value.ref a := rx
  subst ec
  subst ed
  obtain ⟨ha, _⟩ := I1.pin (a, oe) (List.mem_append_left _ List.mem_cons_self)
  obtain ⟨vs, hd⟩ := hf
  have hx : ObjOk X.prog X.w H1 s1.heap dd (.xd [(("thing" : Str), v)]) := I1.hok dd _ ea
  obtain ⟨mA, hns, hr⟩ := hx
  obtain ⟨od, ho, hl⟩ := lookIn_ns hns
  have l : List.lookup ("thing" : Str) [(("thing" : Str), v)] = some v := by simp [List.lookup]
  obtain ⟨u, hu, ru⟩ := RelO.some_of (v := v) (o := mA "thing") (by rw [← l]; exact hr "thing")
  have J : PySem.W.InstAt s1.heap a oe C (some od) := ⟨ha, hz.1, by unfold PySem.W.notCls; rw [hd] <;> rfl, by rw [hz.2]; exact ho⟩
  exact HandSPX.exc_get I1.kIn J T.ga T.gg T.exC (PySem.W.findObj_own T.hdC T.noN rfl (by rw [hl, hu])) (handed_of ru) ⟨v, H1, I1.tok _, ru, q⟩
end
end Kx


namespace Kx
open PySem PySem.Spec PyProof.Rows L2
/-! ### rows, their keys, the order -/
abbrev Rw := Int × Str × Int
def rowDt (r : Rw) : PyData := .tuple [.int r.1, .str r.2.1, .int r.2.2]
def kvOf (at_ : Nat) (r : Rw) : PyData := if at_ = 0 then .int r.1 else if at_ = 1 then .str r.2.1 else .int r.2.2
def keyOf (at_ : Nat) (r : Rw) : PyData := .tuple [kvOf at_ r, rowDt r]
def leR (at_ : Nat) (r s : Rw) : Bool := !PySem.W.dataLt (keyOf at_ s) (keyOf at_ r)
theorem kv_flat (at_ : Nat) (r : Rw) : FlatD (kvOf at_ r) := by
  unfold kvOf
  split
  · exact .inl ⟨_, rfl⟩
  · split
    · exact .inr ⟨_, rfl⟩
    · exact .inl ⟨_, rfl⟩
theorem row_flat (r : Rw) : ∀ d ∈ [PyData.int r.1, .str r.2.1, .int r.2.2], FlatD d := by
  intro d hd
  simp only [List.mem_cons, List.not_mem_nil, or_false] at hd
  rcases hd with rfl | rfl | rfl
  · exact .inl ⟨_, rfl⟩
  · exact .inr ⟨_, rfl⟩
  · exact .inl ⟨_, rfl⟩
theorem row_alike (r s : Rw) : PySem.W.alike (rowDt r) (rowDt s) = true := by simp [rowDt, PySem.W.alike, PySem.W.alikeAll]
theorem kv_alike (at_ : Nat) (r s : Rw) : PySem.W.alike (kvOf at_ r) (kvOf at_ s) = true := by
  unfold kvOf
  split
  · simp [PySem.W.alike]
  · split <;> simp [PySem.W.alike]
theorem key_alike (at_ : Nat) (r s : Rw) : PySem.W.alike (keyOf at_ r) (keyOf at_ s) = true := by
  have h1 := kv_alike at_ r s
  have h2 := row_alike r s
  simp [keyOf, PySem.W.alike, PySem.W.alikeAll, h1, h2]
theorem key_depth (at_ : Nat) (r : Rw) : (keyOf at_ r).depth ≤ 60 := by
  have h := flat_depth (kv_flat at_ r)
  simp [keyOf, rowDt, PyData.depth, PyData.depthAll, h]
theorem le_total (at_ : Nat) (r s : Rw) : (leR at_ r s || leR at_ s r) = true := by
  unfold leR
  cases h : PySem.W.dataLt (keyOf at_ s) (keyOf at_ r) with
  | false => rfl
  | true =>
    have : PySem.W.dataLt (keyOf at_ r) (keyOf at_ s) = false := by
      cases h2 : PySem.W.dataLt (keyOf at_ r) (keyOf at_ s) with
      | false => rfl
      | true =>
        have z := (listOrd itemOrd).trans _ _ _ h h2
        rw [(listOrd itemOrd).irrefl] at z
        cases z
    rw [this]
    rfl
theorem le_trans (at_ : Nat) (a b c : Rw) (h1 : leR at_ a b = true) (h2 : leR at_ b c = true) : leR at_ a c = true := by
  unfold leR at *
  cases h : PySem.W.dataLt (keyOf at_ c) (keyOf at_ a) with
  | false => rfl
  | true =>
    rcases (listOrd itemOrd).negTrans (PySem.W.keyToks (keyOf at_ c)) (PySem.W.keyToks (keyOf at_ b)) (PySem.W.keyToks (keyOf at_ a)) h with z | z
    · have z' : PySem.W.dataLt (keyOf at_ c) (keyOf at_ b) = true := z
      rw [z'] at h2
      cases h2
    · have z' : PySem.W.dataLt (keyOf at_ b) (keyOf at_ a) = true := z
      rw [z'] at h1
      cases h1
theorem str_ext {x y : Str} (h : x.cps.toList = y.cps.toList) : x = y := by
  obtain ⟨a⟩ := x
  obtain ⟨b⟩ := y
  have : a = b := Array.toList_inj.mp h
  rw [this]
theorem row_toks {r s : Rw} (h : PySem.W.keyToks (rowDt r) = PySem.W.keyToks (rowDt s)) : r = s := by
  obtain ⟨a, x, b⟩ := r
  obtain ⟨c, y, d⟩ := s
  simp [rowDt, PySem.W.keyToks, PySem.W.keyToksAll] at h
  obtain ⟨h1, h2, h3⟩ := h
  have h4 : x = y := by
    first
      | exact h2
      | exact str_ext h2
      | exact str_ext (congrArg Array.toList h2)
  rw [h1, h3, h4]
theorem kv_toks_len (at_ : Nat) (r : Rw) : (PySem.W.keyToks (kvOf at_ r)).length = 1 := by
  unfold kvOf
  split
  · simp [PySem.W.keyToks]
  · split <;> simp [PySem.W.keyToks]
theorem key_toks {at_ : Nat} {r s : Rw} (h : PySem.W.keyToks (keyOf at_ r) = PySem.W.keyToks (keyOf at_ s)) : r = s := by
  have e : ∀ r, PySem.W.keyToks (keyOf at_ r) = .inl 1 :: (PySem.W.keyToks (kvOf at_ r) ++ (.inl 1 :: (PySem.W.keyToks (rowDt r) ++ [.inl 0]))) := fun r => by
    simp [keyOf, PySem.W.keyToks, PySem.W.keyToksAll]
  rw [e, e] at h
  have h2 := (List.cons.inj h).2
  have h3 := (List.append_inj h2 (by rw [kv_toks_len, kv_toks_len])).2
  have h4 := (List.cons.inj h3).2
  exact row_toks (List.append_cancel_right h4)
theorem le_anti (at_ : Nat) (a b : Rw) (h1 : leR at_ a b = true) (h2 : leR at_ b a = true) : a = b := by
  unfold leR at *
  refine key_toks (at_ := at_) ((listOrd itemOrd).total _ _ ?_ ?_)
  · show PySem.W.dataLt (keyOf at_ a) (keyOf at_ b) = false
    cases h : PySem.W.dataLt (keyOf at_ a) (keyOf at_ b) with
    | false => rfl
    | true =>
      rw [h] at h2
      cases h2
  · show PySem.W.dataLt (keyOf at_ b) (keyOf at_ a) = false
    cases h : PySem.W.dataLt (keyOf at_ b) (keyOf at_ a) with
    | false => rfl
    | true =>
      rw [h] at h1
      cases h1
theorem sorted_uniq {at_ : Nat} {xs ys : List Rw} (hp : xs.Perm ys) (hx : xs.Pairwise fun a b => leR at_ a b = true) (hy : ys.Pairwise fun a b => leR at_ a b = true) : xs = ys :=
  List.Perm.eq_of_pairwise (fun a b _ _ x y => le_anti at_ a b x y) hx hy hp
/-! ### rows and runs on the heap -/
theorem Same.sqT {K : PySem.W.Frag} {H H' : Hp} (h : Same H H') {a : Addr} {xs : List V} (q : SqT K H a xs) : SqT K H' a xs := by
  rcases q with (q | ⟨o, q⟩) | q
  · exact .inl (.inl (h _ _ q))
  · exact .inl (.inr ⟨o, h _ _ q⟩)
  · exact .inr q
theorem Same.sqL {K : PySem.W.Frag} {H H' : Hp} (h : Same H H') {a : Addr} {xs : List V} (q : SqL K H a xs) : SqL K H' a xs := by
  rcases q with (q | ⟨o, q⟩) | q
  · exact .inl (.inl (h _ _ q))
  · exact .inl (.inr ⟨o, h _ _ q⟩)
  · exact .inr q
theorem Same.ext {H H' : Hp} (h : Same H H') : LamX.ExtN H H' := fun b o e _ => h b o e
def RowAt (K : PySem.W.Frag) (H : Hp) (p : Addr × Rw) : Prop := SqT K H p.1 [.int p.2.1, .str p.2.2.1, .int p.2.2.2]
def refs (ps : List (Addr × Rw)) : List V := ps.map fun p => V.ref p.1
def AllRows (K : PySem.W.Frag) (H : Hp) (ps : List (Addr × Rw)) : Prop := ∀ p ∈ ps, RowAt K H p
theorem AllRows.ext {K : PySem.W.Frag} {H H' : Hp} {ps : List (Addr × Rw)} (h : AllRows K H ps) (e : LamX.ExtN H H') : AllRows K H' ps := fun p hp => ext_sqT e (h p hp)
theorem AllRows.same {K : PySem.W.Frag} {H H' : Hp} {ps : List (Addr × Rw)} (h : AllRows K H ps) (e : Same H H') : AllRows K H' ps := fun p hp => Same.sqT e (h p hp)
def srt (at_ : Nat) (ps : List (Addr × Rw)) : List (Addr × Rw) := ps.mergeSort fun p q => leR at_ p.2 q.2
theorem srt_perm (at_ : Nat) (ps : List (Addr × Rw)) : (srt at_ ps).Perm ps := List.mergeSort_perm _ _
theorem srt_sorted (at_ : Nat) (ps : List (Addr × Rw)) : (srt at_ ps).Pairwise fun p q => leR at_ p.2 q.2 = true :=
  List.pairwise_mergeSort (le := fun p q => leR at_ p.2 q.2) (fun a b c h1 h2 => le_trans at_ a.2 b.2 c.2 h1 h2) (fun a b => le_total at_ a.2 b.2) ps
def kyV (at_ : Nat) (p : V × PyData) : PyData := match p.2 with
  | .tuple (d0 :: d1 :: d2 :: r) => .tuple [if at_ = 0 then d0 else if at_ = 1 then d1 else d2, p.2]
  | d => d
def vd (p : Addr × Rw) : V × PyData := (.ref p.1, rowDt p.2)
theorem kyV_vd (at_ : Nat) (p : Addr × Rw) : kyV at_ (vd p) = keyOf at_ p.2 := rfl
theorem vd_refs (ps : List (Addr × Rw)) : (ps.map vd).map (·.1) = refs ps := by
  rw [List.map_map]
  rfl
theorem srt_vd (at_ : Nat) (ps : List (Addr × Rw)) : ((ps.map vd).mergeSort (PySem.W.dataLe false (kyV at_))).map (·.1) = refs (srt at_ ps) := by
  have e : (ps.map vd).mergeSort (PySem.W.dataLe false (kyV at_)) = (srt at_ ps).map vd := (List.map_mergeSort (r := fun p q => leR at_ p.2 q.2) (s := PySem.W.dataLe false (kyV at_)) (f := vd) (fun a _ b _ => rfl)).symm
  rw [e, vd_refs]
end Kx

namespace Kx
open PySem PySem.Spec PyProof.Rows L2
abbrev sRuns : Stmt := topS 6
def lamQ : Str := ("runs_of" : Str) ++ (".<locals>." : Str) ++ ("<lambda>" : Str)
abbrev Tb (P : Addr) : List (Addr × Str) := [(P, lamQ)]
structure RunsL (K : PySem.W.Frag) (H : Hp) (ls : List Addr) (runs : List (List (Addr × Rw))) : Prop where
  len : ls.length = runs.length
  lst : ∀ (i : Nat) (l : Addr) (run : List (Addr × Rw)), ls[i]? = some l → runs[i]? = some run → H l = some (.lst (refs run))
  row : ∀ run ∈ runs, AllRows K H run
theorem RunsL.ext {K : PySem.W.Frag} {H H' : Hp} {ls : List Addr} {runs : List (List (Addr × Rw))} (r : RunsL K H ls runs) (e : LamX.ExtN H H') : RunsL K H' ls runs :=
  ⟨r.len, fun i l run h1 h2 => e _ _ (r.lst i l run h1 h2) (fun _ z => by cases z), fun run h => (r.row run h).ext e⟩
theorem RunsL.same {K : PySem.W.Frag} {H H' : Hp} {ls : List Addr} {runs : List (List (Addr × Rw))} (r : RunsL K H ls runs) (e : Same H H') : RunsL K H' ls runs := r.ext (Same.ext e)
theorem RunsL.push {K : PySem.W.Frag} {H : Hp} {ls : List Addr} {runs : List (List (Addr × Rw))} {l : Addr} {run : List (Addr × Rw)} (r : RunsL K H ls runs) (hl : H l = some (.lst (refs run))) (hr : AllRows K H run) : RunsL K H (ls ++ [l]) (runs ++ [run]) := by
  refine ⟨by rw [List.length_append, List.length_append, r.len]; rfl, fun i l' run' h1 h2 => ?_, fun run' h => ?_⟩
  · by_cases c : i < ls.length
    · rw [List.getElem?_append_left c] at h1
      rw [List.getElem?_append_left (by rw [← r.len]; exact c)] at h2
      exact r.lst i l' run' h1 h2
    · rw [List.getElem?_append_right (by omega)] at h1
      rw [List.getElem?_append_right (by rw [← r.len]; omega), ← r.len] at h2
      cases k : i - ls.length with
      | zero =>
        rw [k] at h1 h2
        cases h1
        cases h2
        exact hl
      | succ j =>
        rw [k] at h1
        cases h1
  · rcases List.mem_append.mp h with h | h
    · exact r.row run' h
    · rw [List.mem_singleton.mp h]
      exact hr
/-- an object that is none of the lists is written -/
theorem RunsL.upd {K : PySem.W.Frag} {H : Hp} {ls : List Addr} {runs : List (List (Addr × Rw))} {d : Addr} {l : List V} {o : HO} (r : RunsL K H ls runs) (hd : H d = some (.lst l)) (hn : d ∉ ls) : RunsL K (upd H d o) ls runs := by
  refine ⟨r.len, fun i l' run h1 h2 => ?_, fun run h p hp => ?_⟩
  · rw [upd_ne (fun e => hn (by rw [← e]; exact List.mem_of_getElem? h1))]
    exact r.lst i l' run h1 h2
  · refine But.sqT (d := d) (fun b o' hb e => ?_) ⟨_, hd⟩ (r.row run h p hp)
    rw [upd_ne hb]
    exact e
structure GoodRuns (at_ mem : Nat) (runs : List (List (Addr × Rw))) : Prop where
  ne : ∀ run ∈ runs, run ≠ []
  le : ∀ run ∈ runs, run.length ≤ mem
  so : ∀ run ∈ runs, run.Pairwise fun p q => leR at_ p.2 q.2 = true
theorem GoodRuns.push {at_ mem : Nat} {runs : List (List (Addr × Rw))} {run : List (Addr × Rw)} (g : GoodRuns at_ mem runs) (h1 : run ≠ []) (h2 : run.length ≤ mem) (h3 : run.Pairwise fun p q => leR at_ p.2 q.2 = true) : GoodRuns at_ mem (runs ++ [run]) := by
  refine ⟨fun r h => ?_, fun r h => ?_, fun r h => ?_⟩ <;> rcases List.mem_append.mp h with h | h
  · exact g.ne r h
  · rw [List.mem_singleton.mp h]; exact h1
  · exact g.le r h
  · rw [List.mem_singleton.mp h]; exact h2
  · exact g.so r h
  · rw [List.mem_singleton.mp h]; exact h3
theorem RunsL.nil {K : PySem.W.Frag} {H : Hp} : RunsL K H [] [] := by
  refine ⟨rfl, fun i l run h => ?_, fun run h => ?_⟩ <;> cases h
theorem GoodRuns.nil {at_ mem : Nat} : GoodRuns at_ mem [] := by
  refine ⟨fun r h => ?_, fun r h => ?_, fun r h => ?_⟩ <;> cases h
theorem tabs_upd {T : List (Addr × Str)} {H : Hp} {R : Addr} {l : List V} {o : HO} (hT : LamX.Tabs T H) (hR : H R = some (.lst l)) : LamX.Tabs T (upd H R o) := fun p hp => by
  obtain ⟨qs, h1, h2, h3⟩ := hT p hp
  refine ⟨qs, ?_, h2, fun pos cv hc => ?_⟩
  · rw [upd_ne (fun e => by rw [e, hR] at h1; cases h1)]
    exact h1
  · obtain ⟨c, e1, e2⟩ := h3 pos cv hc
    refine ⟨c, e1, ?_⟩
    rw [upd_ne (fun e => by
      rw [e, hR] at e2
      unfold LamX.CodeO at e2
      cases e2)]
    exact e2
theorem row_key {K : PySem.W.Frag} {H : Hp} {at_ : Nat} (h2 : at_ ≤ 2) {p : Addr × Rw} (h : RowAt K H p) : RowKey K H (at_ : Int) (vd p) (kyV at_ (vd p)) := by
  have hdp : DpAll K H [V.int p.2.1, .str p.2.2.1, .int p.2.2.2] [PyData.int p.2.1, .str p.2.2.1, .int p.2.2.2] := .cons (.int _) (.cons (.str _) (.cons (.int _) .nil))
  rcases (show at_ = 0 ∨ at_ = 1 ∨ at_ = 2 by omega) with e | e | e <;> subst e
  · exact ⟨p.1, _, _, 0, _, rfl, h, rfl, hdp, row_flat p.2, rfl, rfl, rfl⟩
  · exact ⟨p.1, _, _, 1, _, rfl, h, rfl, hdp, row_flat p.2, rfl, rfl, rfl⟩
  · exact ⟨p.1, _, _, 2, _, rfl, h, rfl, hdp, row_flat p.2, rfl, rfl, rfl⟩
def ceilN (n m : Nat) : Nat := (n + m - 1) / m
theorem cut_refs (ps : List (Addr × Rw)) (i mem : Nat) (h : i * mem ≤ ps.length) : cutV (refs ps) (some ((i * mem : Nat) : Int)) (some ((i * mem + mem : Nat) : Int)) = refs ((ps.drop (i * mem)).take mem) := by
  unfold cutV refs
  rw [HT.sIx_nat, HT.sIx_nat, List.length_map, Nat.min_eq_left h, List.map_take, List.map_drop, ← List.map_drop, ← List.map_take, ← List.map_take]
  congr 1
  by_cases c : i * mem + mem ≤ ps.length
  · rw [Nat.min_eq_left c]
    congr 1
    omega
  · rw [Nat.min_eq_right (by omega), List.take_of_length_le (by rw [List.length_drop]; omega), List.take_of_length_le (by rw [List.length_drop]; omega)]
section
variable {P : Program} {w : World} {K : PySem.W.Frag} {mg : Str → Option Value} {base : Heap}
def spRuns (K : PySem.W.Frag) (PT : Addr) : Sp := fun vs H Q _ => ∃ (a : Addr) (ps : List (Addr × Rw)) (at_ mem : Nat), vs = [.ref a, .int (at_ : Int), .int (mem : Int)] ∧ SqL K H a (refs ps) ∧ AllRows K H ps ∧ at_ ≤ 2 ∧ 1 ≤ mem ∧ mem ≤ 100 ∧ ps.length ≤ 100 ∧ LamX.Tabs (Tb PT) H ∧
  ∀ (R : Addr) (H' : Hp) (ls : List Addr) (runs : List (List (Addr × Rw))), LamX.ExtN H H' → LamX.Tabs (Tb PT) H' → H' R = some (.lst (ls.map V.ref)) → RunsL K H' ls runs → GoodRuns at_ mem runs → runs.flatten.Perm ps → runs.length = ceilN ps.length mem → Q (.ref R) H'
abbrev N_runs : List Str := ["rows", "at", "memory", "runs", "start"]
theorem sc_runs : FnScope N_runs ["rows", "at", "memory"] (defScope sRuns) := ⟨rfl, rfl, rfl, by decide +kernel, rfl, by decide +kernel, by decide +kernel⟩
theorem rg_up {n m : Nat} (h1 : 1 ≤ m) (h2 : m ≤ 100) (h3 : n ≤ 100) : RgC 0 (n : Int) (m : Int) (ceilN n m) := by
  have e := PyProof.Rows.rangeSize_pos (len := (n : Int)) (c := (m : Int)) (by omega) (by omega)
  have e2 : ((n : Int) + (m : Int) - 1) / (m : Int) = ((ceilN n m : Nat) : Int) := by
    unfold ceilN
    rw [Int.natCast_ediv]
    congr 1
    omega
  have b : ceilN n m ≤ 200 := Nat.le_trans (Nat.div_le_self _ _) (by omega)
  refine ⟨by omega, by omega, ?_, e.trans e2⟩
  unfold Builtin.Range.small
  rw [e, e2]
  simp only [Builtin.Range.rangeFitsLong, Bool.and_eq_true, decide_eq_true_eq, Bool.or_eq_true]
  refine ⟨⟨⟨⟨by decide, by omega⟩, by omega⟩, by omega⟩, .inr ?_⟩
  rw [if_pos (by omega)]
  simp only [Bool.and_eq_true, decide_eq_true_eq]
  omega
theorem ok_runs {f c PT : Addr} {oc kV doc pm ct : Value} {od an : Option Addr} {osl : Array (Option Value)} (lk : K.lookup f = some ⟨oc, od, .func (PySem.W.fnOf "runs_of" "runs_of" (defArgs sRuns) (defBody sRuns) (defScope sRuns) .none kV doc pm an (.ref c) ct), osl⟩) (hcd : PySem.W.codeIn K (.ref c) "runs_of" = true)
    (TB : LamX.TabB base mg c PT) (m_len : mg "len" = none) (m_range : mg "range" = none) (m_sorted : mg "sorted" = none) :
    FnOk P w K mg base CX0 1 f (PySem.W.fnOf "runs_of" "runs_of" (defArgs sRuns) (defBody sRuns) (defScope sRuns) .none kV doc pm an (.ref c) ct) ["rows", "at", "memory"] (spRuns K PT) := by
  refine fn_of lk hcd sc_runs (fun vs H Q E h => ?_) (fun A outer s H vs Q E hr h => ?_)
  · obtain ⟨a, ps, at_, mem, rfl, _⟩ := h
    rfl
  obtain ⟨a, ps, at_, mem, rfl, hS, hrow, h2, m1, m2, hl, hT, q⟩ := h
  have nd := sc_runs.nd
  suffices hh : ∃ t, PSs (cxOf CX0 P w K mg base N_runs "runs_of" (defScope sRuns) f (.ref c) A outer s H E).nox (defBody sRuns) t ∧ t { nx := fun _ H' => Q .non H', rt := Q } (L2.start N_runs [.ref a, .int (at_ : Int), .int (mem : Int)]) H by
    obtain ⟨t, h1, h2⟩ := hh
    exact ⟨t, h1.nox, h2⟩
  refine ⟨_, pss_cons (ps_set (i := 3) nd rfl (.inl rfl) (pe_lst pa_nil))
      (pss_cons (ps_for PassesOwn.never rfl (pi_range3 rfl m_range (pa_cons pe_int (pa_cons (pe_callB call_len_seq (by rfl) m_len PySem.boot_len (pa_cons (pv 0) pa_nil)) (pa_cons (pv 2) pa_nil)))) (pg_name (i := 4) nd rfl (.inl rfl)) (pss_one (ps_expr (pe_bm PySem.F.plainAttrs_list PySem.F.slot_list_append PySem.F.type_list_append mt_append (pv 3) (pa_cons (pe_sortLam (T := Tb PT) (iAt := 1) (pe_slice sl_list (pv 0) (po_some (pv 4)) (po_some (pe_op op_add (pv 4) (pv 2)))) (by rfl) m_sorted (by decide +kernel) TB rfl (List.mem_singleton.mpr rfl) (fun p hp _ => by rw [List.mem_singleton.mp hp]; rfl) hr rfl rfl rfl rfl (by decide) (by decide +kernel) (by decide +kernel) (by decide +kernel) (show (defScope sRuns).names.lookup ("at" : Str) = some NameKind.cell from by decide +kernel) rfl (fun _ _ _ _ _ _ => rfl)) pa_nil)))))
      (pss_one (ps_ret (pv 3)))), ?_⟩
  have e0 : at_ = 0 ∨ at_ = 1 ∨ at_ = 2 := by omega
  refine ⟨Nat.zero_le _, fun R nR => ?_⟩
  have s1 := same_upd (o := .lst []) nR
  have hT1 : LamX.Tabs (Tb PT) (upd H R (.lst [])) := hT.ext s1
  refine ⟨_, rfl, a, _, rfl, .inl (Same.sqL s1 hS), _, rfl, 0, _, _, ceilN ps.length mem, rfl, ?_, ?_⟩
  · have := rg_up (n := ps.length) m1 m2 hl
    unfold refs
    rw [List.length_map]
    exact this
  refine for_rangeC (lo := 0) (c := (mem : Int)) (n := ceilN ps.length mem) (fun i σ H' => ∃ y4 ls runs, σ = [some (.ref a), some (.int (at_ : Int)), some (.int (mem : Int)), some (.ref R), y4] ∧ LamX.ExtN H H' ∧ LamX.Tabs (Tb PT) H' ∧ H' R = some (.lst (ls.map V.ref)) ∧ RunsL K H' ls runs ∧ GoodRuns at_ mem runs ∧ runs.flatten.Perm (ps.take (i * mem)) ∧ runs.length = i ∧ R ∉ ls)
    ⟨none, [], [], rfl, Same.ext s1, hT1, upd_same, RunsL.nil, GoodRuns.nil, by rw [Nat.zero_mul]; exact List.Perm.refl _, rfl, fun h => by cases h⟩ ?_ ?_
  · rintro i σ H' hi ⟨y4, ls, runs, rfl, eN, hT', eR, rl, gr, fp, rlen, nRls⟩
    have him : i * mem < ps.length := by
      unfold ceilN at hi
      have h1 := (Nat.lt_div_iff_mul_lt (by omega)).mp (show i < (ps.length + mem - 1) / mem from hi)
      omega
    have ei : (0 : Int) + (i : Nat) * (mem : Int) = ((i * mem : Nat) : Int) := by rw [Int.zero_add, Int.natCast_mul]
    have ei2 : (0 : Int) + (i : Nat) * (mem : Int) + (mem : Int) = ((i * mem + mem : Nat) : Int) := by rw [ei, Int.natCast_add]
    refine ⟨_, rfl, .inl ⟨rfl, _, SqL.of eR⟩, ?_⟩
    refine ⟨_, rfl, _, rfl, _, rfl, _, rfl, _, rfl, _, _, rfl, rfl, _, rfl, a, _, rfl, ext_sqL eN hS, fun D nD => ?_⟩
    have e3 : cutV (refs ps) (some ((0 : Int) + (i : Nat) * (mem : Int))) (some ((0 : Int) + (i : Nat) * (mem : Int) + (mem : Int))) = refs ((ps.drop (i * mem)).take mem) := by
      rw [ei2, ei]
      exact cut_refs ps i mem (Nat.le_of_lt him)
    have s2 := same_upd (o := .lst (cutV (refs ps) (some ((0 : Int) + (i : Nat) * (mem : Int))) (some ((0 : Int) + (i : Nat) * (mem : Int) + (mem : Int))))) nD
    have eD : upd H' D (.lst (cutV (refs ps) (some ((0 : Int) + (i : Nat) * (mem : Int))) (some ((0 : Int) + (i : Nat) * (mem : Int) + (mem : Int))))) D = some (.lst (refs ((ps.drop (i * mem)).take mem))) := by rw [upd_same, e3]
    have eN2 := eN.trans (Same.ext s2)
    have hT2 := hT'.ext s2
    have eR2 := s2 _ _ eR
    have rl2 := rl.same s2
    have hrows2 : AllRows K (upd H' D (.lst (cutV (refs ps) (some ((0 : Int) + (i : Nat) * (mem : Int))) (some ((0 : Int) + (i : Nat) * (mem : Int) + (mem : Int)))))) ((ps.drop (i * mem)).take mem) := fun p hp => (hrow.ext eN2) p (List.mem_of_mem_drop (List.mem_of_mem_take hp))
    generalize upd H' D (.lst (cutV (refs ps) (some ((0 : Int) + (i : Nat) * (mem : Int))) (some ((0 : Int) + (i : Nat) * (mem : Int) + (mem : Int))))) = H2 at eD eN2 hT2 eR2 rl2 hrows2 ⊢
    clear s2
    have mem_vd : ∀ x ∈ ((ps.drop (i * mem)).take mem).map vd, ∃ p, RowAt K H2 p ∧ x = vd p := fun x hx => by
      obtain ⟨p, hp, e⟩ := List.mem_map.mp hx
      exact ⟨p, hrows2 p hp, e.symm⟩
    refine ⟨D, ((ps.drop (i * mem)).take mem).map vd, (at_ : Int), kyV at_, rfl, SqL.of (by rw [vd_refs]; exact eD), hT2, rfl, by omega, by omega, fun x hx => ?_, fun d hd d' hd' => ?_, .inl fun d hd => ?_, fun x hx => ?_, fun D2 H3 eN3 hT3 hD2 fr => ?_⟩
    · obtain ⟨p, hp, rfl⟩ := mem_vd x hx
      exact row_key h2 hp
    · obtain ⟨x, hx, rfl⟩ := List.mem_map.mp hd
      obtain ⟨x', hx', rfl⟩ := List.mem_map.mp hd'
      obtain ⟨p, _, rfl⟩ := mem_vd x hx
      obtain ⟨p', _, rfl⟩ := mem_vd x' hx'
      exact key_alike at_ p.2 p'.2
    · obtain ⟨x, hx, rfl⟩ := List.mem_map.mp hd
      obtain ⟨p, _, rfl⟩ := mem_vd x hx
      exact ⟨_, _, rfl⟩
    · obtain ⟨p, _, rfl⟩ := mem_vd x hx
      exact key_depth at_ p.2
    rw [srt_vd] at hD2
    have eR3 : H3 R = some (.lst (ls.map V.ref)) := eN3 _ _ eR2 fun _ z => by cases z
    have hrows3 : AllRows K H3 (srt at_ ((ps.drop (i * mem)).take mem)) := fun p hp => (hrows2.ext eN3) p ((srt_perm at_ _).mem_iff.mp hp)
    have rl3 := (rl2.ext eN3).push hD2 hrows3
    have nRD : R ≠ D2 := fr _ _ eR2 fun _ z => by cases z
    have nR2 : R ∉ ls ++ [D2] := fun z => by
      rcases List.mem_append.mp z with z | z
      · exact nRls z
      · exact nRD (List.mem_singleton.mp z)
    have hls : ls.length = i := by rw [rl.len, rlen]
    have cb : ceilN ps.length mem ≤ 200 := Nat.le_trans (Nat.div_le_self _ _) (by omega)
    refine ⟨R, _, _, rfl, rfl, eR3, Nat.lt_of_lt_of_le (show (ls.map V.ref).length < 300 by rw [List.length_map]; omega) (by decide), ?_⟩
    refine ⟨_, ls ++ [D2], runs ++ [srt at_ ((ps.drop (i * mem)).take mem)], rfl, fun b o eb nt => ?_, tabs_upd hT3 eR3, ?_, rl3.upd eR3 nR2, gr.push ?_ ?_ (srt_sorted _ _), ?_, by rw [List.length_append, rlen]; rfl, nR2⟩
    · rw [upd_ne (ne_of_none eb nR)]
      exact (eN2.trans eN3) b o eb nt
    · rw [upd_same, List.map_append]
      rfl
    · intro z
      have := (srt_perm at_ ((ps.drop (i * mem)).take mem)).length_eq
      rw [z, List.length_take, List.length_drop] at this
      simp at this
      omega
    · rw [(srt_perm at_ _).length_eq, List.length_take]
      omega
    · rw [List.flatten_append, Nat.succ_mul, List.take_add]
      refine fp.append ?_
      rw [List.flatten_cons, List.flatten_nil, List.append_nil]
      exact srt_perm at_ _
  · rintro σ H' ⟨y4, ls, runs, rfl, eN, hT', eR, rl, gr, fp, rlen, nRls⟩
    refine ⟨_, rfl, q R H' ls runs eN hT' eR rl gr ?_ rlen⟩
    rw [List.take_of_length_le] at fp
    · exact fp
    · unfold ceilN
      have := Nat.div_add_mod (ps.length + mem - 1) mem
      have h3 := Nat.mod_lt (ps.length + mem - 1) (show 0 < mem by omega)
      rw [Nat.mul_comm] at this
      omega
end
end Kx

namespace Kx
open PySem PySem.Spec PyProof.Rows L2
theorem perm_inv {α β : Type} {f : α → β} {us vs : List β} (h : us.Perm vs) : ∀ l : List α, l.map f = vs → ∃ l' : List α, l'.Perm l ∧ l'.map f = us := by
  induction h with
  | nil =>
    intro l e
    exact ⟨l, List.Perm.refl _, e⟩
  | cons x _ ih =>
    intro l e
    cases l with
    | nil => cases e
    | cons a l =>
      rw [List.map_cons] at e
      obtain ⟨e1, e2⟩ := List.cons.inj e
      obtain ⟨l', p, e3⟩ := ih l e2
      exact ⟨a :: l', p.cons a, by rw [List.map_cons, e1, e3]⟩
  | swap x y l0 =>
    intro l e
    match l, e with
    | a :: b :: l, e =>
      rw [List.map_cons, List.map_cons] at e
      obtain ⟨e1, e2⟩ := List.cons.inj e
      obtain ⟨e3, e4⟩ := List.cons.inj e2
      exact ⟨b :: a :: l, List.Perm.swap a b l, by rw [List.map_cons, List.map_cons, e1, e3, e4]⟩
  | trans _ _ ih1 ih2 =>
    intro l e
    obtain ⟨l1, p1, e1⟩ := ih2 l e
    obtain ⟨l2, p2, e2⟩ := ih1 l1 e1
    exact ⟨l2, p2.trans p1, e2⟩
/-! ### entries -/
abbrev Et := Addr × Nat × Nat
def runAt (runs : List (List (Addr × Rw))) (r : Nat) : List (Addr × Rw) := runs.getD r []
def rest (runs : List (List (Addr × Rw))) (es : List Et) : List (Addr × Rw) := es.flatMap fun e => (runAt runs e.2.1).drop e.2.2
def kvV (at_ : Nat) (r : Rw) : V := if at_ = 0 then .int r.1 else if at_ = 1 then .str r.2.1 else .int r.2.2
def entOf (at_ : Nat) (p : Addr × Rw) (r k : Nat) : PyData := entD (kvOf at_ p.2) [.int p.2.1, .str p.2.2.1, .int p.2.2.2] r k
structure HeadAt (K : PySem.W.Frag) (H : Hp) (at_ : Nat) (κ : Addr → PyData) (runs : List (List (Addr × Rw))) (e : Et) (p : Addr × Rw) : Prop where
  hd : (runAt runs e.2.1)[e.2.2]? = some p
  lt : e.2.1 < runs.length
  tup : H e.1 = some (.tup [kvV at_ p.2, .ref p.1, .int (e.2.1 : Int), .int (e.2.2 : Int)])
  row : RowAt K H p
  key : κ e.1 = entOf at_ p e.2.1 e.2.2
structure Heads (K : PySem.W.Frag) (H : Hp) (at_ : Nat) (heads : Addr) (κ : Addr → PyData) (runs : List (List (Addr × Rw))) (es : List Et) : Prop where
  lst : H heads = some (.lst ((es.map (·.1)).map V.ref))
  heap : Hk.IsHeap (ltk κ) (es.map (·.1))
  ent : ∀ e ∈ es, ∃ p, HeadAt K H at_ κ runs e p
theorem kv_dp {K : PySem.W.Frag} {H : Hp} (at_ : Nat) (r : Rw) : Dp K H (kvV at_ r) (kvOf at_ r) := by
  unfold kvV kvOf
  split
  · exact .int _
  · split
    · exact .str _
    · exact .int _
theorem HeadAt.ent {K : PySem.W.Frag} {H : Hp} {at_ : Nat} {κ : Addr → PyData} {runs : List (List (Addr × Rw))} {e : Et} {p : Addr × Rw} (h : HeadAt K H at_ κ runs e p) : EntAt K H e.1 (kvOf at_ p.2) [.int p.2.1, .str p.2.2.1, .int p.2.2.2] e.2.1 e.2.2 :=
  ⟨_, _, _, h.tup, kv_dp at_ p.2, kv_flat at_ p.2, h.row, .cons (.int _) (.cons (.str _) (.cons (.int _) .nil)), row_flat p.2⟩
theorem ent_alike (at_ : Nat) (p q : Addr × Rw) (r k r' k' : Nat) : PySem.W.alike (entOf at_ p r k) (entOf at_ q r' k') = true := by
  have h1 := kv_alike at_ p.2 q.2
  simp [entOf, entD, PySem.W.alike, PySem.W.alikeAll, h1]
theorem ents_of {K : PySem.W.Frag} {H : Hp} {at_ : Nat} {κ : Addr → PyData} {runs : List (List (Addr × Rw))} {es : List Et} (h : ∀ e ∈ es, ∃ p, HeadAt K H at_ κ runs e p) : Ents K H κ (es.map (·.1)) := by
  refine ⟨fun t ht => ?_, fun t ht u hu => ?_⟩
  · obtain ⟨e, he, rfl⟩ := List.mem_map.mp ht
    obtain ⟨p, hp⟩ := h e he
    exact ⟨_, _, _, _, hp.ent, hp.key⟩
  · obtain ⟨e, he, rfl⟩ := List.mem_map.mp ht
    obtain ⟨p, hp⟩ := h e he
    obtain ⟨e', he', rfl⟩ := List.mem_map.mp hu
    obtain ⟨p', hp'⟩ := h e' he'
    rw [hp.key, hp'.key]
    exact ent_alike at_ p p' _ _ _ _
/-! ### the order of entries goes on from that of keys -/
theorem lex_longer : ∀ (A B s x y : List (Int ⊕ List Nat)), A.length = B.length → PyProof.Rows.lexLt itemOrd (A ++ s) (B ++ s) = true → PyProof.Rows.lexLt itemOrd (A ++ x) (B ++ y) = true
  | [], [], s, x, y, _, h => by
    have := lex_irrefl (O := itemOrd) s
    rw [List.nil_append] at h
    rw [this] at h
    cases h
  | a :: A, b :: B, s, x, y, hl, h => by
    have ih := lex_longer A B s x y (Nat.succ.inj hl)
    rw [List.cons_append, List.cons_append] at h ⊢
    rcases lex_true.mp h with z | ⟨z1, z2⟩
    · exact lex_true.mpr (.inl z)
    · exact lex_true.mpr (.inr ⟨z1, ih z2⟩)
theorem toks_ent (at_ : Nat) (p : Addr × Rw) (r k : Nat) : PySem.W.keyToks (entOf at_ p r k) = (.inl 1 :: (PySem.W.keyToks (kvOf at_ p.2) ++ (.inl 1 :: PySem.W.keyToks (rowDt p.2)))) ++ [.inl 1, .inl (r : Int), .inl 1, .inl (k : Int), .inl 0] := by
  simp [entOf, entD, rowDt, PySem.W.keyToks, PySem.W.keyToksAll]
theorem toks_key (at_ : Nat) (r : Rw) : PySem.W.keyToks (keyOf at_ r) = (.inl 1 :: (PySem.W.keyToks (kvOf at_ r) ++ (.inl 1 :: PySem.W.keyToks (rowDt r)))) ++ [.inl 0] := by
  simp [keyOf, PySem.W.keyToks, PySem.W.keyToksAll]
theorem ent_le {at_ : Nat} {p q : Addr × Rw} {r k r' k' : Nat} (h : PySem.W.dataLt (entOf at_ q r' k') (entOf at_ p r k) = false) : leR at_ p.2 q.2 = true := by
  unfold leR
  cases e : PySem.W.dataLt (keyOf at_ q.2) (keyOf at_ p.2) with
  | false => rfl
  | true =>
    unfold PySem.W.dataLt at e h
    rw [toks_key, toks_key] at e
    rw [toks_ent, toks_ent, lex_longer _ _ [.inl 0] _ _ (by simp [kv_toks_len, rowDt, PySem.W.keyToks, PySem.W.keyToksAll]) e] at h
    cases h
end Kx

namespace Kx
open PySem PySem.Spec PyProof.Rows L2
abbrev sMerged : Stmt := topS 7
theorem heap_congr {κ κ' : Addr → PyData} {ts : List Addr} (h : ∀ t ∈ ts, κ t = κ' t) (hh : Hk.IsHeap (ltk κ) ts) : Hk.IsHeap (ltk κ') ts := fun i i0 il => by
  have h1 := h _ (List.mem_of_getElem? (Hk.at_get il))
  have h2 := h _ (List.mem_of_getElem? (Hk.at_get (show (i - 1) / 2 < ts.length by omega)))
  have := hh i i0 il
  unfold ltk at *
  rw [← h1, ← h2]
  exact this
theorem kv_ix {K : PySem.W.Frag} {H : Hp} {at_ : Nat} (h2 : at_ ≤ 2) {p : Addr × Rw} : atI [V.int p.2.1, .str p.2.2.1, .int p.2.2.2] (at_ : Int) = some (kvV at_ p.2) := by
  rcases (show at_ = 0 ∨ at_ = 1 ∨ at_ = 2 by omega) with e | e | e <;> subst e <;> rfl
theorem HeadAt.but {K : PySem.W.Frag} {H : Hp} {at_ : Nat} {κ κ' : Addr → PyData} {runs : List (List (Addr × Rw))} {e : Et} {p : Addr × Rw} {H' : Hp} {d : Addr} {l : List V} (h : HeadAt K H at_ κ runs e p) (b : But d H H') (hd : H d = some (.lst l)) (hk : κ' e.1 = κ e.1) : HeadAt K H' at_ κ' runs e p :=
  ⟨h.hd, h.lt, b _ _ (fun z => by have := h.tup; rw [z, hd] at this; cases this) h.tup, b.sqT ⟨_, hd⟩ h.row, hk.trans h.key⟩
theorem HeadAt.same {K : PySem.W.Frag} {H : Hp} {at_ : Nat} {κ : Addr → PyData} {runs : List (List (Addr × Rw))} {e : Et} {p : Addr × Rw} {H' : Hp} (h : HeadAt K H at_ κ runs e p) (b : Same H H') : HeadAt K H' at_ κ runs e p :=
  ⟨h.hd, h.lt, b _ _ h.tup, Same.sqT b h.row, h.key⟩
theorem Heads.same {K : PySem.W.Frag} {H : Hp} {at_ : Nat} {heads : Addr} {κ : Addr → PyData} {runs : List (List (Addr × Rw))} {es : List Et} {H' : Hp} (h : Heads K H at_ heads κ runs es) (b : Same H H') : Heads K H' at_ heads κ runs es :=
  ⟨b _ _ h.lst, h.heap, fun e he => let ⟨p, hp⟩ := h.ent e he; ⟨p, hp.same b⟩⟩
section
variable {P : Program} {w : World} {K : PySem.W.Frag} {mg : Str → Option Value} {base : Heap}
/-- heappush of a new entry -/
theorem push_head {H : Hp} {at_ : Nat} {heads : Addr} {κ : Addr → PyData} {runs : List (List (Addr × Rw))} {es : List Et} {t r k : _} {p : Addr × Rw} {Q : VK} (h : Heads K H at_ heads κ runs es) (hl : es.length < 900) (nt : t ≠ heads)
    (new : ∀ e ∈ es, e.1 ≠ t) (hd : (runAt runs r)[k]? = some p) (hr : r < runs.length) (tup : H t = some (.tup [kvV at_ p.2, .ref p.1, .int ((r : Nat) : Int), .int ((k : Nat) : Int)])) (row : RowAt K H p)
    (q : ∀ (κ' : Addr → PyData) (es' : List Et) (H' : Hp), es'.Perm (es ++ [(t, r, k)]) → But heads H H' → (∃ l, H heads = some (.lst l)) → Heads K H' at_ heads κ' runs es' → Q .non H') : rPush K [.ref heads, .ref t] H Q := by
  refine ⟨heads, t, es.map (·.1), fun u => if u = t then entOf at_ p r k else κ u, rfl, h.lst, by rw [List.length_map]; omega, heap_congr (κ := κ) (fun u hu => ?_) h.heap, ?_, fun us hp hh => ?_⟩
  · obtain ⟨e, he, rfl⟩ := List.mem_map.mp hu
    exact (if_neg (new e he)).symm
  · have : es.map (·.1) ++ [t] = (es ++ [(t, r, k)]).map (·.1) := by rw [List.map_append]; rfl
    rw [this]
    refine ents_of (at_ := at_) (runs := runs) fun e he => ?_
    rcases List.mem_append.mp he with he | he
    · obtain ⟨p', hp'⟩ := h.ent e he
      exact ⟨p', hp'.hd, hp'.lt, hp'.tup, hp'.row, (if_neg (new e he)).trans hp'.key⟩
    · rw [List.mem_singleton.mp he]
      exact ⟨p, hd, hr, tup, row, if_pos rfl⟩
  · obtain ⟨es', pe, em⟩ := perm_inv hp (es ++ [(t, r, k)]) (by rw [List.map_append]; rfl)
    subst em
    have bt : But heads H (upd H heads (.lst ((es'.map (·.1)).map V.ref))) := fun b o hb e => by
      rw [upd_ne hb]
      exact e
    refine q _ es' _ pe bt ⟨_, h.lst⟩ ⟨upd_same, hh, fun e he => ?_⟩
    rcases List.mem_append.mp (pe.mem_iff.mp he) with he | he
    · obtain ⟨p', hp'⟩ := h.ent e he
      exact ⟨p', hp'.but bt h.lst (if_neg (new e he))⟩
    · rw [List.mem_singleton.mp he]
      exact ⟨p, hd, hr, bt _ _ nt tup, bt.sqT ⟨_, h.lst⟩ row, if_pos rfl⟩
/-- heappop -/
theorem pop_head {H : Hp} {at_ : Nat} {heads : Addr} {κ : Addr → PyData} {runs : List (List (Addr × Rw))} {es : List Et} {Q : VK} (h : Heads K H at_ heads κ runs es) (hl : es.length < 900) (hne : es ≠ [])
    (q : ∀ (e : Et) (p : Addr × Rw) (es' : List Et) (H' : Hp), (e :: es').Perm es → HeadAt K H' at_ κ runs e p → (∀ e' ∈ es', ∀ p', (runAt runs e'.2.1)[e'.2.2]? = some p' → leR at_ p.2 p'.2 = true) → But heads H H' → Heads K H' at_ heads κ runs es' → Q (.ref e.1) H') : rPop K [.ref heads] H Q := by
  refine ⟨heads, es.map (·.1), κ, rfl, h.lst, fun z => hne (List.map_eq_nil_iff.mp z), by rw [List.length_map]; omega, h.heap, ents_of h.ent, fun t us hp hh hmin => ?_⟩
  obtain ⟨l, pe, em⟩ := perm_inv hp es rfl
  cases l with
  | nil => cases em
  | cons e es' =>
    rw [List.map_cons] at em
    obtain ⟨e1, e2⟩ := List.cons.inj em
    subst e1
    subst e2
    have bt : But heads H (upd H heads (.lst ((es'.map (·.1)).map V.ref))) := fun b o hb e => by
      rw [upd_ne hb]
      exact e
    have he : e ∈ es := pe.mem_iff.mp List.mem_cons_self
    obtain ⟨p, hpp⟩ := h.ent e he
    refine q e p es' _ pe (hpp.but bt h.lst rfl) (fun e' he' p' hp' => ?_) bt ⟨upd_same, hh, fun e' he' => ?_⟩
    · have he2 : e' ∈ es := pe.mem_iff.mp (List.mem_cons_of_mem _ he')
      obtain ⟨p2, hp2⟩ := h.ent e' he2
      have : p2 = p' := by
        have := hp2.hd
        rw [hp'] at this
        cases this
        rfl
      subst this
      have m := hmin e'.1 (List.mem_map_of_mem he2)
      unfold ltk at m
      rw [hp2.key, hpp.key] at m
      exact ent_le m
    · obtain ⟨p2, hp2⟩ := h.ent e' (pe.mem_iff.mp (List.mem_cons_of_mem _ he'))
      exact ⟨p2, hp2.but bt h.lst rfl⟩
end
end Kx

namespace Kx
open PySem PySem.Spec PyProof.Rows L2
theorem same_none {H H' : Hp} {b : Addr} (h : Same H H') (e : H' b = none) : H b = none := by
  cases k : H b with
  | none => rfl
  | some o => rw [h _ _ k] at e; cases e
theorem same_then {H H1 H2 : Hp} {d : Addr} (h : Same H H1) (hd : H d = none) (b : But d H1 H2) : Same H H2 := fun x o e => b _ _ (ne_of_none e hd) (h _ _ e)
theorem but_lst {H : Hp} {d : Addr} {o : HO} : But d H (upd H d o) := fun b o' hb e => by
  rw [upd_ne hb]
  exact e
theorem RunsL.but {K : PySem.W.Frag} {H H' : Hp} {ls : List Addr} {runs : List (List (Addr × Rw))} {d : Addr} {l : List V} (r : RunsL K H ls runs) (b : But d H H') (hd : H d = some (.lst l)) (hn : d ∉ ls) : RunsL K H' ls runs :=
  ⟨r.len, fun i l' run h1 h2 => b _ _ (fun e => hn (by rw [← e]; exact List.mem_of_getElem? h1)) (r.lst i l' run h1 h2), fun run h p hp => b.sqT ⟨_, hd⟩ (r.row run h p hp)⟩
theorem AllRows.but {K : PySem.W.Frag} {H H' : Hp} {ps : List (Addr × Rw)} {d : Addr} {l : List V} (h : AllRows K H ps) (b : But d H H') (hd : H d = some (.lst l)) : AllRows K H' ps := fun p hp => b.sqT ⟨_, hd⟩ (h p hp)
theorem at_nat {xs : List V} {j : Nat} {v : V} (h : xs[j]? = some v) : atI xs ((j : Nat) : Int) = some v := atI_nat h
theorem runAt_get {runs : List (List (Addr × Rw))} {r : Nat} (h : r < runs.length) : runs[r]? = some (runAt runs r) := by
  unfold runAt
  rw [List.getD_eq_getElem?_getD, List.getElem?_eq_getElem h]
  rfl
theorem refs_get {ps : List (Addr × Rw)} {k : Nat} {p : Addr × Rw} (h : ps[k]? = some p) : (refs ps)[k]? = some (.ref p.1) := by
  unfold refs
  rw [List.getElem?_map, h]
  rfl
theorem Heads.but {K : PySem.W.Frag} {H : Hp} {at_ : Nat} {heads : Addr} {κ : Addr → PyData} {runs : List (List (Addr × Rw))} {es : List Et} {H' : Hp} {d : Addr} {l : List V} (h : Heads K H at_ heads κ runs es) (b : But d H H') (hd : H d = some (.lst l)) (ne : heads ≠ d) : Heads K H' at_ heads κ runs es :=
  ⟨b _ _ ne h.lst, h.heap, fun e he => let ⟨p, hp⟩ := h.ent e he; ⟨p, hp.but b hd rfl⟩⟩
/-- in the midst of a merge -/
structure MInv (K : PySem.W.Frag) (H : Hp) (at_ : Nat) (hd rw_ RL : Addr) (runs : List (List (Addr × Rw))) (es : List Et) (out : List (Addr × Rw)) (H' : Hp) : Prop where
  sm : Same H H'
  hh : ∃ κ, Heads K H' at_ hd κ runs es
  rows : H' rw_ = some (.lst (refs out))
  all : AllRows K H' out
  perm : (out ++ rest runs es).Perm runs.flatten
  so : out.Pairwise fun p q => leR at_ p.2 q.2 = true
  le : ∀ x ∈ out, ∀ e ∈ es, ∀ p, (runAt runs e.2.1)[e.2.2]? = some p → leR at_ x.2 p.2 = true
  few : es.length ≤ 100
section
variable {P : Program} {w : World} {K : PySem.W.Frag} {mg : Str → Option Value} {base : Heap}
theorem RunsL.fresh {K : PySem.W.Frag} {H : Hp} {ls : List Addr} {runs : List (List (Addr × Rw))} {d : Addr} (r : RunsL K H ls runs) (hd : H d = none) : d ∉ ls := fun h => by
  obtain ⟨i, hi, e⟩ := List.getElem_of_mem h
  have h1 : ls[i]? = some d := by rw [List.getElem?_eq_getElem hi, e]
  have hi2 : i < runs.length := by rw [← r.len]; exact hi
  have := r.lst i d _ h1 (List.getElem?_eq_getElem hi2)
  rw [hd] at this
  cases this
theorem rest_perm {runs : List (List (Addr × Rw))} {es es' : List Et} (h : es.Perm es') : (rest runs es).Perm (rest runs es') := List.Perm.flatMap_right _ h
def spMerged (K : PySem.W.Frag) : Sp := fun vs H Q _ => ∃ (RL : Addr) (at_ : Nat) (ls : List Addr) (runs : List (List (Addr × Rw))), vs = [.ref RL, .int (at_ : Int)] ∧ SqL K H RL (ls.map V.ref) ∧ RunsL K H ls runs ∧ (∀ run ∈ runs, run ≠ []) ∧ (∀ run ∈ runs, run.Pairwise fun p q => leR at_ p.2 q.2 = true) ∧ at_ ≤ 2 ∧ runs.length ≤ 100 ∧ runs.flatten.length ≤ 200 ∧
  ∀ (D : Addr) (H' : Hp) (out : List (Addr × Rw)), Same H H' → H D = none → H' D = some (.lst (refs out)) → AllRows K H' out → out.Perm runs.flatten → (out.Pairwise fun p q => leR at_ p.2 q.2 = true) → Q (.ref D) H'
abbrev N_merged : List Str := ["runs", "at", "heads", "number", "run", "rows", "_", "row", "place"]
theorem sc_merged : FnScope N_merged ["runs", "at"] (defScope sMerged) := ⟨rfl, rfl, rfl, by decide +kernel, rfl, by decide +kernel, by decide +kernel⟩
theorem ok_merged {f : Addr} {fd : FuncData} (F : Fun K "merged" "merged" sMerged f fd) (m_enumerate : mg "enumerate" = none) (m_len : mg "len" = none) (m_push : mg "heappush" = some (.builtin "_heapq.heappush")) (m_pop : mg "heappop" = some (.builtin "_heapq.heappop")) :
    FnOk P w K mg base CX0 1 f fd ["runs", "at"] (spMerged K) := by
  refine F.ok sc_merged (fun vs H Q E h => ?_) (fun cdv A outer s H vs Q E hr h => ?_)
  · obtain ⟨RL, at_, ls, runs, rfl, _⟩ := h
    rfl
  obtain ⟨RL, at_, ls, runs, rfl, hS, rl, hne, hso, h2, hn, hfl, q⟩ := h
  have nd := sc_merged.nd
  have hu64 : _ + 64 < cLine := hr.units
  refine ⟨_, pss_cons (ps_set (i := 2) nd rfl (.inl rfl) (pe_lst pa_nil))
      (pss_cons (ps_for PassesOwn.never rfl (pi_enum (by rfl) m_enumerate (pa_cons (pv 0) pa_nil)) (pg_tup rfl (pgs_cons (pg_name (i := 3) nd rfl (.inl rfl)) (pgs_cons (pg_name (i := 4) nd rfl (.inl rfl)) pgs_nil))) (pss_one (ps_expr (pe_callMB (cr_push hu64) (by rfl) m_push (pa_cons (pv 2) (pa_cons (pe_tup (pa_cons (pe_ix ix_tup (pe_ix ix_list (pv 4) pe_int (fun _ _ => rfl)) (pv 1) (fun _ _ => rfl)) (pa_cons (pe_ix ix_list (pv 4) pe_int (fun _ _ => rfl)) (pa_cons (pv 3) (pa_cons pe_int pa_nil))))) pa_nil))))))
      (pss_cons (ps_set (i := 5) nd rfl (.inl rfl) (pe_lst pa_nil))
      (pss_cons (ps_while PassesOwn.never (pt_truth (pv 2) (by intro _; rfl)) (pss_cons (ps_asg (pe_callMB (cr_pop hu64) (by rfl) m_pop (pa_cons (pv 2) pa_nil)) (pg_tup rfl (pgs_cons (pg_name (i := 6) nd rfl (.inl rfl)) (pgs_cons (pg_name (i := 7) nd rfl (.inl rfl)) (pgs_cons (pg_name (i := 3) nd rfl (.inl rfl)) (pgs_cons (pg_name (i := 8) nd rfl (.inl rfl)) pgs_nil))))))
      (pss_cons (ps_expr (pe_bm PySem.F.plainAttrs_list PySem.F.slot_list_append PySem.F.type_list_append mt_append (pv 5) (pa_cons (pv 7) pa_nil)))
      (pss_one (ps_if (pt_cmpR op_lt (pe_op op_add (pv 8) pe_int) (pe_callB call_len_seq (by rfl) m_len PySem.boot_len (pa_cons (pe_ix ix_list (pv 0) (pv 3) (fun _ _ => rfl)) pa_nil)) (nomark _)) (pss_cons (ps_set (i := 7) nd rfl (.inl rfl) (pe_ix ix_list (pe_ix ix_list (pv 0) (pv 3) (fun _ _ => rfl)) (pe_op op_add (pv 8) pe_int) (fun _ _ => rfl)))
      (pss_one (ps_expr (pe_callMB (cr_push hu64) (by rfl) m_push (pa_cons (pv 2) (pa_cons (pe_tup (pa_cons (pe_ix ix_tup (pv 7) (pv 1) (fun _ _ => rfl)) (pa_cons (pv 7) (pa_cons (pv 3) (pa_cons (pe_op op_add (pv 8) pe_int) pa_nil))))) pa_nil)))))) (pss_nil))))))
      (pss_one (ps_ret (pv 5)))))), ?_⟩
  refine ⟨Nat.zero_le _, fun hd nhd => ?_⟩
  have s1 := same_upd (o := .lst []) nhd
  refine ⟨_, rfl, RL, _, rfl, Same.sqL s1 hS, ?_⟩
  refine ⟨fun i m σ H' => m = runs.length - i ∧ i ≤ runs.length ∧ ∃ y3 y4 κ es, σ = [some (.ref RL), some (.int (at_ : Int)), some (.ref hd), y3, y4, none, none, none, none] ∧ Same H H' ∧ Heads K H' at_ hd κ runs es ∧ (rest runs es).Perm (runs.take i).flatten ∧ es.length = i,
    ⟨_, rfl, Nat.zero_le _, none, none, fun _ => .none, [], rfl, s1, ⟨upd_same, fun i _ il => absurd il (Nat.not_lt_zero _), fun e he => absurd he (List.not_mem_nil)⟩, List.Perm.refl _, rfl⟩, ?_⟩
  rintro i m σ H' ⟨rfl, hi, y3, y4, κ, es, rfl, sm, hh, hp, el⟩
  have cq := Same.sqL sm hS
  by_cases hlt : i < runs.length
  · have hll : i < ls.length := by rw [rl.len]; exact hlt
    refine .inr ⟨⟨_, .ref ls[i], cq, by rw [List.getElem?_map, List.getElem?_eq_getElem hll]; rfl⟩, fun σ' H'' => ∃ y3 y4 κ es, σ' = [some (.ref RL), some (.int (at_ : Int)), some (.ref hd), y3, y4, none, none, none, none] ∧ Same H H'' ∧ Heads K H'' at_ hd κ runs es ∧ (rest runs es).Perm (runs.take (i + 1)).flatten ∧ es.length = i + 1, fun σ' H'' z => ⟨runs.length - (i + 1), by omega, rfl, hlt, z⟩, fun x H2 y => ?_⟩
    obtain ⟨T, x', rfl, nT, rfl, ex⟩ := y
    have ex' := ex _ cq
    rw [List.getElem?_map, List.getElem?_eq_getElem hll] at ex'
    cases ex'
    have hrun := runAt_get hlt
    have hl0 := rl.lst i _ _ (List.getElem?_eq_getElem hll) hrun
    have hmem : runAt runs i ∈ runs := List.mem_of_getElem? hrun
    obtain ⟨p, ep⟩ : ∃ p, (runAt runs i)[0]? = some p := by
      have := hne _ hmem
      cases hr0 : runAt runs i with
      | nil => exact absurd hr0 this
      | cons p r => exact ⟨p, rfl⟩
    have hrowp : RowAt K H p := rl.row _ hmem p (List.mem_of_getElem? ep)
    have s3 := same_upd (o := .tup [.int (i : Nat), .ref ls[i]]) nT
    have s4 := sm.trans s3
    refine ⟨T, _, rfl, SqT.of upd_same, rfl, _, _, rfl, _, _, rfl, rfl, ?_⟩
    refine ⟨_, rfl, _, rfl, ls[i], _, 0, _, rfl, rfl, SqL.of (s4 _ _ hl0), at_nat (j := 0) (refs_get ep), _, rfl, p.1, _, _, _, rfl, rfl, Same.sqT s4 hrowp, kv_ix (K := K) (H := H) h2, ?_⟩
    refine ⟨_, rfl, ls[i], _, 0, _, rfl, rfl, SqL.of (s4 _ _ hl0), at_nat (j := 0) (refs_get ep), _, rfl, (by show 4 ≤ sizeLine; decide), fun t nt => ?_⟩
    have s5 := s4.trans (same_upd (o := .tup [kvV at_ p.2, .ref p.1, .int (i : Nat), .int 0]) nt)
    have hh5 := (hh.same s3).same (same_upd (o := .tup [kvV at_ p.2, .ref p.1, .int (i : Nat), .int 0]) nt)
    dsimp only [tNil]
    refine push_head (K := K) (p := p) (r := i) (k := 0) hh5 (by omega) (fun e => ?_) (fun e he z => ?_) ep hlt upd_same (Same.sqT s5 hrowp) (fun κ' es' H4 pe bt hl4 hh4 => ?_)
    · have := (hh.same s3).lst
      rw [← e, nt] at this
      cases this
    · obtain ⟨p', hp'⟩ := (hh.same s3).ent e he
      have := hp'.tup
      rw [z, nt] at this
      cases this
    · refine ⟨_, _, κ', es', rfl, same_then s5 nhd bt, hh4, (rest_perm pe).trans ?_, ?_⟩
      · have e1 : rest runs (es ++ [(t, i, 0)]) = rest runs es ++ runAt runs i := by
          unfold rest
          rw [List.flatMap_append]
          simp
        rw [e1, List.take_add_one, hrun]
        simp only [Option.toList, List.flatten_append, List.flatten_cons, List.flatten_nil, List.append_nil]
        exact hp.append_right _
      · rw [pe.length_eq, List.length_append, el]
        rfl
  · have e : i = runs.length := by omega
    subst e
    refine .inl ⟨⟨_, cq, by rw [List.length_map, rl.len]; exact Nat.le_refl _⟩, ?_⟩
    rw [List.take_length] at hp
    refine ⟨Nat.zero_le _, fun rw_ nrw => ?_⟩
    have nhr : hd ≠ rw_ := fun e => by
      have := hh.lst
      rw [e, nrw] at this
      cases this
    have nrw0 : H rw_ = none := same_none sm nrw
    have s6 := same_upd (o := .lst []) nrw
    refine ⟨fun m σ H'' => ∃ y3 y4 y6 y7 y8 es out, m = (rest runs es).length ∧ σ = [some (.ref RL), some (.int (at_ : Int)), some (.ref hd), y3, y4, some (.ref rw_), y6, y7, y8] ∧ MInv K H at_ hd rw_ RL runs es out H'',
      ⟨_, _, _, none, none, none, es, [], rfl, rfl, ⟨sm.trans s6, ⟨κ, hh.same s6⟩, upd_same, fun p hp => absurd hp List.not_mem_nil, hp, List.Pairwise.nil, fun x hx => absurd hx List.not_mem_nil, by omega⟩⟩, ?_⟩
    clear hh hp s6 cq sm
    rintro m σ H2 ⟨y3, y4, y6, y7, y8, es2, out, rfl, rfl, I⟩
    obtain ⟨κ2, hh2⟩ := I.hh
    refine ⟨_, rfl, _, .inl ⟨_, SqL.of hh2.lst, rfl⟩, ite2 (fun c => ?_) (fun c => ?_)⟩
    · have hes : es2 ≠ [] := fun e => by
        rw [e] at c
        cases c
      refine ⟨fun σ' H' => ∃ m', m' < (rest runs es2).length ∧ ∃ y3 y4 y6 y7 y8 es out, m' = (rest runs es).length ∧ σ' = [some (.ref RL), some (.int (at_ : Int)), some (.ref hd), y3, y4, some (.ref rw_), y6, y7, y8] ∧ MInv K H at_ hd rw_ RL runs es out H', fun σ' H' z => z, ?_⟩
      refine ⟨_, rfl, ?_⟩
      dsimp only [tNil]
      refine pop_head (K := K) hh2 (by have := I.few; omega) hes (fun e p es' H3 pe hp3 hmin bt hh3 => ?_)
      have hlt := hp3.lt
      have hll : e.2.1 < ls.length := by rw [rl.len]; exact hlt
      have hrun := runAt_get hlt
      have hmem : runAt runs e.2.1 ∈ runs := List.mem_of_getElem? hrun
      have sm3 := same_then I.sm nhd bt
      have erw3 := bt _ _ nhr.symm I.rows
      have all3 := I.all.but bt hh2.lst
      refine ⟨e.1, _, rfl, SqT.of hp3.tup, rfl, _, _, rfl, _, _, rfl, _, _, rfl, _, _, rfl, rfl, ?_⟩
      have olen : out.length ≤ 200 := by
        have := I.perm.length_eq
        rw [List.length_append] at this
        omega
      refine ⟨_, rfl, .inl ⟨rfl, _, SqL.of erw3⟩, _, rfl, rw_, _, _, rfl, rfl, erw3, Nat.lt_of_lt_of_le (show (refs out).length < 300 by unfold refs; rw [List.length_map]; omega) (by decide), ?_⟩
      have b4 : But rw_ H3 (upd H3 rw_ (.lst (refs out ++ [.ref p.1]))) := but_lst
      have erw4 : upd H3 rw_ (.lst (refs out ++ [.ref p.1])) rw_ = some (.lst (refs (out ++ [p]))) := by
        rw [upd_same]
        unfold refs
        rw [List.map_append]
        rfl
      have hh4 := hh3.but b4 erw3 nhr
      have sm4 := same_then sm3 nrw0 b4
      have hp4 := hp3.but (κ' := κ2) b4 erw3 rfl
      have all4 : AllRows K (upd H3 rw_ (.lst (refs out ++ [.ref p.1]))) (out ++ [p]) := fun x hx => by
        rcases List.mem_append.mp hx with hx | hx
        · exact (all3.but b4 erw3) x hx
        · rw [List.mem_singleton.mp hx]
          exact hp4.row
      generalize upd H3 rw_ (.lst (refs out ++ [.ref p.1])) = H4 at b4 erw4 hh4 sm4 hp4 all4 ⊢
      have eL := SqL.of (K := K) (sm4 _ _ (rl.lst _ _ _ (List.getElem?_eq_getElem hll) hrun))
      have cq4 := Same.sqL sm4 hS
      have hgl : (ls.map V.ref)[e.2.1]? = some (.ref ls[e.2.1]) := by rw [List.getElem?_map, List.getElem?_eq_getElem hll]; rfl
      have hkl : e.2.2 < (runAt runs e.2.1).length := (List.getElem?_eq_some_iff.mp hp3.hd).1
      have hgp : (runAt runs e.2.1)[e.2.2] = p := (List.getElem?_eq_some_iff.mp hp3.hd).2
      have hdrop : (runAt runs e.2.1).drop e.2.2 = p :: (runAt runs e.2.1).drop (e.2.2 + 1) := by rw [List.drop_eq_getElem_cons hkl, hgp]
      have rperm : (rest runs es2).Perm (p :: ((runAt runs e.2.1).drop (e.2.2 + 1) ++ rest runs es')) := by
        have := rest_perm (runs := runs) pe.symm
        unfold rest at this ⊢
        rw [List.flatMap_cons, hdrop] at this
        exact this
      have rlen := rperm.length_eq
      rw [List.length_cons, List.length_append] at rlen
      have elen := pe.length_eq
      rw [List.length_cons] at elen
      have efew := I.few
      have hee : e ∈ es2 := pe.mem_iff.mp List.mem_cons_self
      have so' : (out ++ [p]).Pairwise fun p q => leR at_ p.2 q.2 = true := List.pairwise_append.mpr ⟨I.so, List.pairwise_singleton _ _, fun x hx y hy => by
        rw [List.mem_singleton.mp hy]
        exact I.le x hx e hee p hp3.hd⟩
      have le' : ∀ x ∈ out ++ [p], ∀ e' ∈ es', ∀ p', (runAt runs e'.2.1)[e'.2.2]? = some p' → leR at_ x.2 p'.2 = true := fun x hx e' he' p' hp' => by
        rcases List.mem_append.mp hx with hx | hx
        · exact I.le x hx e' (pe.mem_iff.mp (List.mem_cons_of_mem _ he')) p' hp'
        · rw [List.mem_singleton.mp hx]
          exact hmin e' he' p' hp'
      refine ⟨_, rfl, _, _, rfl, rfl, _, rfl, _, rfl, RL, _, _, _, rfl, rfl, cq4, at_nat hgl, ls[e.2.1], _, rfl, .inl eL, _, _, rfl, rfl, _, rfl, ite2 (fun c2 => ?_) (fun c2 => ?_)⟩
      · have c2' : e.2.2 + 1 < (runAt runs e.2.1).length := by
          have := of_decide_eq_true c2
          unfold refs at this
          rw [List.length_map] at this
          omega
        have hp2 : (runAt runs e.2.1)[e.2.2 + 1]? = some (runAt runs e.2.1)[e.2.2 + 1] := List.getElem?_eq_getElem c2'
        have row2 : RowAt K H (runAt runs e.2.1)[e.2.2 + 1] := rl.row _ hmem _ (List.getElem_mem c2')
        have lep : leR at_ p.2 ((runAt runs e.2.1)[e.2.2 + 1]).2 = true := by
          have := List.pairwise_iff_getElem.mp (hso _ hmem) e.2.2 (e.2.2 + 1) hkl c2' (Nat.lt_succ_self _)
          rw [hgp] at this
          exact this
        have hdrop2 : (runAt runs e.2.1).drop (e.2.2 + 1) = (runAt runs e.2.1)[e.2.2 + 1] :: (runAt runs e.2.1).drop (e.2.2 + 2) := List.drop_eq_getElem_cons c2'
        generalize hp2e : (runAt runs e.2.1)[e.2.2 + 1] = p2 at hp2 row2 lep hdrop2
        refine ⟨_, rfl, _, rfl, RL, _, _, _, rfl, rfl, cq4, at_nat hgl, _, rfl, _, _, rfl, rfl, ls[e.2.1], _, _, _, rfl, rfl, eL, at_nat (j := e.2.2 + 1) (refs_get hp2), ?_⟩
        refine ⟨_, rfl, _, rfl, _, rfl, p2.1, _, _, _, rfl, rfl, Same.sqT sm4 row2, kv_ix (K := K) (H := H) h2, _, rfl, _, rfl, _, rfl, _, _, rfl, rfl, (by show 4 ≤ sizeLine; decide), fun t nt => ?_⟩
        have s5 := same_upd (o := .tup [kvV at_ p2.2, .ref p2.1, .int (e.2.1 : Int), .int ((e.2.2 : Int) + 1)]) nt
        have hh5 := hh4.same s5
        dsimp only [tNil]
        refine push_head (K := K) (p := p2) (r := e.2.1) (k := e.2.2 + 1) hh5 (by omega) (fun z => ?_) (fun e' he' z => ?_) hp2 hlt upd_same (Same.sqT (sm4.trans s5) row2) (fun κ' es'' H6 pe6 bt6 hl6 hh6 => ?_)
        · have := hh4.lst
          rw [← z, nt] at this
          cases this
        · obtain ⟨p', hp'⟩ := hh4.ent e' he'
          have := hp'.tup
          rw [z, nt] at this
          cases this
        · obtain ⟨l6, hl6⟩ := hl6
          have r6 : (rest runs es'').Perm (rest runs es' ++ (runAt runs e.2.1).drop (e.2.2 + 1)) := by
            have := rest_perm (runs := runs) pe6
            unfold rest at this ⊢
            rw [List.flatMap_append] at this
            simpa using this
          have l6e := r6.length_eq
          rw [List.length_append] at l6e
          have e6 := pe6.length_eq
          rw [List.length_append] at e6
          have one : [(t, e.2.1, e.2.2 + 1)].length = 1 := rfl
          refine ⟨_, ?_, _, _, _, _, _, es'', out ++ [p], rfl, rfl, ⟨same_then (sm4.trans s5) nhd bt6, ⟨κ', hh6⟩, bt6 _ _ nhr.symm (s5 _ _ erw4), (all4.same s5).but bt6 hl6, ?_, so', fun x hx e'' he'' p'' hp'' => ?_, by omega⟩⟩
          · omega
          · refine List.Perm.trans ?_ I.perm
            rw [List.append_assoc]
            refine List.Perm.append_left out ?_
            refine List.Perm.trans ?_ rperm.symm
            exact List.Perm.cons p (r6.trans List.perm_append_comm)
          · rcases List.mem_append.mp (pe6.mem_iff.mp he'') with he'' | he''
            · exact le' x hx e'' he'' p'' hp''
            · rw [List.mem_singleton.mp he''] at hp''
              have ep : p'' = p2 := by
                have z : (runAt runs e.2.1)[e.2.2 + 1]? = some p'' := hp''
                rw [hp2] at z
                cases z
                rfl
              rw [ep]
              rcases List.mem_append.mp hx with hx | hx
              · exact le_trans at_ _ _ _ (I.le x hx e hee p hp3.hd) lep
              · rw [List.mem_singleton.mp hx]
                exact lep
      · have c2' : (runAt runs e.2.1).length ≤ e.2.2 + 1 := by
          rcases Nat.lt_or_ge (e.2.2 + 1) (runAt runs e.2.1).length with z | z
          · refine absurd (decide_eq_true ?_) c2
            unfold refs
            rw [List.length_map]
            omega
          · exact z
        have dn : (runAt runs e.2.1).drop (e.2.2 + 1) = [] := List.drop_eq_nil_of_le c2'
        rw [dn, List.nil_append] at rperm
        refine ⟨_, ?_, _, _, _, _, _, es', out ++ [p], rfl, rfl, ⟨sm4, ⟨κ2, hh4⟩, erw4, all4, ?_, so', le', by omega⟩⟩
        · omega
        · refine List.Perm.trans ?_ I.perm
          rw [List.append_assoc]
          exact List.Perm.append_left out rperm.symm
    · have hes : es2 = [] := by
        cases es2 with
        | nil => rfl
        | cons a b => exact absurd rfl c
      subst hes
      have pf := I.perm
      rw [show rest runs [] = [] from rfl, List.append_nil] at pf
      exact ⟨_, rfl, q rw_ H2 out I.sm nrw0 I.rows I.all pf I.so⟩
end
end Kx

namespace Kx
open PySem PySem.Spec PyProof.Rows L2
abbrev sRoom : Stmt := topS 5
abbrev sRFor : Stmt := topS 9
abbrev sLRounds : Stmt := topS 16
/-! ### how many rounds -/
inductive Rounds (w : Nat) : Nat → Nat → Prop
  | done {r : Nat} : r ≤ 1 → Rounds w r 0
  | step {r n : Nat} : 1 < r → Rounds w (ceilN r w) n → Rounds w r (n + 1)
theorem Rounds.uniq {w : Nat} : ∀ {n m r : Nat}, Rounds w r n → Rounds w r m → n = m
  | 0, m, r, .done h, k => by
    cases k with
    | done _ => rfl
    | step h2 _ => omega
  | n + 1, m, r, .step h h1, k => by
    cases k with
    | done h2 => omega
    | step _ k2 => rw [Rounds.uniq h1 k2]
theorem ceil_lt {r w : Nat} (hw : 2 ≤ w) (hr : 1 < r) : ceilN r w < r := by
  unfold ceilN
  refine (Nat.div_lt_iff_lt_mul (by omega)).mpr ?_
  have : r * 2 ≤ r * w := Nat.mul_le_mul_left r hw
  have h2 : w ≤ (r - 1) * w + 0 := by
    have := Nat.mul_le_mul_right w (show 1 ≤ r - 1 by omega)
    omega
  have h3 : r * w = (r - 1) * w + w := by
    rw [← Nat.succ_mul]
    congr 1
    omega
  have h4 : (r - 1) * 2 ≤ (r - 1) * w := Nat.mul_le_mul_left (r - 1) hw
  omega
theorem ceil_int {r w : Nat} (hw : 1 ≤ w) : ((r : Int) + (w : Int) - 1) / (w : Int) = ((ceilN r w : Nat) : Int) := by
  unfold ceilN
  rw [Int.natCast_ediv]
  congr 1
  omega
section
variable {P : Program} {w : World} {K : PySem.W.Frag} {mg : Str → Option Value} {base : Heap}
def spLRounds : Sp := fun vs H Q _ => ∃ (many mem wd : Nat), vs = [.int (many : Int), .int (mem : Int), .int (wd : Int)] ∧ 1 ≤ mem ∧ mem ≤ 100 ∧ 2 ≤ wd ∧ wd ≤ 100 ∧ many ≤ 1000 ∧ ∀ n : Nat, Rounds wd (ceilN many mem) n → Q (.int (n : Int)) H
theorem sc_lrounds : FnScope ["many", "memory", "width", "runs", "found"] ["many", "memory", "width"] (defScope sLRounds) := ⟨rfl, rfl, rfl, by decide +kernel, rfl, by decide +kernel, by decide +kernel⟩
theorem ok_lrounds {f : Addr} {fd : FuncData} (F : Fun K "_law_rounds" "_law_rounds" sLRounds f fd) : FnOk P w K mg base CX0 1 f fd ["many", "memory", "width"] spLRounds := by
  refine F.ok sc_lrounds (fun vs H Q E h => ?_) (fun cdv A outer s H vs Q E hr h => ?_)
  · obtain ⟨many, mem, wd, rfl, _⟩ := h
    rfl
  obtain ⟨many, mem, wd, rfl, m1, m2, w1, w2, hm, q⟩ := h
  have nd := sc_lrounds.nd
  refine ⟨_, pss_cons (ps_par (i := 3) (j := 4) rfl nd rfl rfl (by decide) rfl rfl (pa_cons (pe_op op_fdiv (pe_op op_sub (pe_op op_add (pv 0) (pv 1)) pe_int) (pv 1)) (pa_cons pe_int pa_nil)) rfl)
      (pss_cons (ps_while PassesOwn.never (pt_cmpR op_gt (pv 3) pe_int (nomark _)) (pss_one (ps_par (i := 3) (j := 4) rfl nd rfl rfl (by decide) rfl rfl (pa_cons (pe_op op_fdiv (pe_op op_sub (pe_op op_add (pv 3) (pv 2)) pe_int) (pv 2)) (pa_cons (pe_op op_add (pv 4) pe_int) pa_nil)) rfl)))
      (pss_one (ps_ret (pv 4)))), ?_⟩
  refine ⟨_, rfl, _, rfl, _, _, rfl, rfl, _, _, rfl, rfl, _, rfl, _, _, rfl, rfl, ⟨by omega, by omega⟩, _, _, rfl, ?_⟩
  refine ⟨fun m σ H' => ∃ (r n : Nat), m = r ∧ σ = [some (.int (many : Int)), some (.int (mem : Int)), some (.int (wd : Int)), some (.int (r : Int)), some (.int (n : Int))] ∧ H' = H ∧ (∀ k, Rounds wd r k → Rounds wd (ceilN many mem) (n + k)) ∧ r ≤ 2000,
    ⟨_, ceilN many mem, 0, rfl, ?_, rfl, fun k h => by rw [Nat.zero_add]; exact h, ?_⟩, ?_⟩
  · rw [← ceil_int m1]
    rfl
  · exact Nat.le_trans (Nat.div_le_self _ _) (by omega)
  rintro m σ H' ⟨r, n, rfl, rfl, rfl, hk, hr2⟩
  refine ⟨_, rfl, _, _, rfl, rfl, _, rfl, ite2 (fun c => ?_) (fun c => ?_)⟩
  · have c' : 1 < m := by
      have := of_decide_eq_true c
      omega
    refine ⟨fun σ' H'' => ∃ m', m' < m ∧ ∃ (r n : Nat), m' = r ∧ σ' = [some (.int (many : Int)), some (.int (mem : Int)), some (.int (wd : Int)), some (.int (r : Int)), some (.int (n : Int))] ∧ H'' = H' ∧ (∀ k, Rounds wd r k → Rounds wd (ceilN many mem) (n + k)) ∧ r ≤ 2000, fun σ' H' z => z, ?_⟩
    refine ⟨_, rfl, _, rfl, _, _, rfl, rfl, _, _, rfl, rfl, _, rfl, _, _, rfl, rfl, ⟨by omega, by omega⟩, _, rfl, _, _, rfl, rfl, _, _, rfl, ?_⟩
    refine ⟨_, ceil_lt w1 c', ceilN m wd, n + 1, rfl, ?_, rfl, fun k h => ?_, Nat.le_trans (Nat.le_of_lt (ceil_lt w1 c')) hr2⟩
    · rw [← ceil_int (by omega : 1 ≤ wd)]
      rfl
    · have := hk (k + 1) (.step c' h)
      rw [show n + 1 + k = n + (k + 1) by omega]
      exact this
  · have c' : m ≤ 1 := by
      rcases Nat.lt_or_ge 1 m with z | z
      · exact absurd (decide_eq_true (show (1 : Int) < (m : Int) by omega)) c
      · exact z
    exact ⟨_, rfl, q n (hk 0 (.done c'))⟩
def spRoom (C : Addr) : Sp := fun vs H Q E => ∃ (m wd : Int), vs = [.int m, .int wd] ∧ (m < 1 → ∀ d, H d = none → E (.ref C) (some d) (upd H d (.xd [("thing", .int m)]))) ∧ (1 ≤ m → wd < 2 → ∀ d, H d = none → E (.ref C) (some d) (upd H d (.xd [("thing", .int wd)]))) ∧ (1 ≤ m → 2 ≤ wd → Q .non H)
theorem sc_room : FnScope ["memory", "width"] ["memory", "width"] (defScope sRoom) := ⟨rfl, rfl, rfl, by decide +kernel, rfl, by decide +kernel, by decide +kernel⟩
theorem ok_room {f C fI : Addr} {fd : FuncData} (F : Fun K "check_room" "check_room" sRoom f fd) (T : PySem.BadX.BadTxt K mg C fI) : FnOk P w K mg base (L2.CX P w) 2 f fd ["memory", "width"] (spRoom C) := by
  refine F.okX sc_room (fun vs H Q E h => ?_) (fun cdv A outer s H vs Q E hr h => ?_)
  · obtain ⟨m, wd, rfl, _⟩ := h
    rfl
  obtain ⟨m, wd, rfl, q1, q2, q3⟩ := h
  have nd := sc_room.nd
  refine ⟨_, pss_cons (ps_if (pt_cmpR op_lt (pv 0) pe_int (nomark _)) (pss_one (ps_raiseBad rfl T (hr.mono (by decide : 1 ≤ 1)) (takes_of rfl rfl rfl rfl) (pa_cons (pv 0) pa_nil))) (pss_nil))
      (pss_one (ps_if (pt_cmpR op_lt (pv 1) pe_int (nomark _)) (pss_one (ps_raiseBad rfl T (hr.mono (by decide : 1 ≤ 1)) (takes_of rfl rfl rfl rfl) (pa_cons (pv 1) pa_nil))) (pss_nil))), ?_⟩
  refine ⟨_, rfl, _, _, rfl, rfl, _, rfl, ite2 (fun c => ?_) (fun c => ?_)⟩
  · exact ⟨_, rfl, _, rfl, fun d nd' => q1 (of_decide_eq_true c) d nd'⟩
  · have c' : 1 ≤ m := by
      rcases Int.lt_or_le m 1 with z | z
      · exact absurd (decide_eq_true z) c
      · exact z
    refine ⟨_, rfl, _, _, rfl, rfl, _, rfl, ite2 (fun c2 => ?_) (fun c2 => ?_)⟩
    · exact ⟨_, rfl, _, rfl, fun d nd' => q2 c' (of_decide_eq_true c2) d nd'⟩
    · have c2' : 2 ≤ wd := by
        rcases Int.lt_or_le wd 2 with z | z
        · exact absurd (decide_eq_true z) c2
        · exact z
      exact q3 c' c2'
structure ReadyX (P : Program) (w : World) (K : PySem.W.Frag) (mg : Str → Option Value) (base : Heap) (k : Nat) (x : Str) (ps : List Str) (sp : Sp) : Prop where
  ex : ∃ f fd, FnOk P w K mg base (L2.CX P w) k f fd ps sp ∧ Binds K fd ps [] ∧ mg x = some (.ref f) ∧ PySem.W.keepIn K (.ref f) = true
end
theorem pe_fnX {X : Cx} {W : WX} {k : Nat} {x : Str} {ps : List Str} {sp : Sp} {p pos : Pos} {e : Expr} {es : List Expr} {t : TA} (G : ReadyX X.prog X.w X.K X.mg X.base k x ps sp) (hr : Room k X.A) (tk : Takes X W) (ha : PA X (e :: es) t) (hg : Gl X x := by rfl)
    (hdb : (x == ("__debug__" : Str)) = false := by decide) (he : starEach (e :: es) X.env = (false, eval e X.env) :: starEach es X.env := by rfl) (hpl : (backTo pos (starEach es X.env)).any (·.1) = false := by rfl) :
    PE X (.Call (.Name x p) (e :: es) [] pos) (tCallS sp (WE W) t) := by
  obtain ⟨f, fd, h, hb, hm, hk⟩ := G.ex
  exact pe_callS h hr hg hm hk hb (fun σ => passAt tk σ) ha hdb he hpl
section
variable {P : Program} {w : World} {K : PySem.W.Frag} {mg : Str → Option Value} {base : Heap}
def spRFor (C : Addr) : Sp := fun vs H Q E => ∃ (many mem wd : Nat), vs = [.int (many : Int), .int (mem : Int), .int (wd : Int)] ∧ 1 ≤ mem ∧ mem ≤ 100 ∧ 2 ≤ wd ∧ wd ≤ 100 ∧ many ≤ 1000 ∧ ∀ n : Nat, Rounds wd (ceilN many mem) n → Q (.int (n : Int)) H
theorem sc_rfor : FnScope ["many", "memory", "width", "runs", "rounds"] ["many", "memory", "width"] (defScope sRFor) := ⟨rfl, rfl, rfl, by decide +kernel, rfl, by decide +kernel, by decide +kernel⟩
theorem ok_rfor {f C : Addr} {fd : FuncData} (F : Fun K "rounds_for" "rounds_for" sRFor f fd) (G_room : ReadyX P w K mg base 2 "check_room" ["memory", "width"] (spRoom C)) : FnOk P w K mg base (L2.CX P w) 3 f fd ["many", "memory", "width"] (spRFor C) := by
  refine F.okX sc_rfor (fun vs H Q E h => ?_) (fun cdv A outer s H vs Q E hr h => ?_)
  · obtain ⟨many, mem, wd, rfl, _⟩ := h
    rfl
  obtain ⟨many, mem, wd, rfl, m1, m2, w1, w2, hm, q⟩ := h
  have nd := sc_rfor.nd
  refine ⟨_, pss_cons (ps_expr (pe_fnX G_room hr (takes_of rfl rfl rfl rfl) (pa_cons (pv 1) (pa_cons (pv 2) pa_nil))))
      (pss_cons (ps_set (i := 3) nd rfl (.inl rfl) (pe_op op_fdiv (pe_op op_sub (pe_op op_add (pv 0) (pv 1)) pe_int) (pv 1)))
      (pss_cons (ps_set (i := 4) nd rfl (.inl rfl) pe_int)
      (pss_cons (ps_while (passes_of rfl) (pt_cmpR op_gt (pv 3) pe_int (nomark _)) (pss_cons (ps_set (i := 3) nd rfl (.inl rfl) (pe_op op_fdiv (pe_op op_sub (pe_op op_add (pv 3) (pv 2)) pe_int) (pv 2)))
      (pss_one (ps_aug (i := 4) nd rfl (.inl rfl) pe_int ip_add))))
      (pss_one (ps_ret (pv 4)))))), ?_⟩
  refine ⟨_, rfl, _, rfl, _, _, rfl, fun z => by omega, fun _ z => by omega, fun _ _ => ?_⟩
  refine ⟨_, rfl, _, rfl, _, _, rfl, rfl, _, _, rfl, rfl, _, rfl, _, _, rfl, rfl, ⟨by omega, by omega⟩, ?_⟩
  refine ⟨fun m σ H' => ∃ (r n : Nat), m = r ∧ σ = [some (.int (many : Int)), some (.int (mem : Int)), some (.int (wd : Int)), some (.int (r : Int)), some (.int (n : Int))] ∧ H' = H ∧ (∀ k, Rounds wd r k → Rounds wd (ceilN many mem) (n + k)) ∧ r ≤ 2000,
    ⟨_, ceilN many mem, 0, rfl, ?_, rfl, fun k h => by rw [Nat.zero_add]; exact h, ?_⟩, ?_⟩
  · rw [← ceil_int m1]
    rfl
  · exact Nat.le_trans (Nat.div_le_self _ _) (by omega)
  rintro m σ H' ⟨r, n, rfl, rfl, rfl, hk, hr2⟩
  refine ⟨_, rfl, _, _, rfl, rfl, _, rfl, ite2 (fun c => ?_) (fun c => ?_)⟩
  · have c' : 1 < m := by
      have := of_decide_eq_true c
      omega
    refine ⟨fun σ' H'' => ∃ m', m' < m ∧ ∃ (r n : Nat), m' = r ∧ σ' = [some (.int (many : Int)), some (.int (mem : Int)), some (.int (wd : Int)), some (.int (r : Int)), some (.int (n : Int))] ∧ H'' = H' ∧ (∀ k, Rounds wd r k → Rounds wd (ceilN many mem) (n + k)) ∧ r ≤ 2000, fun σ' H' z => z, ?_⟩
    refine ⟨_, rfl, _, rfl, _, _, rfl, rfl, _, _, rfl, rfl, _, rfl, _, _, rfl, rfl, ⟨by omega, by omega⟩, ?_⟩
    refine ⟨_, rfl, _, _, rfl, rfl, ?_⟩
    refine ⟨_, ceil_lt w1 c', ceilN m wd, n + 1, rfl, ?_, rfl, fun k h => ?_, Nat.le_trans (Nat.le_of_lt (ceil_lt w1 c')) hr2⟩
    · rw [← ceil_int (by omega : 1 ≤ wd)]
      rfl
    · have := hk (k + 1) (.step c' h)
      rw [show n + 1 + k = n + (k + 1) by omega]
      exact this
  · have c' : m ≤ 1 := by
      rcases Nat.lt_or_ge 1 m with z | z
      · exact absurd (decide_eq_true (show (1 : Int) < (m : Int) by omega)) c
      · exact z
    exact ⟨_, rfl, q n (hk 0 (.done c'))⟩
end
end Kx

namespace Kx
open PySem PySem.Spec PyProof.Rows L2
/-! ### max(ints, default=0) -/
def rMaxDef (K : PySem.W.Frag) : List V → List V → Hp → VK → Prop := fun vs zs H Q => ∃ (a : Addr) (ns : List Int), vs = [V.ref a] ∧ zs = [.int 0] ∧ SqL K H a (ns.map V.int) ∧ ∀ m, (ns = [] ∧ m = 0) ∨ m ∈ ns → Q (.int m) H
theorem ints_reads {h : Heap} : ∀ {ns : List Int} {us : List Value}, Vals (ns.map V.int) us → ReadsAll h us (ns.map PyData.int) []
  | [], _, r => by
    cases r
    exact .nil
  | n :: ns, _, r => by
    cases r with
    | cons r1 r2 =>
      obtain ⟨t, rfl⟩ := r1
      exact .cons (.int n t) (ints_reads r2)
theorem depth_ints : ∀ ns : List Int, PyData.depthAll (ns.map PyData.int) = 0
  | [] => by simp [PyData.depthAll]
  | n :: ns => by
    rw [List.map_cons, PyData.depthAll, depth_ints ns]
    simp [PyData.depth]
section
variable {X : Cx}
theorem cr_maxDef (hc : X.calm = true) (hu : X.A.units + 64 < cLine) : CallRK X (.builtin "max") [Str.ofString "default"] (rMaxDef X.K) := by
  intro pins s σ H vs zs us ws Q I r rz h
  obtain ⟨a, ns, rfl, rfl, hs, q⟩ := h
  obtain ⟨its, rv, hl, _⟩ := I.list hs
  rw [Vals.ref1 r]
  cases rz with
  | cons rz1 rz2 =>
    cases rz2
    obtain ⟨tz, rfl⟩ := rz1
    refine PySem.W.max_list_default (vs := its.toArray) (xs := ns.map PyData.int) (as := []) (I.ok.hd hc) hl.isList (by simpa using ints_reads rv) ?_ (by rw [depth_ints]; omega) (fun e h' tk hk => ?_) fun y ys i v h' tk bs e ev rd hk => ?_
    · refine ⟨fun x hx y hy => ?_, fun x hx => ?_⟩
      · obtain ⟨i, _, rfl⟩ := List.mem_map.mp hx
        obtain ⟨j, _, rfl⟩ := List.mem_map.mp hy
        simp [PySem.W.alike]
      · obtain ⟨i, _, rfl⟩ := List.mem_map.mp hx
        intro z
        cases z
    · exact ⟨.int 0, H, I.kept hk, ⟨tz, rfl⟩, q 0 (.inl ⟨by simpa using e, rfl⟩)⟩
    · have ev' : its[i]? = some v := by simpa using ev
      have hi : i < (ns.map V.int).length := by
        rw [rv.length]
        exact (List.getElem?_eq_some_iff.mp ev').1
      obtain ⟨u, eu, ru⟩ := rv.get (List.getElem?_eq_getElem hi)
      rw [ev'] at eu
      cases eu
      rw [List.getElem_map] at ru
      exact ⟨.int _, H, I.kept hk, ru, q _ (.inr (List.getElem_mem _))⟩
end
end Kx

namespace Dk
open PySem PySem.Spec PyProof.Rows L2
/-! ### sorted(xs), xs a list of data that are alike: the result as one list -/
theorem each_of : ∀ {bs : List (V × PyData)} {us : List Value}, Vals (bs.map (·.1)) us → PySem.W.EachIs (fun v (b : V × PyData) => RelV b.1 v) us bs
  | [], us, r => by
    cases r
    exact .nil
  | b :: bs, us, r => by
    cases r with
    | cons r1 r2 => exact .cons r1 (each_of r2)
theorem vals_of : ∀ {bs : List (V × PyData)} {us : List Value}, PySem.W.EachIs (fun v (b : V × PyData) => RelV b.1 v) us bs → Vals (bs.map (·.1)) us
  | [], us, r => by
    cases r
    exact .nil
  | b :: bs, us, r => by
    cases r with
    | cons r1 r2 => exact .cons r1 (vals_of r2)
section
variable {X : Cx} {pins : List (Addr × Obj)} {σ : L2.St} {H : Hp} {s : Shared}
theorem reads_of (I : Inv X pins σ H s) : ∀ {bs : List (V × PyData)} {us : List Value}, (∀ p ∈ bs, Dp X.K H p.1 p.2) → Vals (bs.map (·.1)) us → PySem.W.EachIs (fun v (b : V × PyData) => ∃ as, Reads s.heap v b.2 as) us bs
  | [], us, _, r => by
    cases r
    exact .nil
  | b :: bs, us, h, r => by
    cases r with
    | cons r1 r2 => exact .cons (Dp.reads I b.2 b.1 _ (h b List.mem_cons_self) r1) (reads_of I (fun p hp => h p (List.mem_cons_of_mem _ hp)) r2)
def rSortD (K : PySem.W.Frag) : List V → Hp → VK → Prop := fun vs H Q => ∃ (a : Addr) (bs : List (V × PyData)), vs = [.ref a] ∧ SqL K H a (bs.map (·.1)) ∧ (∀ p ∈ bs, Dp K H p.1 p.2) ∧ PySem.W.AllAlike (bs.map (·.2)) ∧ PySem.W.Sortable (bs.map (·.2)) ∧ (∀ p ∈ bs, p.2.depth ≤ 60) ∧
  ∀ p, H p = none → Q (.ref p) (upd H p (.lst ((bs.mergeSort (PySem.W.dataLe false (·.2))).map (·.1))))
theorem cr_sortD (hu : X.A.units + 64 < cLine) : CallR X (.builtin "sorted") (rSortD X.K) := by
  intro pins s σ H vs us Q I r h
  obtain ⟨a, bs, rfl, hs, hd, hal, hso, hdep, q⟩ := h
  obtain ⟨its, rv, hl, hz⟩ := I.list hs
  rw [Vals.ref1 r]
  have hL : bs.length ≤ sizeLine := by
    rw [List.length_map] at hz
    exact hz
  refine PySem.W.sorted_data hl.isList (each_of rv) (reads_of I hd rv) hal hso hL (fun b hb => by have := hdep b hb; omega) fun out len e => ?_
  obtain ⟨ep, he⟩ := PyProof.Rows.sortedAll_at s.heap its out.toArray
  refine ⟨.ref _, upd H (s.heap.objs.size + 1) (.lst ((bs.mergeSort (PySem.W.dataLe false (·.2))).map (·.1))), I.laid (t' := s.toks) (fun _ _ => PyProof.Rows.sortedAll_old) (Nat.le_succ _) ⟨?_, out, ep, vals_of e, he⟩, rfl, q _ (I.hok.fresh (Nat.le_succ _))⟩
  rw [List.length_map, List.length_mergeSort]
  exact hL
end
end Dk

set_option maxHeartbeats 8000000
namespace Kx
open PySem PySem.Spec PyProof.Rows L2
abbrev sSorted : Stmt := topS 8
def rLenSeq (K : PySem.W.Frag) : List V → Hp → VK → Prop := fun xs H Q => ∃ p ys, xs = [V.ref p] ∧ (SqL K H p ys ∨ SqT K H p ys) ∧ Q (V.int (ys.length : Int)) H
theorem cut_ls (ls : List Addr) (i m : Nat) (h : i * m ≤ ls.length) : cutV (ls.map V.ref) (some ((i * m : Nat) : Int)) (some ((i * m + m : Nat) : Int)) = ((ls.drop (i * m)).take m).map V.ref := by
  unfold cutV
  rw [HT.sIx_nat, HT.sIx_nat, List.length_map, Nat.min_eq_left h, ← List.map_drop, ← List.map_take]
  congr 1
  by_cases c : i * m + m ≤ ls.length
  · rw [Nat.min_eq_left c]
    congr 1
    omega
  · rw [Nat.min_eq_right (by omega), List.take_of_length_le (by rw [List.length_drop]; omega), List.take_of_length_le (by rw [List.length_drop]; omega)]
theorem RunsL.sub {K : PySem.W.Frag} {H : Hp} {ls : List Addr} {runs : List (List (Addr × Rw))} (r : RunsL K H ls runs) (i m : Nat) : RunsL K H ((ls.drop i).take m) ((runs.drop i).take m) := by
  refine ⟨by rw [List.length_take, List.length_take, List.length_drop, List.length_drop, r.len], fun j l run h1 h2 => ?_, fun run h => r.row run (List.mem_of_mem_drop (List.mem_of_mem_take h))⟩
  rw [List.getElem?_take] at h1 h2
  by_cases c : j < m
  · rw [if_pos c, List.getElem?_drop] at h1 h2
    exact r.lst _ l run h1 h2
  · rw [if_neg c] at h1
    cases h1
theorem len_flat : ∀ {runs : List (List (Addr × Rw))}, (∀ r ∈ runs, r ≠ []) → runs.length ≤ runs.flatten.length
  | [], _ => Nat.le_refl _
  | r :: rs, h => by
    have ih := len_flat (runs := rs) fun x hx => h x (List.mem_cons_of_mem _ hx)
    have := List.length_pos_iff.mpr (h r List.mem_cons_self)
    rw [List.length_cons, List.flatten_cons, List.length_append]
    omega
/-- between two rounds -/
structure SInv (K : PySem.W.Frag) (PT : Addr) (H : Hp) (at_ mem wd : Nat) (ps : List (Addr × Rw)) (ls : List Addr) (runs : List (List (Addr × Rw))) (R : Addr) (n : Nat) (most : Int) (H' : Hp) : Prop where
  ext : LamX.ExtN H H'
  tab : LamX.Tabs (Tb PT) H'
  lst : H' R = some (.lst (ls.map V.ref))
  rl : RunsL K H' ls runs
  ne : ∀ r ∈ runs, r ≠ []
  so : ∀ r ∈ runs, r.Pairwise fun p q => leR at_ p.2 q.2 = true
  perm : runs.flatten.Perm ps
  rd : ∀ k, Rounds wd runs.length k → Rounds wd (ceilN ps.length mem) (n + k)
  m0 : 0 ≤ most
  m1 : ps ≠ [] → 1 ≤ most
  m2 : ps = [] → most = 0
  m3 : most ≤ (mem : Int) ∨ most ≤ (wd : Int)
section
variable {P : Program} {w : World} {K : PySem.W.Frag} {mg : Str → Option Value} {base : Heap}
def spSorted (K : PySem.W.Frag) (C PT : Addr) : Sp := fun vs H Q E => ∃ (a : Addr) (at_ : Nat) (mem wd : Int), vs = [.ref a, .int (at_ : Int), .int mem, .int wd] ∧
  ((mem < 1 ∨ wd < 2) → ∀ v d, H d = none → E (.ref C) (some d) (upd H d (.xd [("thing", v)]))) ∧
  (1 ≤ mem → 2 ≤ wd → mem ≤ 100 ∧ wd ≤ 100 ∧ at_ ≤ 2 ∧ LamX.Tabs (Tb PT) H ∧ ∃ ps : List (Addr × Rw), SqL K H a (refs ps) ∧ AllRows K H ps ∧ ps.length ≤ 100 ∧
    ∀ (p F : Addr) (H' : Hp) (out : List (Addr × Rw)) (n : Nat) (most : Int), LamX.ExtN H H' → LamX.Tabs (Tb PT) H' → H' p = some (.tup [.ref F, .int (n : Int), .int most]) → H' F = some (.lst (refs out)) → AllRows K H' out → out.Perm ps → (out.Pairwise fun p q => leR at_ p.2 q.2 = true) →
      Rounds wd.toNat (ceilN ps.length mem.toNat) n → 0 ≤ most → (ps ≠ [] → 1 ≤ most) → (ps = [] → most = 0) → (most ≤ mem ∨ most ≤ wd) → Q (.ref p) H')
abbrev N_sorted : List Str := ["rows", "at", "memory", "width", "runs", "most", "run", "rounds", "groups", "start", "group"]
theorem sc_sorted : FnScope N_sorted ["rows", "at", "memory", "width"] (defScope sSorted) := ⟨rfl, rfl, rfl, by decide +kernel, rfl, by decide +kernel, by decide +kernel⟩
theorem ok_sorted {f C PT : Addr} {fd : FuncData} (F : Fun K "sorted_in_runs" "sorted_in_runs" sSorted f fd) (m_len : mg "len" = none) (m_range : mg "range" = none) (m_max : mg "max" = none) (G_room : ReadyX P w K mg base 2 "check_room" ["memory", "width"] (spRoom C)) (G_runs : Ready P w K mg base 1 "runs_of" ["rows", "at", "memory"] (spRuns K PT)) (G_merged : Ready P w K mg base 1 "merged" ["runs", "at"] (spMerged K)) :
    FnOk P w K mg base (L2.CX P w) 3 f fd ["rows", "at", "memory", "width"] (spSorted K C PT) := by
  refine F.okX sc_sorted (fun vs H Q E h => ?_) (fun cdv A outer s H vs Q E hr h => ?_)
  · obtain ⟨a, at_, mem, wd, rfl, _⟩ := h
    rfl
  obtain ⟨a, at_, mem, wd, rfl, qe, qv⟩ := h
  have nd := sc_sorted.nd
  have hu64 : _ + 64 < cLine := hr.units
  have hr1 : Room 1 _ := hr.mono (by decide : 1 ≤ 2)
  refine ⟨_, pss_cons (ps_expr (pe_fnX G_room hr (takes_of rfl rfl rfl rfl) (pa_cons (pv 2) (pa_cons (pv 3) pa_nil))))
      (pss_cons (ps_set (i := 4) nd rfl (.inr rfl) (pe_fn G_runs hr1 (pa_cons (pv 0) (pa_cons (pv 1) (pa_cons (pv 2) pa_nil)))))
      (pss_cons (ps_set (i := 5) nd rfl (.inl rfl) (pe_callBK (cr_maxDef rfl hu64) (by rfl) m_max (by decide +kernel) (pa_cons (pe_lc (own := [("run", 6)]) (g := gName 6) (tt := tYes) (te := tCB (rLenSeq K) (tCons (tVar 6) tNil)) rfl nd (pi_list (pv 4)) (blkOk_by (N := N_sorted) (sc := defScope sSorted) (by decide +kernel)) (fun _ _ _ _ _ => pg_name (i := 6) nd rfl (Or.inl rfl)) (fun _ _ _ _ _ => pts_nil) (fun _ _ _ _ _ => (pe_callB call_len_seq (by rfl) m_len PySem.boot_len (pa_cons (pv 6) pa_nil)))) pa_nil) (pk_cons pe_int pk_nil)))
      (pss_cons (ps_set (i := 7) nd rfl (.inl rfl) pe_int)
      (pss_cons (ps_while (passes_of rfl) (pt_cmpR op_gt (pe_callB call_len_seq (by rfl) m_len PySem.boot_len (pa_cons (pv 4) pa_nil)) pe_int (nomark _)) (pss_cons (ps_setLc (i := 8) (own := [("start", 9)]) (g := gName 9) (tt := tYes) (te := tSl (rSlL K) (tVar 4) (tPart (tVar 9)) (tPart (tOp (rI0 fun i j => V.int (i + j)) (tVar 9) (tVar 3)))) rfl nd rfl rfl (sw_true rfl rfl rfl (by decide +kernel)) (pi_range3 rfl m_range (pa_cons pe_int (pa_cons (pe_callB call_len_seq (by rfl) m_len PySem.boot_len (pa_cons (pv 4) pa_nil)) (pa_cons (pv 3) pa_nil)))) (blkOk_by (N := N_sorted) (sc := defScope sSorted) (by decide +kernel)) (fun _ _ _ _ _ => pg_name (i := 9) nd rfl (Or.inl rfl)) (fun _ _ _ _ _ => pts_nil) (fun _ _ _ _ _ => (pe_slice sl_list (pv 4) (po_some (pv 9)) (po_some (pe_op op_add (pv 9) (pv 3))))))
      (pss_cons (ps_set (i := 5) nd rfl (.inl rfl) (pe_callB (cr_max rfl) (by rfl) m_max (by decide +kernel) (pa_cons (pe_op op_cat (pe_lst (pa_cons (pv 5) pa_nil)) (pe_lc (own := [("group", 10)]) (g := gName 10) (tt := tYes) (te := tCB (rLenSeq K) (tCons (tVar 10) tNil)) rfl nd (pi_list (pv 8)) (blkOk_by (N := N_sorted) (sc := defScope sSorted) (by decide +kernel)) (fun _ _ _ _ _ => pg_name (i := 10) nd rfl (Or.inl rfl)) (fun _ _ _ _ _ => pts_nil) (fun _ _ _ _ _ => (pe_callB call_len_seq (by rfl) m_len PySem.boot_len (pa_cons (pv 10) pa_nil))))) pa_nil)))
      (pss_cons (ps_set (i := 4) nd rfl (.inr rfl) (pe_lc (own := [("group", 10)]) (g := gName 10) (tt := tYes) rfl nd (pi_list (pv 8)) (blkOk_by (N := N_sorted) (sc := defScope sSorted) (by decide +kernel)) (fun _ _ _ _ _ => pg_name (i := 10) nd rfl (Or.inl rfl)) (fun _ _ _ _ _ => pts_nil) (fun _ _ _ _ _ => (pe_fn G_merged hr1 (pa_cons (pv 10) (pa_cons (pv 1) pa_nil))))))
      (pss_one (ps_aug (i := 7) nd rfl (.inl rfl) pe_int ip_add))))))
      (pss_cons (ps_if (pt_not (pt_truth (pv 4) (by intro _; rfl))) (pss_one (ps_ret (pe_tup (pa_cons (pe_lst pa_nil) (pa_cons (pv 7) (pa_cons (pv 5) pa_nil)))))) (pss_nil))
      (pss_one (ps_ret (pe_tup (pa_cons (pe_ix ix_list (pv 4) pe_int (fun _ _ => rfl)) (pa_cons (pv 7) (pa_cons (pv 5) pa_nil))))))))))), ?_⟩
  refine ⟨_, rfl, _, rfl, _, _, rfl, fun z d nd' => qe (.inl z) _ d nd', fun _ z d nd' => qe (.inr z) _ d nd', fun z1 z2 => ?_⟩
  obtain ⟨m100, w100, h2, hT, ps, hS, hrow, hl, q⟩ := qv z1 z2
  clear qe qv
  obtain ⟨mem, rfl⟩ := Int.eq_ofNat_of_zero_le (show 0 ≤ mem by omega)
  obtain ⟨wd, rfl⟩ := Int.eq_ofNat_of_zero_le (show 0 ≤ wd by omega)
  rw [Int.toNat_natCast, Int.toNat_natCast] at q
  refine ⟨_, rfl, _, rfl, _, rfl, a, ps, at_, mem, rfl, hS, hrow, h2, by omega, by omega, hl, hT, fun R H1 ls runs eN hT1 eR rl gr pm len => ?_⟩
  have rl100 : runs.length ≤ 100 := by
    have := len_flat gr.ne
    rw [pm.length_eq] at this
    omega
  have hls : ls.length = runs.length := rl.len
  -- most
  refine ⟨_, rfl, R, rfl, ⟨_, SqL.of eR⟩, fun Z nZ => ?_⟩
  refine lc_list (K := K) (a := R) (xs := ls.map V.ref) (fun i H' => Same H1 H' ∧ ∃ ns : List Int, H' Z = some (.lst (ns.map V.int)) ∧ ns.length = i ∧ ∀ m ∈ ns, ∃ r ∈ runs, m = (r.length : Int)) ⟨same_upd nZ, [], upd_same, rfl, fun m hm => absurd hm List.not_mem_nil⟩ (fun i H' _ p => SqL.of (p.1 _ _ eR)) ?_ ?_
  · rintro i x H' hx ⟨sm, ns, eZ, nl, hns⟩
    rw [List.getElem?_map] at hx
    obtain ⟨l, el, rfl⟩ := Option.map_eq_some_iff.mp hx
    have hi : i < runs.length := by
      have := (List.getElem?_eq_some_iff.mp el).1
      omega
    have hrun := runAt_get hi
    have hlst := rl.lst i l _ el hrun
    refine ⟨rfl, _, rfl, l, _, rfl, .inl (SqL.of (sm _ _ hlst)), ?_⟩
    refine ⟨_, eZ, Nat.lt_of_lt_of_le (show (ns.map V.int).length < 200 by rw [List.length_map]; omega) (by decide), fun b o e => ?_, ns ++ [((refs (runAt runs i)).length : Int)], ?_, by rw [List.length_append, nl]; rfl, fun m hm => ?_⟩
    · rw [upd_ne (ne_of_none e nZ)]
      exact sm _ _ e
    · rw [upd_same, List.map_append]
      rfl
    · rcases List.mem_append.mp hm with hm | hm
      · exact hns m hm
      · rw [List.mem_singleton.mp hm]
        exact ⟨_, List.mem_of_getElem? hrun, by unfold refs; rw [List.length_map]⟩
  rintro H2 ⟨sm2, ns, eZ, nl, hns⟩
  rw [List.length_map, hls] at nl
  refine ⟨Z, ns, rfl, rfl, SqL.of eZ, fun most hmost => ?_⟩
  have mm : 0 ≤ most ∧ (ps ≠ [] → 1 ≤ most) ∧ (ps = [] → most = 0) ∧ (most ≤ (mem : Int) ∨ most ≤ (wd : Int)) := by
    rcases hmost with ⟨e, rfl⟩ | hm
    · have er : runs = [] := by
        rw [e] at nl
        exact List.eq_nil_of_length_eq_zero nl.symm
      refine ⟨Int.le_refl _, fun z => ?_, fun _ => rfl, .inl (by omega)⟩
      rw [er] at pm
      exact absurd pm.symm.eq_nil z
    · obtain ⟨r, hr0, rfl⟩ := hns most hm
      have h1 := List.length_pos_iff.mpr (gr.ne r hr0)
      have h3 := gr.le r hr0
      refine ⟨by omega, fun _ => by omega, fun z => ?_, .inl (by omega)⟩
      rw [z] at pm
      have h4 := pm.eq_nil
      have h5 : r = [] := (List.flatten_eq_nil_iff.mp h4) r hr0
      exact absurd h5 (gr.ne r hr0)
  have I0 : SInv K PT H at_ mem wd ps ls runs R 0 most H2 := ⟨eN.trans (Same.ext sm2), hT1.ext sm2, sm2 _ _ eR, rl.same sm2, gr.ne, gr.so, pm, fun k h => by rw [Nat.zero_add, ← len]; exact h, mm.1, mm.2.1, mm.2.2.1, mm.2.2.2⟩
  clear eN hT1 eR rl gr pm len hmost mm hns nl eZ nZ sm2 hls rl100 hT hS hrow
  refine ⟨fun m σ H' => ∃ y6 y8 y9 y10 ls runs R n most, m = runs.length ∧ σ = [some (.ref a), some (.int (at_ : Int)), some (.int (mem : Int)), some (.int (wd : Int)), some (.ref R), some (.int most), y6, some (.int ((n : Nat) : Int)), y8, y9, y10] ∧ SInv K PT H at_ mem wd ps ls runs R n most H',
    ⟨_, _, _, _, _, ls, runs, R, 0, most, rfl, rfl, I0⟩, ?_⟩
  clear I0
  rintro m σ H3 ⟨y6, y8, y9, y10, ls, runs, R, n, most, rfl, rfl, I⟩
  have rl100 : runs.length ≤ 100 := by
    have := len_flat I.ne
    rw [I.perm.length_eq] at this
    omega
  have hls : ls.length = runs.length := I.rl.len
  have elm : ((ls.map V.ref).length : Int) = ((runs.length : Nat) : Int) := by rw [List.length_map, hls]
  refine ⟨_, rfl, R, _, rfl, .inl (SqL.of I.lst), _, _, rfl, rfl, _, rfl, ite2 (fun c => ?_) (fun c => ?_)⟩
  · have c' : 1 < runs.length := by
      have := of_decide_eq_true c
      omega
    have cl := ceil_lt (show 2 ≤ wd by omega) c'
    refine ⟨fun σ' H' => ∃ m', m' < runs.length ∧ ∃ y6 y8 y9 y10 ls runs R n most, m' = runs.length ∧ σ' = [some (.ref a), some (.int (at_ : Int)), some (.int (mem : Int)), some (.int (wd : Int)), some (.ref R), some (.int most), y6, some (.int ((n : Nat) : Int)), y8, y9, y10] ∧ SInv K PT H at_ mem wd ps ls runs R n most H', fun σ' H' z => z, ?_⟩
    -- groups
    refine ⟨_, rfl, R, _, rfl, .inl (SqL.of I.lst), _, rfl, 0, _, _, ceilN runs.length wd, rfl, by rw [elm]; exact rg_up (by omega) (by omega) (by omega), fun G nG => ?_⟩
    refine ⟨fun i m H' => m = ceilN runs.length wd - i ∧ i ≤ ceilN runs.length wd ∧ Same H3 H' ∧ ∃ gl : List Addr, H' G = some (.lst (gl.map V.ref)) ∧ gl.length = i ∧ ∀ j g, gl[j]? = some g → (H' g = some (.lst (((ls.drop (j * wd)).take wd).map V.ref)) ∧ g ≠ G), ⟨_, rfl, Nat.zero_le _, same_upd nG, [], upd_same, rfl, fun j g e => by cases e⟩, ?_⟩
    rintro i m H4 ⟨rfl, hi, sm, gl, eG, gll, hgl⟩
    by_cases hlt : i < ceilN runs.length wd
    · refine .inr ⟨hlt, fun H' => Same H3 H' ∧ ∃ gl : List Addr, H' G = some (.lst (gl.map V.ref)) ∧ gl.length = i + 1 ∧ ∀ j g, gl[j]? = some g → (H' g = some (.lst (((ls.drop (j * wd)).take wd).map V.ref)) ∧ g ≠ G), fun H' z => ⟨ceilN runs.length wd - (i + 1), by omega, rfl, hlt, z⟩, fun x H' y => ?_⟩
      obtain ⟨rfl, rfl⟩ := y
      have him : i * wd < runs.length := by
        have hi' := hlt
        unfold ceilN at hi'
        have h1 := (Nat.lt_div_iff_mul_lt (by omega)).mp hi'
        omega
      have ei : (0 : Int) + (i : Nat) * (wd : Int) = ((i * wd : Nat) : Int) := by rw [Int.zero_add, Int.natCast_mul]
      have ei2 : (0 : Int) + (i : Nat) * (wd : Int) + (wd : Int) = ((i * wd + wd : Nat) : Int) := by rw [ei, Int.natCast_add]
      have e3 : cutV (ls.map V.ref) (some ((0 : Int) + (i : Nat) * (wd : Int))) (some ((0 : Int) + (i : Nat) * (wd : Int) + (wd : Int))) = ((ls.drop (i * wd)).take wd).map V.ref := by
        rw [ei2, ei]
        exact cut_ls ls i wd (by omega)
      refine ⟨rfl, _, rfl, _, rfl, _, rfl, _, rfl, _, rfl, _, _, rfl, rfl, _, rfl, R, _, rfl, SqL.of (sm _ _ I.lst), fun g ng => ?_⟩
      have s5 := same_upd (o := .lst (cutV (ls.map V.ref) (some ((0 : Int) + (i : Nat) * (wd : Int))) (some ((0 : Int) + (i : Nat) * (wd : Int) + (wd : Int))))) ng
      have eg : upd H' g (.lst (cutV (ls.map V.ref) (some ((0 : Int) + (i : Nat) * (wd : Int))) (some ((0 : Int) + (i : Nat) * (wd : Int) + (wd : Int))))) g = some (.lst (((ls.drop (i * wd)).take wd).map V.ref)) := by rw [upd_same, e3]
      have eG5 := s5 _ _ eG
      refine ⟨_, eG5, Nat.lt_of_lt_of_le (show (gl.map V.ref).length < 300 by rw [List.length_map]; omega) (by decide), fun b o e => ?_, gl ++ [g], ?_, by rw [List.length_append, gll]; rfl, fun j g' e => ?_⟩
      · rw [upd_ne (ne_of_none e nG)]
        exact s5 _ _ (sm _ _ e)
      · rw [upd_same, List.map_append]
        rfl
      · by_cases cj : j < gl.length
        · rw [List.getElem?_append_left cj] at e
          obtain ⟨z, zn⟩ := hgl j g' e
          rw [upd_ne zn]
          exact ⟨s5 _ _ z, zn⟩
        · rw [List.getElem?_append_right (by omega)] at e
          have j0 : j = i := by
            rcases Nat.eq_zero_or_pos (j - gl.length) with z | z
            · omega
            · rw [List.getElem?_eq_none (by show 1 ≤ j - gl.length; exact z)] at e
              cases e
          have jz : j - gl.length = 0 := by omega
          rw [jz] at e
          cases e
          have gn := (ne_of_none eG ng).symm
          rw [j0, upd_ne gn]
          exact ⟨eg, gn⟩
    have ei : i = ceilN runs.length wd := by omega
    subst ei
    refine .inl ⟨Nat.le_refl _, ?_⟩
    refine ⟨_, rfl, by show 1 ≤ sizeLine; decide, fun L1 nL1 => ?_⟩
    have s5 := same_upd (o := .lst [.int most]) nL1
    have eL1 : upd H4 L1 (.lst [.int most]) L1 = some (.lst [.int most]) := upd_same
    have eG5 := s5 _ _ eG
    have hgl5 : ∀ j g, gl[j]? = some g → upd H4 L1 (.lst [.int most]) g = some (.lst (((ls.drop (j * wd)).take wd).map V.ref)) := fun j g e => s5 _ _ (hgl j g e).1
    have sm5 := sm.trans s5
    generalize upd H4 L1 (.lst [.int most]) = H5 at s5 eL1 eG5 hgl5 sm5 ⊢
    clear s5 hgl sm eG
    refine ⟨_, rfl, G, rfl, ⟨_, SqL.of eG5⟩, fun Z5 nZ5 => ?_⟩
    refine lc_list (K := K) (a := G) (xs := gl.map V.ref) (fun i H' => Same H5 H' ∧ ∃ ns : List Int, H' Z5 = some (.lst (ns.map V.int)) ∧ ns.length = i ∧ ∀ m ∈ ns, 0 ≤ m ∧ m ≤ (wd : Int)) ⟨same_upd nZ5, [], upd_same, rfl, fun m hm => absurd hm List.not_mem_nil⟩ (fun i H' _ p => SqL.of (p.1 _ _ eG5)) ?_ ?_
    · rintro i x H' hx ⟨sm, ns, eZ, nl, hns⟩
      rw [List.getElem?_map] at hx
      obtain ⟨g, eg, rfl⟩ := Option.map_eq_some_iff.mp hx
      have hi := (List.getElem?_eq_some_iff.mp eg).1
      refine ⟨rfl, _, rfl, g, _, rfl, .inl (SqL.of (sm _ _ (hgl5 i g eg))), ?_⟩
      refine ⟨_, eZ, Nat.lt_of_lt_of_le (show (ns.map V.int).length < 300 by rw [List.length_map]; omega) (by decide), fun b o e => ?_, ns ++ [((((ls.drop (i * wd)).take wd).map V.ref).length : Int)], ?_, by rw [List.length_append, nl]; rfl, fun m hm => ?_⟩
      · rw [upd_ne (ne_of_none e nZ5)]
        exact sm _ _ e
      · rw [upd_same, List.map_append]
        rfl
      · rcases List.mem_append.mp hm with hm | hm
        · exact hns m hm
        · rw [List.mem_singleton.mp hm]
          have : (((ls.drop (i * wd)).take wd).map V.ref).length ≤ wd := by
            rw [List.length_map]
            exact List.length_take_le _ _
          omega
    rintro H6 ⟨sm6, ns5, eZ5, nl5, hns5⟩
    rw [List.length_map, gll] at nl5
    refine ⟨L1, Z5, _, _, rfl, rfl, sm6 _ _ eL1, eZ5, Nat.le_trans (show 1 + (ns5.map V.int).length ≤ 300 by rw [List.length_map]; omega) (by decide), fun mo nmo => ?_⟩
    refine ⟨mo, most :: ns5, rfl, SqL.of upd_same, by show 0 < ns5.length + 1; omega, fun m2 hm2 hle => ?_⟩
    have mm : 0 ≤ m2 ∧ (ps ≠ [] → 1 ≤ m2) ∧ (m2 ≤ (mem : Int) ∨ m2 ≤ (wd : Int)) := by
      have h1 := hle most List.mem_cons_self
      have h3 := I.m0
      refine ⟨by omega, fun z => by have := I.m1 z; omega, ?_⟩
      rcases List.mem_cons.mp hm2 with e | hm3
      · rw [e]
        exact I.m3
      · exact .inr (hns5 m2 hm3).2
    have pne : ps ≠ [] := fun z => by
      have := I.perm
      rw [z] at this
      have := List.flatten_eq_nil_iff.mp this.eq_nil
      cases hr0 : runs with
      | nil =>
        rw [hr0] at c'
        cases c'
      | cons r rs => exact I.ne r (by rw [hr0]; exact List.mem_cons_self) (this r (by rw [hr0]; exact List.mem_cons_self))
    have s7 := same_upd (o := .lst ([V.int most] ++ ns5.map V.int)) nmo
    have sm7 := (sm5.trans sm6).trans s7
    have eG7 := s7 _ _ (sm6 _ _ eG5)
    have hgl7 : ∀ j g, gl[j]? = some g → upd H6 mo (.lst ([V.int most] ++ ns5.map V.int)) g = some (.lst (((ls.drop (j * wd)).take wd).map V.ref)) := fun j g e => s7 _ _ (sm6 _ _ (hgl5 j g e))
    generalize upd H6 mo (.lst ([V.int most] ++ ns5.map V.int)) = H7 at s7 sm7 eG7 hgl7 ⊢
    clear s7 hgl5 sm6 eG5 sm5 eL1 eZ5
    refine ⟨_, rfl, G, rfl, ⟨_, SqL.of eG7⟩, fun D nD => ?_⟩
    have rl7 := I.rl.same sm7
    refine lc_list (K := K) (a := G) (xs := gl.map V.ref) (fun i H' => Same H7 H' ∧ ∃ (ls' : List Addr) (outs : List (List (Addr × Rw))), H' D = some (.lst (ls'.map V.ref)) ∧ RunsL K H' ls' outs ∧ (∀ r ∈ outs, r ≠ []) ∧ (∀ r ∈ outs, r.Pairwise fun p q => leR at_ p.2 q.2 = true) ∧ outs.flatten.Perm (runs.take (i * wd)).flatten ∧ outs.length = i ∧ D ∉ ls')
      ⟨same_upd nD, [], [], upd_same, RunsL.nil, fun r h => absurd h List.not_mem_nil, fun r h => absurd h List.not_mem_nil, by rw [Nat.zero_mul]; exact List.Perm.refl _, rfl, List.not_mem_nil⟩ (fun i H' _ p => SqL.of (p.1 _ _ eG7)) ?_ ?_
    · rintro i x H' hx ⟨sm', ls', outs, eD, rl', ne', so', pf, ol, nDl⟩
      rw [List.getElem?_map] at hx
      obtain ⟨g, eg, rfl⟩ := Option.map_eq_some_iff.mp hx
      have hi := (List.getElem?_eq_some_iff.mp eg).1
      have him : i * wd < runs.length := by
        have hi' : i < ceilN runs.length wd := by omega
        unfold ceilN at hi'
        have h1 := (Nat.lt_div_iff_mul_lt (by omega)).mp hi'
        omega
      have hsp : runs.flatten.length = (runs.take (i * wd)).flatten.length + (((runs.drop (i * wd)).take wd).flatten.length + ((runs.drop (i * wd)).drop wd).flatten.length) := by
        rw [← List.length_append, ← List.flatten_append, List.take_append_drop, ← List.length_append, ← List.flatten_append, List.take_append_drop]
      have hpl := I.perm.length_eq
      have memr : ∀ r ∈ (runs.drop (i * wd)).take wd, r ∈ runs := fun r h => List.mem_of_mem_drop (List.mem_of_mem_take h)
      have nsub : ((runs.drop (i * wd)).take wd).length ≤ 100 := by
        rw [List.length_take, List.length_drop]
        omega
      refine ⟨rfl, _, rfl, _, rfl, g, at_, (ls.drop (i * wd)).take wd, (runs.drop (i * wd)).take wd, rfl, SqL.of (sm' _ _ (hgl7 i g eg)), (rl7.same sm').sub _ _, fun r h => I.ne r (memr r h), fun r h => I.so r (memr r h), h2, nsub, by omega, fun Dm H8 out sm8 nDm eDm arow pm so => ?_⟩
      have eD8 := sm8 _ _ eD
      have onE : out ≠ [] := fun z => by
        have h1 := len_flat (runs := (runs.drop (i * wd)).take wd) fun r h => I.ne r (memr r h)
        have h3 := pm.length_eq
        rw [z, List.length_nil] at h3
        rw [List.length_take, List.length_drop] at h1
        omega
      have nDm2 : D ∉ ls' ++ [Dm] := fun z => by
        rcases List.mem_append.mp z with z | z
        · exact nDl z
        · rw [← List.mem_singleton.mp z, eD] at nDm
          cases nDm
      have rl8 := ((rl'.same sm8).push eDm arow).upd (o := .lst (ls'.map V.ref ++ [.ref Dm])) eD8 nDm2
      have ll' := rl'.len
      refine ⟨_, eD8, Nat.lt_of_lt_of_le (show (ls'.map V.ref).length < 300 by rw [List.length_map]; omega) (by decide), fun b o e => ?_, ls' ++ [Dm], outs ++ [out], ?_, rl8, fun r h => ?_, fun r h => ?_, ?_, by rw [List.length_append, ol]; rfl, nDm2⟩
      · rw [upd_ne (ne_of_none e nD)]
        exact sm8 _ _ (sm' _ _ e)
      · rw [upd_same, List.map_append]
        rfl
      · rcases List.mem_append.mp h with h | h
        · exact ne' r h
        · rw [List.mem_singleton.mp h]
          exact onE
      · rcases List.mem_append.mp h with h | h
        · exact so' r h
        · rw [List.mem_singleton.mp h]
          exact so
      · rw [List.flatten_append, Nat.succ_mul, List.take_add, List.flatten_append]
        refine pf.append ?_
        rw [List.flatten_cons, List.flatten_nil, List.append_nil]
        exact pm
    rintro H10 ⟨sm10, ls', outs, eD, rl', ne', so', pf, ol, nDl⟩
    rw [List.length_map, gll] at ol pf
    have sm3 := sm7.trans sm10
    have tk : runs.take (ceilN runs.length wd * wd) = runs := List.take_of_length_le (by
      unfold ceilN
      have h1 := Nat.div_add_mod (runs.length + wd - 1) wd
      have h3 := Nat.mod_lt (runs.length + wd - 1) (show 0 < wd by omega)
      rw [Nat.mul_comm] at h1
      omega)
    rw [tk] at pf
    refine ⟨_, rfl, _, _, rfl, rfl, ?_⟩
    refine ⟨_, by rw [← ol] at cl; exact cl, _, _, _, _, ls', outs, D, n + 1, m2, rfl, rfl, ⟨I.ext.trans (Same.ext sm3), I.tab.ext sm3, eD, rl', ne', so', pf.trans I.perm, fun k hk => ?_, mm.1, mm.2.1, fun z => absurd z pne, mm.2.2⟩⟩
    have := I.rd (k + 1) (.step c' (by rw [ol] at hk; exact hk))
    rw [show n + 1 + k = n + (k + 1) by omega]
    exact this
  · have c' : runs.length ≤ 1 := by
      rcases Nat.lt_or_ge 1 runs.length with z | z
      · exact absurd (decide_eq_true (by rw [elm]; omega)) c
      · exact z
    have hrd := I.rd 0 (.done c')
    rw [Nat.add_zero] at hrd
    refine ⟨_, rfl, _, .inl ⟨_, SqL.of I.lst, rfl⟩, ite2 (fun c2 => ?_) (fun c2 => ?_)⟩
    · have er : runs = [] := by
        cases hlr : ls with
        | nil =>
          rw [hlr] at hls
          exact List.eq_nil_of_length_eq_zero hls.symm
        | cons l r =>
          rw [hlr] at c2
          cases c2
      subst er
      have pe := I.perm.symm.eq_nil
      refine ⟨Nat.zero_le _, fun F0 nF => ⟨_, rfl, _, rfl, (by show 3 ≤ sizeLine; decide), fun p np => ?_⟩⟩
      have s4 := (same_upd (o := .lst []) nF).trans (same_upd (o := .tup [.ref F0, .int (n : Int), .int most]) np)
      exact q p F0 _ [] n most (I.ext.trans (Same.ext s4)) (I.tab.ext s4) upd_same ((same_upd (o := .tup [.ref F0, .int (n : Int), .int most]) np) _ _ upd_same) (fun x hx => absurd hx List.not_mem_nil) (by rw [pe]) List.Pairwise.nil hrd I.m0 I.m1 I.m2 I.m3
    · have hl1 : runs.length = 1 := by
        cases hr0 : runs with
        | nil =>
          rw [hr0] at hls
          have : ls = [] := List.eq_nil_of_length_eq_zero hls
          rw [this] at c2
          exact absurd rfl c2
        | cons r rs =>
          rw [hr0] at c'
          rw [List.length_cons] at c' ⊢
          omega
      have hr := runAt_get (runs := runs) (r := 0) (by omega)
      have er : runs = [runAt runs 0] := by
        match runs, hl1 with
        | [r], _ => rfl
      have hll : 0 < ls.length := by omega
      have hlst := I.rl.lst 0 _ _ (List.getElem?_eq_getElem hll) hr
      have hmem : runAt runs 0 ∈ runs := List.mem_of_getElem? hr
      have pmm := I.perm
      rw [er, List.flatten_cons, List.flatten_nil, List.append_nil] at pmm
      refine ⟨_, rfl, R, _, 0, .ref ls[0], rfl, rfl, SqL.of I.lst, at_nat (j := 0) (by rw [List.getElem?_map, List.getElem?_eq_getElem hll]; rfl), _, rfl, _, rfl, (by show 3 ≤ sizeLine; decide), fun p np => ?_⟩
      have s4 := same_upd (o := .tup [.ref ls[0], .int (n : Int), .int most]) np
      exact q p ls[0] _ (runAt runs 0) n most (I.ext.trans (Same.ext s4)) (I.tab.ext s4) upd_same (s4 _ _ hlst) ((I.rl.row _ hmem).same s4) pmm (I.so _ hmem) hrd I.m0 I.m1 I.m2 I.m3
end
end Kx

set_option maxHeartbeats 16000000
namespace Kx
open PySem PySem.Spec PyProof.Rows L2
abbrev sLaw : Stmt := topS 17
theorem DrawAt.upd {H : Hp} {d s L : Addr} {ns : List Int} {n : Int} {o : HO} (D : DrawAt H d s ns n) (h1 : L ≠ d) (h2 : L ≠ s) : DrawAt (L2.upd H L o) d s ns n := ⟨by rw [upd_ne h1.symm]; exact D.at_d, by rw [upd_ne h2.symm]; exact D.at_s, D.n0⟩
theorem DrawAt.ext {H H' : Hp} {d s : Addr} {ns : List Int} {n : Int} (D : DrawAt H d s ns n) (e : LamX.ExtN H H') : DrawAt H' d s ns n := ⟨e _ _ D.at_d (fun _ z => by cases z), e _ _ D.at_s (fun _ z => by cases z), D.n0⟩
theorem tabs_but {T : List (Addr × Str)} {H H' : Hp} {d : Addr} {l : List V} (hT : LamX.Tabs T H) (b : But d H H') (hd : H d = some (.lst l)) : LamX.Tabs T H' := fun p hp => by
  obtain ⟨qs, h1, h2, h3⟩ := hT p hp
  refine ⟨qs, b _ _ (fun e => by rw [e, hd] at h1; cases h1) h1, h2, fun pos cv hc => ?_⟩
  obtain ⟨c, e1, e2⟩ := h3 pos cv hc
  refine ⟨c, e1, b _ _ (fun e => ?_) e2⟩
  rw [e, hd] at e2
  unfold LamX.CodeO at e2
  cases e2
theorem cut_map (xs : List Int) (lo hi : Option Int) : ∃ ys : List Int, cutV (xs.map V.int) lo hi = ys.map V.int := by
  unfold cutV
  rw [← List.map_drop, ← List.map_take]
  exact ⟨_, rfl⟩
theorem iteNB {c : Bool} {A B : Prop} (h : c = true) (q : B) : if (!c) = true then A else B := by
  rw [h]
  exact q
theorem next_c {σ : L2.St} {H : Hp} {Q : VK} {j : Nat} {d s : Addr} {ns : List Int} {n b : Int} {c : Nat} (h1 : σ[j]? = some (some (.ref d))) (D : DrawAt H d s ns n) (hb : 0 < b)
    (q : ∀ (m : Nat) H', c ≤ m → (m : Int) < c + b → But d H H' → DrawAt H' d s ns (n + 1) → Q (.int (m : Int)) H') : tOp (rI0 fun i j => V.int (i + j)) (tC (V.int (c : Int))) (tCall spNext [] E0 (tCons (tVar j) (tCons (tC (V.int b)) tNil))) σ H Q := by
  refine ⟨_, h1, d, s, ns, n, b, rfl, D, hb, fun r H' r0 r1 bt D' => ⟨_, _, rfl, rfl, ?_⟩⟩
  have e : (c : Int) + r = (((c : Int) + r).toNat : Int) := by omega
  show Q (.int ((c : Int) + r)) H'
  rw [e]
  exact q _ H' (by omega) (by omega) bt D'
def tx3 : List Str := ["a", "b", "ab"]
theorem tx3_ok : ∀ x ∈ tx3, PyData.canLay0 (.str x) = true := by decide +kernel
theorem tx_of {v : V} (h : v ∈ tx3.map V.str) : ∃ x, x ∈ tx3 ∧ v = .str x := by
  obtain ⟨x, hx, e⟩ := List.mem_map.mp h
  exact ⟨x, hx, e.symm⟩
def rowsDt (rs : List Rw) : PyData := .list (rs.map rowDt)
theorem lay_row {r : Rw} (h : r.2.1 ∈ tx3) : PyData.canLay0 (rowDt r) = true := by
  show (PyData.canLay0 (.int r.1) && (PyData.canLay0 (.str r.2.1) && (PyData.canLay0 (.int r.2.2) && true))) = true
  rw [tx3_ok _ h]
  rfl
theorem lay_rows : ∀ rs : List Rw, (∀ r ∈ rs, r.2.1 ∈ tx3) → PyData.canLayAll0 (rs.map rowDt) = true
  | [], _ => rfl
  | r :: rs, h => by
    show (PyData.canLay0 (rowDt r) && PyData.canLayAll0 (rs.map rowDt)) = true
    rw [lay_row (h r List.mem_cons_self), lay_rows rs fun x hx => h x (List.mem_cons_of_mem _ hx)]
    rfl
theorem dep_rows : ∀ rs : List Rw, PyData.depthAll (rs.map rowDt) ≤ 1
  | [] => Nat.zero_le _
  | r :: rs => by
    show max (PyData.depth (rowDt r)) (PyData.depthAll (rs.map rowDt)) ≤ 1
    exact Nat.max_le.mpr ⟨Nat.le_refl 1, dep_rows rs⟩
theorem shaped_rows {rs : List Rw} (h : ∀ r ∈ rs, r.2.1 ∈ tx3) : SeqAt.shaped (rowsDt rs) = true := by
  have d := dep_rows rs
  show (PyData.canLayAll0 (rs.map rowDt) && decide (PyData.depthAll (rs.map rowDt) + 1 ≤ 64)) = true
  rw [lay_rows rs h, decide_eq_true (by omega)]
  rfl
theorem row_dp {K : PySem.W.Frag} {H : Hp} {p : Addr × Rw} (h : RowAt K H p) : Dp K H (.ref p.1) (rowDt p.2) := .tup h (.cons (.int _) (.cons (.str _) (.cons (.int _) .nil)))
theorem rows_dp {K : PySem.W.Frag} {H : Hp} : ∀ {ps : List (Addr × Rw)}, AllRows K H ps → DpAll K H (refs ps) ((ps.map (·.2)).map rowDt)
  | [], _ => .nil
  | p :: ps, h => .cons (row_dp (h p List.mem_cons_self)) (rows_dp fun x hx => h x (List.mem_cons_of_mem _ hx))
/-! ### pairs of a value and a row -/
abbrev Pr := Addr × (Addr × Rw)
def PairAt (H : Hp) (at_ : Nat) (t : Pr) : Prop := H t.1 = some (.tup [kvV at_ t.2.2, .ref t.2.1])
def pb (at_ : Nat) (t : Pr) : V × PyData := (.ref t.1, keyOf at_ t.2.2)
theorem pair_dp {K : PySem.W.Frag} {H : Hp} {at_ : Nat} {t : Pr} (h : PairAt H at_ t) (hr : RowAt K H t.2) : Dp K H (.ref t.1) (keyOf at_ t.2.2) := .tup (SqT.of h) (.cons (kv_dp at_ t.2.2) (.cons (row_dp hr) .nil))
def srtP (at_ : Nat) (tp : List Pr) : List Pr := tp.mergeSort fun t u => leR at_ t.2.2 u.2.2
theorem srtP_sorted (at_ : Nat) (tp : List Pr) : (srtP at_ tp).Pairwise fun t u => leR at_ t.2.2 u.2.2 = true :=
  List.pairwise_mergeSort (le := fun t u => leR at_ t.2.2 u.2.2) (fun a b c h1 h2 => le_trans at_ a.2.2 b.2.2 c.2.2 h1 h2) (fun a b => le_total at_ a.2.2 b.2.2) tp
theorem srtP_pb (at_ : Nat) (tp : List Pr) : ((tp.map (pb at_)).mergeSort (PySem.W.dataLe false (·.2))).map (·.1) = (srtP at_ tp).map fun t => V.ref t.1 := by
  have e : (tp.map (pb at_)).mergeSort (PySem.W.dataLe false (·.2)) = (srtP at_ tp).map (pb at_) := (List.map_mergeSort (r := fun t u => leR at_ t.2.2 u.2.2) (s := PySem.W.dataLe false (·.2)) (f := pb at_) (fun a _ b _ => rfl)).symm
  rw [e, List.map_map]
  rfl
section
variable {P : Program} {w : World} {K : PySem.W.Frag} {mg : Str → Option Value} {base : Heap}
def spLaw (K : PySem.W.Frag) (PT : Addr) : Sp := fun vs H Q _ => ∃ (a : Addr) (xs : List Int), vs = [.ref a] ∧ SqL K H a (xs.map V.int) ∧ LamX.Tabs (Tb PT) H ∧ ∀ H', Q (.bl true) H'
abbrev N_law : List Str := ["script", "draw", "turn", "rows", "at", "memory", "width", "found", "rounds", "most", "pairs", "row", "value"]
theorem sc_law : FnScope N_law ["script"] (defScope sLaw) := ⟨rfl, rfl, rfl, by decide +kernel, rfl, by decide +kernel, by decide +kernel⟩
theorem ok_law {f C fI PT : Addr} {fd : FuncData} (F : Fun K "law" "law" sLaw f fd) (T : PySem.BadX.BadTxt K mg C fI) (m_range : mg "range" = none) (m_len : mg "len" = none) (m_list : mg "list" = none) (m_sorted : mg "sorted" = none) (m_max : mg "max" = none) (m_min : mg "min" = none)
    (G_law_next : Ready P w K mg base 3 "_law_next" ["draw", "bound"] spNext) (G_law_pick : Ready P w K mg base 4 "_law_pick" ["draw", "things"] (spPick K)) (G_lrounds : Ready P w K mg base 1 "_law_rounds" ["many", "memory", "width"] spLRounds) (G_sorted : ReadyX P w K mg base 3 "sorted_in_runs" ["rows", "at", "memory", "width"] (spSorted K C PT)) (G_rfor : ReadyX P w K mg base 3 "rounds_for" ["many", "memory", "width"] (spRFor C)) :
    FnOk P w K mg base CX0 5 f fd ["script"] (spLaw K PT) := by
  refine F.ok sc_law (fun vs H Q E h => ?_) (fun cdv A outer s0 H vs Q E hr h => ?_)
  · obtain ⟨a, xs, rfl, _⟩ := h
    rfl
  obtain ⟨a, xs, rfl, hS, hT, q⟩ := h
  have nd := sc_law.nd
  have hu64 : _ + 64 < cLine := hr.units
  have hr4 : Room 4 _ := hr
  have hr3 : Room 3 _ := hr.mono (by decide)
  have hr1 : Room 1 _ := hr.mono (by decide)
  refine ⟨_, pss_cons (ps_set (i := 1) nd rfl (.inr rfl) (pe_lst (pa_cons (pe_slice sl_list (pv 0) po_none (po_some pe_int)) (pa_cons pe_int (pa_cons pe_int pa_nil)))))
      (pss_cons (ps_for PassesOwn.never rfl (pi_range1 rfl m_range (pa_cons pe_int pa_nil)) (pg_name (i := 2) nd rfl (.inl rfl)) (pss_cons (ps_setLc (i := 3) (own := [("at", 4)]) (g := gName 4) (tt := tYes) rfl nd rfl rfl (sw_true rfl rfl rfl (by decide +kernel)) (pi_range1 rfl m_range (pa_cons (pe_fn G_law_next hr3 (pa_cons (pv 1) (pa_cons pe_int pa_nil))) pa_nil)) (blkOk_by (N := N_law) (sc := defScope sLaw) (by decide +kernel)) (fun _ _ _ _ _ => pg_name (i := 4) nd rfl (Or.inl rfl)) (fun _ _ _ _ _ => pts_nil) (fun _ _ _ _ _ => (pe_tup (pa_cons (pe_fn G_law_next hr3 (pa_cons (pv 1) (pa_cons pe_int pa_nil))) (pa_cons (pe_fn G_law_pick hr4 (pa_cons (pv 1) (pa_cons (pe_tup (pa_cons pe_str (pa_cons pe_str (pa_cons pe_str pa_nil)))) pa_nil))) (pa_cons (pe_fn G_law_next hr3 (pa_cons (pv 1) (pa_cons pe_int pa_nil))) pa_nil))))))
      (pss_cons (ps_asg (pe_tup (pa_cons (pe_fn G_law_next hr3 (pa_cons (pv 1) (pa_cons pe_int pa_nil))) (pa_cons (pe_op op_add pe_int (pe_fn G_law_next hr3 (pa_cons (pv 1) (pa_cons pe_int pa_nil)))) (pa_cons (pe_op op_add pe_int (pe_fn G_law_next hr3 (pa_cons (pv 1) (pa_cons pe_int pa_nil)))) pa_nil)))) (pg_tup rfl (pgs_cons (pg_name (i := 4) nd rfl (.inr rfl)) (pgs_cons (pg_name (i := 5) nd rfl (.inl rfl)) (pgs_cons (pg_name (i := 6) nd rfl (.inl rfl)) pgs_nil)))))
      (pss_cons (ps_asg (pe_fnX (W := fun _ _ _ _ => False) G_sorted hr3 LamX.takes0 (pa_cons (pv 3) (pa_cons (pv 4) (pa_cons (pv 5) (pa_cons (pv 6) pa_nil))))) (pg_tup rfl (pgs_cons (pg_name (i := 7) nd rfl (.inl rfl)) (pgs_cons (pg_name (i := 8) nd rfl (.inl rfl)) (pgs_cons (pg_name (i := 9) nd rfl (.inl rfl)) pgs_nil)))))
      (pss_cons (ps_set (i := 10) nd rfl (.inl rfl) (pe_callB (Dk.cr_sortD hu64) (by rfl) m_sorted (by decide +kernel) (pa_cons (pe_lc (own := [("row", 11)]) (g := gName 11) (tt := tYes) (te := tTup (tCons (tOp (rIxT K) (tVar 11) (tVar 4)) (tCons (tVar 11) tNil))) rfl nd (pi_list (pv 3)) (blkOk_by (N := N_law) (sc := defScope sLaw) (by decide +kernel)) (fun _ _ _ _ _ => pg_name (i := 11) nd rfl (Or.inl rfl)) (fun _ _ _ _ _ => pts_nil) (fun _ _ _ _ _ => (pe_tup (pa_cons (pe_ix ix_tup (pv 11) (pv 4) (fun _ _ => rfl)) (pa_cons (pv 11) pa_nil))))) pa_nil)))
      (pss_cons (ps_if (PW.pt (pw_or (pt_cmpR (op_neD hu64) (pe_callTy call_list_of (by rfl) m_list PyProof.Rows.boot_list (pa_cons (pv 7) pa_nil)) (pe_lc (own := [("value", 12), ("row", 11)]) (g := (gTup K 2 (gCons (gName 12) (gCons (gName 11) gNil)))) (tt := tYes) rfl nd (pi_list (pv 10)) (blkOk_by (N := N_law) (sc := defScope sLaw) (by decide +kernel)) (fun _ _ _ _ _ => pg_tup rfl (pgs_cons (pg_name (i := 12) nd rfl (.inl rfl)) (pgs_cons (pg_name (i := 11) nd rfl (.inl rfl)) pgs_nil))) (fun _ _ _ _ _ => pts_nil) (fun _ _ _ _ _ => (pv 11))) (nomark _)) (pw_or (pt_cmpR op_ne (pv 8) (pe_fn G_lrounds hr1 (pa_cons (pe_callB call_len_seq (by rfl) m_len PySem.boot_len (pa_cons (pv 3) pa_nil)) (pa_cons (pv 5) (pa_cons (pv 6) pa_nil)))) (nomark _)) (pw_or1 (pt_cmpR op_ne (pe_fnX (W := fun _ _ _ _ => False) G_rfor hr3 LamX.takes0 (pa_cons (pe_callB call_len_seq (by rfl) m_len PySem.boot_len (pa_cons (pv 3) pa_nil)) (pa_cons (pv 5) (pa_cons (pv 6) pa_nil)))) (pv 8) (nomark _)))))) (pss_one (ps_ret pe_bl)) (pss_nil))
      (pss_one (ps_if (pt_not (pt_chain op_le op_le (pe_callB (cr_min rfl) (by rfl) m_min (by decide +kernel) (pa_cons (pe_lst (pa_cons pe_int (pa_cons (pe_callB call_len_seq (by rfl) m_len PySem.boot_len (pa_cons (pv 3) pa_nil)) pa_nil))) pa_nil)) (pv 9) (pe_callB (cr_max rfl) (by rfl) m_max (by decide +kernel) (pa_cons (pe_lst (pa_cons (pv 5) (pa_cons (pv 6) pa_nil))) pa_nil)))) (pss_one (ps_ret pe_bl)) (pss_nil)))))))))
      (pss_cons (ps_for PassesOwn.never rfl (pi_list (pe_lst (pa_cons (pe_tup (pa_cons pe_int (pa_cons pe_int pa_nil))) (pa_cons (pe_tup (pa_cons (pe_un un_neg pe_int) (pa_cons pe_int pa_nil))) (pa_cons (pe_tup (pa_cons pe_int (pa_cons pe_int pa_nil))) (pa_cons (pe_tup (pa_cons pe_int (pa_cons pe_int pa_nil))) pa_nil)))))) (pg_tup rfl (pgs_cons (pg_name (i := 5) nd rfl (.inl rfl)) (pgs_cons (pg_name (i := 6) nd rfl (.inl rfl)) pgs_nil))) (pss_one (ps_try_only (tb := fun W => tSeq (tDrop (tCallS (spSorted K C PT) (WE W) (tCons (tLst (tCons (tTup (tCons (tC (V.int 1)) tNil)) tNil)) (tCons (tC (V.int 0)) (tCons (tVar 5) (tCons (tVar 6) tNil)))))) (tRet (tC (V.bl false)))) (ts := fun _ _ _ => tAsg (tC (V.int 1)) (gName 5)) rfl rfl ⟨rfl, by decide, .inl T.gC⟩ LamX.takes0
        (fun W pn xe tk _ => pss_cons (ps_expr (pe_fnX (W := W) G_sorted hr3 tk (pa_cons (pe_lst (pa_cons (pe_tup (pa_cons pe_int pa_nil)) pa_nil)) (pa_cons pe_int (pa_cons (pv 5) (pa_cons (pv 6) pa_nil)))))) (pss_one (ps_ret pe_bl)))
        (fun a oe cls d pn hz hf => pss_one (ps_set (i := 5) nd rfl (.inl rfl) pe_int)))))
      (pss_one (ps_ret (pe_cmpR (op_eqD hu64) (pe_fnX (W := fun _ _ _ _ => False) G_sorted hr3 LamX.takes0 (pa_cons (pe_lst pa_nil) (pa_cons pe_int (pa_cons pe_int (pa_cons pe_int pa_nil))))) (pe_tup (pa_cons (pe_lst pa_nil) (pa_cons pe_int (pa_cons pe_int pa_nil)))) (nomark _)))))), ?_⟩
  have z3 : 3 ≤ sizeLine := by decide
  obtain ⟨ns, ens⟩ := cut_map xs none (some 63)
  refine ⟨_, rfl, _, rfl, a, _, rfl, hS, fun s ns0 => ⟨z3, fun d nd0 => ?_⟩⟩
  rw [ens] at nd0 ⊢
  have D0 : DrawAt (upd (upd H s (.lst (ns.map V.int))) d (.lst [.ref s, .int 0, .int 0])) d s ns 0 := ⟨upd_same, by rw [upd_ne (ne_of_none upd_same nd0)]; exact upd_same, Int.le_refl 0⟩
  have hT0 : LamX.Tabs (Tb PT) (upd (upd H s (.lst (ns.map V.int))) d (.lst [.ref s, .int 0, .int 0])) := (hT.ext (same_upd ns0)).ext (same_upd nd0)
  generalize upd (upd H s (.lst (ns.map V.int))) d (.lst [.ref s, .int 0, .int 0]) = H0 at D0 hT0 ⊢
  refine ⟨8, rfl, by decide, by decide, for_range (n := 8) (fun i σ H' => ∃ n y2 y3 y4 y5 y6 y7 y8 y9 y10 y11 y12, σ = [some (.ref a), some (.ref d), y2, y3, y4, y5, y6, y7, y8, y9, y10, y11, y12] ∧ DrawAt H' d s ns n ∧ LamX.Tabs (Tb PT) H')
    ⟨0, none, none, none, none, none, none, none, none, none, none, none, rfl, D0, hT0⟩ ?_ ?_⟩
  · rintro i σ H' hi ⟨n, y2, y3, y4, y5, y6, y7, y8, y9, y10, y11, y12, rfl, D, hT'⟩
    -- rows
    refine ⟨_, rfl, d, s, ns, n, 30, rfl, D, (by decide), fun r H1 r0 r1 b1 D1 => ⟨_, rfl, by omega, by omega, fun L nL => ?_⟩⟩
    have hT1 := tabs_but hT' b1 D.at_d
    have nLd : L ≠ d := (ne_of_none D1.at_d nL).symm
    have nLs : L ≠ s := (ne_of_none D1.at_s nL).symm
    refine lc_range (lo := 0) (n := r.toNat) (fun i H' => ∃ n' ps, DrawAt H' d s ns n' ∧ LamX.Tabs (Tb PT) H' ∧ H' L = some (.lst (refs ps)) ∧ ps.length = i ∧ AllRows K H' ps ∧ ∀ p ∈ ps, p.2.2.1 ∈ tx3) ⟨_, [], D1.keep (same_upd nL), hT1.ext (same_upd nL), upd_same, rfl, fun p hp => absurd hp List.not_mem_nil, fun p hp => absurd hp List.not_mem_nil⟩ ?_ ?_
    · rintro i H4 hi ⟨n', ps, D', hT4, eL, el, hrow, htx⟩
      refine ⟨rfl, _, rfl, d, s, ns, _, 5, rfl, D', by decide, fun v1 H5 v10 v11 b5 D5 => ?_⟩
      have eL5 := b5 _ _ nLd eL
      have row5 := hrow.but b5 D'.at_d
      have hT5 := tabs_but hT4 b5 D'.at_d
      refine ⟨_, rfl, z3, fun q3 nq3 => ?_⟩
      have s6 := same_upd (o := .tup (tx3.map V.str)) nq3
      refine ⟨d, s, q3, ns, _, tx3.map V.str, rfl, D5.keep s6, (ne_of_none D5.at_d nq3).symm, .inr (SqT.of upd_same), (by intro z; cases z), fun v2 H7 hv2 b7 D7 => ?_⟩
      obtain ⟨tx, htx2, rfl⟩ := tx_of hv2
      have eL7 := b7 _ _ nLd (s6 _ _ eL5)
      have row7 := (row5.same s6).but b7 (D5.keep s6).at_d
      have hT7 := tabs_but (hT5.ext s6) b7 (D5.keep s6).at_d
      refine ⟨_, rfl, d, s, ns, _, 9, rfl, D7, by decide, fun v3 H8 v30 v31 b8 D8 => ⟨z3, fun t nt => ?_⟩⟩
      have s9 := same_upd (o := .tup [.int v1, .str tx, .int v3]) nt
      have eL8 := b8 _ _ nLd eL7
      have row9 := (row7.but b8 D7.at_d).same s9
      have hT9 := (tabs_but hT7 b8 D7.at_d).ext s9
      have eL9 := s9 _ _ eL8
      refine ⟨_, eL9, Nat.lt_of_lt_of_le (show (refs ps).length < 64 by unfold refs; rw [List.length_map]; omega) (by decide), _, ps ++ [(t, (v1, tx, v3))], (D8.keep s9).upd nLd nLs, tabs_upd hT9 eL9, ?_, by rw [List.length_append, el]; rfl, fun p hp => ?_, fun p hp => ?_⟩
      · rw [upd_same]
        unfold refs
        rw [List.map_append]
        rfl
      · refine But.sqT (d := L) but_lst ⟨_, eL9⟩ ?_
        rcases List.mem_append.mp hp with hp | hp
        · exact row9 p hp
        · rw [List.mem_singleton.mp hp]
          exact SqT.of upd_same
      · rcases List.mem_append.mp hp with hp | hp
        · exact htx p hp
        · rw [List.mem_singleton.mp hp]
          exact htx2
    rintro H5 ⟨n5, ps, D5, hT5, eL5, el5, row5, htx⟩
    refine ⟨_, rfl, d, s, ns, _, 3, rfl, D5, by decide, fun ra H6 ra0 ra1 b6 D6 => ?_⟩
    obtain ⟨at_, rfl⟩ := Int.eq_ofNat_of_zero_le ra0
    refine next_c (c := 1) rfl D6 (by decide) fun mem H7 m1 m7 b7 D7 => ?_
    refine next_c (c := 2) rfl D7 (by decide) fun wd H8 w1 w2 b8 D8 => ?_
    refine ⟨z3, fun t5 nt5 => ⟨t5, _, rfl, SqT.of upd_same, rfl, _, _, rfl, _, _, rfl, _, _, rfl, rfl, ?_⟩⟩
    have b58 := (b6.trans b7).trans b8
    have s9 := same_upd (o := .tup [.int (at_ : Int), .int (mem : Int), .int (wd : Int)]) nt5
    have D9 := D8.keep s9
    have eL9 := s9 _ _ (b58 _ _ nLd eL5)
    have row9 := (row5.but b58 D5.at_d).same s9
    have hT9 := (tabs_but hT5 b58 D5.at_d).ext s9
    have pl : ps.length ≤ 30 := by omega
    generalize upd H8 t5 (.tup [.int (at_ : Int), .int (mem : Int), .int (wd : Int)]) = H9 at s9 D9 eL9 row9 hT9 ⊢
    clear s9 b58 hT5 row5 eL5 D5 D6 D7 D8 b6 b7 b8 hT1 b1 D1
    refine ⟨_, rfl, _, rfl, _, rfl, _, rfl, L, at_, mem, wd, rfl, fun z => by omega, fun _ _ => ⟨by omega, by omega, by omega, hT9, ps, SqL.of eL9, row9, by omega, fun p F0 H10 out n most eN hT10 ep eF arow pm so rd q0 q1 q2 q3 => ?_⟩⟩
    rw [Int.toNat_natCast, Int.toNat_natCast] at rd
    refine ⟨p, _, rfl, SqT.of ep, rfl, _, _, rfl, _, _, rfl, _, _, rfl, rfl, ?_⟩
    have D10 := D9.ext eN
    have eL10 : H10 L = some (.lst (refs ps)) := eN _ _ eL9 fun _ z => by cases z
    have row10 := row9.ext eN
    clear eN hT9 row9 eL9 D9 ep
    -- pairs
    refine ⟨_, rfl, L, rfl, ⟨_, SqL.of eL10⟩, fun Z nZ => ?_⟩
    refine lc_list (K := K) (a := L) (xs := refs ps) (fun i H' => Same H10 H' ∧ ∃ tp : List Pr, H' Z = some (.lst (tp.map fun t => V.ref t.1)) ∧ tp.map (·.2) = ps.take i ∧ ∀ t ∈ tp, PairAt H' at_ t) ⟨same_upd nZ, [], upd_same, rfl, fun t h => absurd h List.not_mem_nil⟩ (fun i H' _ p => SqL.of (p.1 _ _ eL10)) ?_ ?_
    · rintro i x H' hx ⟨sm, tp, eZ, etp, hpt⟩
      unfold refs at hx
      rw [List.getElem?_map] at hx
      obtain ⟨p0, ep0, rfl⟩ := Option.map_eq_some_iff.mp hx
      have hr0 : RowAt K H' p0 := Same.sqT sm (row10 p0 (List.mem_of_getElem? ep0))
      have tl : tp.length ≤ 30 := by
        have := congrArg List.length etp
        rw [List.length_map, List.length_take] at this
        omega
      refine ⟨rfl, _, rfl, _, rfl, p0.1, _, _, _, rfl, rfl, hr0, kv_ix (K := K) (H := H) (by omega), _, rfl, (by show 2 ≤ sizeLine; decide), fun t nt => ?_⟩
      have s1 := same_upd (o := .tup [kvV at_ p0.2, .ref p0.1]) nt
      have eZ1 := s1 _ _ eZ
      refine ⟨_, eZ1, Nat.lt_of_lt_of_le (show (tp.map fun t => V.ref t.1).length < 64 by rw [List.length_map]; omega) (by decide), fun b o e => ?_, tp ++ [(t, p0)], ?_, ?_, fun t' ht' => ?_⟩
      · rw [upd_ne (ne_of_none e nZ)]
        exact s1 _ _ (sm _ _ e)
      · rw [upd_same, List.map_append]
        rfl
      · rw [List.map_append, etp, List.take_add_one, ep0]
        rfl
      · unfold PairAt
        rcases List.mem_append.mp ht' with ht' | ht'
        · have z := s1 _ _ (hpt t' ht')
          rw [upd_ne (fun e => by rw [e, eZ1] at z; cases z)]
          exact z
        · rw [List.mem_singleton.mp ht']
          have z : upd H' t (.tup [kvV at_ p0.2, .ref p0.1]) t = some (.tup [kvV at_ p0.2, .ref p0.1]) := upd_same
          rw [upd_ne (fun e => by
            have e' : t = Z := e
            rw [e', eZ] at nt
            cases nt)]
          exact z
    rintro H11 ⟨sm11, tp, eZ, etp, hpt⟩
    rw [show (refs ps).length = ps.length by unfold refs; rw [List.length_map], List.take_length] at etp
    have row11 := row10.same sm11
    have hrp : ∀ t ∈ tp, RowAt K H11 t.2 := fun t ht => row11 t.2 (by rw [← etp]; exact List.mem_map_of_mem ht)
    refine ⟨Z, tp.map (pb at_), rfl, SqL.of (by rw [List.map_map]; exact eZ), fun x hx => ?_, fun x hx y hy => ?_, .inl fun x hx => ?_, fun x hx => ?_, fun D2 nD2 => ?_⟩
    · obtain ⟨t, ht, rfl⟩ := List.mem_map.mp hx
      exact pair_dp (hpt t ht) (hrp t ht)
    · obtain ⟨x', hx', rfl⟩ := List.mem_map.mp hx
      obtain ⟨t, _, rfl⟩ := List.mem_map.mp hx'
      obtain ⟨y', hy', rfl⟩ := List.mem_map.mp hy
      obtain ⟨u, _, rfl⟩ := List.mem_map.mp hy'
      exact key_alike at_ t.2.2 u.2.2
    · obtain ⟨x', hx', rfl⟩ := List.mem_map.mp hx
      obtain ⟨t, _, rfl⟩ := List.mem_map.mp hx'
      exact ⟨_, _, rfl⟩
    · obtain ⟨t, _, rfl⟩ := List.mem_map.mp hx
      exact key_depth at_ t.2.2
    have s12 := same_upd (o := .lst (((tp.map (pb at_)).mergeSort (PySem.W.dataLe false (·.2))).map (·.1))) nD2
    have eD2 : upd H11 D2 (.lst (((tp.map (pb at_)).mergeSort (PySem.W.dataLe false (·.2))).map (·.1))) D2 = some (.lst ((srtP at_ tp).map fun t => V.ref t.1)) := by rw [upd_same, srtP_pb]
    generalize upd H11 D2 (.lst (((tp.map (pb at_)).mergeSort (PySem.W.dataLe false (·.2))).map (·.1))) = H12 at s12 eD2 ⊢
    have sm12 := sm11.trans s12
    have hpt12 : ∀ t ∈ srtP at_ tp, PairAt H12 at_ t := fun t ht => s12 _ _ (hpt t ((List.mergeSort_perm _ _).mem_iff.mp ht))
    have plt : (srtP at_ tp).length ≤ 30 := by
      have h1 : (srtP at_ tp).length = tp.length := (List.mergeSort_perm _ _).length_eq
      have h2 := congrArg List.length etp
      rw [List.length_map] at h2
      omega
    clear eZ nZ s12 nD2 hpt
    refine ⟨_, rfl, F0, _, rfl, .inl (SqL.of (sm12 _ _ eF)), fun l nl => ?_⟩
    have s13 := same_upd (o := .lst (refs out)) nl
    have el : upd H12 l (.lst (refs out)) l = some (.lst (refs out)) := upd_same
    generalize upd H12 l (.lst (refs out)) = H13 at s13 el ⊢
    have sm13 := sm12.trans s13
    have eD13 := s13 _ _ eD2
    refine ⟨_, rfl, D2, rfl, ⟨_, SqL.of eD13⟩, fun W nW => ?_⟩
    refine lc_list (K := K) (a := D2) (xs := (srtP at_ tp).map fun t => V.ref t.1) (fun i H' => Same H13 H' ∧ H' W = some (.lst (((srtP at_ tp).take i).map fun t => V.ref t.2.1))) ⟨same_upd nW, upd_same⟩ (fun i H' _ p => SqL.of (p.1 _ _ eD13)) ?_ ?_
    · rintro i x H' hx ⟨sm, eW⟩
      rw [List.getElem?_map] at hx
      obtain ⟨t, et, rfl⟩ := Option.map_eq_some_iff.mp hx
      have hpt0 := sm _ _ (s13 _ _ (hpt12 t (List.mem_of_getElem? et)))
      refine ⟨t.1, _, rfl, SqT.of hpt0, rfl, _, _, rfl, _, _, rfl, rfl, rfl, _, rfl, ?_⟩
      refine ⟨_, eW, Nat.lt_of_lt_of_le (show _ < 64 by rw [List.length_map, List.length_take]; omega) (by decide), fun b o e => ?_, ?_⟩
      · rw [upd_ne (ne_of_none e nW)]
        exact sm _ _ e
      · rw [upd_same, List.take_add_one, et, List.map_append]
        rfl
    rintro H14 ⟨sm14, eW⟩
    rw [List.length_map, List.take_length] at eW
    have sm15 := sm13.trans sm14
    have row14 := row10.same sm15
    have eWr : H14 W = some (.lst (refs ((srtP at_ tp).map (·.2)))) := by
      rw [eW]
      unfold refs
      rw [List.map_map]
      rfl
    have perm2 : ((srtP at_ tp).map (·.2)).Perm ps := by
      have := (List.mergeSort_perm tp fun t u => leR at_ t.2.2 u.2.2).map (·.2)
      rw [etp] at this
      exact this
    have allp : AllRows K H14 ((srtP at_ tp).map (·.2)) := fun p hp => row14 p (perm2.mem_iff.mp hp)
    have allo : AllRows K H14 out := fun p hp => row14 p (pm.mem_iff.mp hp)
    have same : out.map (·.2) = ((srtP at_ tp).map (·.2)).map (·.2) := sorted_uniq (at_ := at_) ((pm.trans perm2.symm).map _) (List.pairwise_map.mpr so) (List.pairwise_map.mpr (List.pairwise_map.mpr (srtP_sorted at_ tp)))
    have tx1 : ∀ r ∈ out.map (·.2), r.2.1 ∈ tx3 := fun r hr2 => by
      obtain ⟨p1, hp1, rfl⟩ := List.mem_map.mp hr2
      exact htx p1 (pm.mem_iff.mp hp1)
    have dp2 := rows_dp allp
    rw [← same] at dp2
    have dO : Dp K H14 (.ref l) (rowsDt (out.map (·.2))) := .lst (SqL.of (sm14 _ _ el)) (rows_dp allo)
    have dW : Dp K H14 (.ref W) (rowsDt (out.map (·.2))) := .lst (SqL.of eWr) dp2
    refine ⟨_, _, dO, dW, shaped_rows tx1, shaped_rows tx1, _, rfl, iteNB (SeqAt.eqv_refl _ (SeqAt.canLay_of_shaped (shaped_rows tx1))) ?_⟩
    have elp : (refs ps).length = ps.length := by unfold refs; rw [List.length_map]
    have eL14 := sm15 _ _ eL10
    refine ⟨_, rfl, _, rfl, L, _, rfl, .inl (SqL.of eL14), _, rfl, _, rfl, (refs ps).length, mem, wd, rfl, m1, by omega, by omega, by omega, by omega, fun k hk => ?_⟩
    have ek : k = n := by
      rw [elp] at hk
      exact hk.uniq rd
    refine ⟨rfl, _, rfl, iteNB (decide_eq_true (by rw [ek])) ?_⟩
    refine ⟨_, rfl, L, _, rfl, .inl (SqL.of eL14), _, rfl, _, rfl, (refs ps).length, mem, wd, rfl, m1, by omega, by omega, by omega, by omega, fun k2 hk2 => ?_⟩
    have ek2 : k2 = n := by
      rw [elp] at hk2
      exact hk2.uniq rd
    refine ⟨_, rfl, rfl, _, rfl, iteNB (decide_eq_true (by rw [ek2])) ?_⟩
    -- most
    refine ⟨_, rfl, L, _, rfl, .inl (SqL.of eL14), (by show 2 ≤ sizeLine; decide), fun u nu => ⟨u, [1, ((refs ps).length : Int)], rfl, SqL.of upd_same, Nat.succ_pos _, fun mn hmn hle => ⟨_, rfl, _, _, rfl, rfl, _, rfl, ?_⟩⟩⟩
    have le1 : mn ≤ most := by
      have h1 := hle 1 (by simp)
      have h2 := hle ((refs ps).length : Int) (by simp)
      rw [elp] at h2
      rcases Nat.eq_zero_or_pos ps.length with z | z
      · omega
      · have := q1 (fun e => by rw [e] at z; exact Nat.lt_irrefl 0 z)
        omega
    rw [decide_eq_true le1]
    refine iteT ⟨_, rfl, _, rfl, (by show 2 ≤ sizeLine; decide), fun u2 nu2 => ⟨u2, [(mem : Int), (wd : Int)], rfl, SqL.of upd_same, Nat.succ_pos _, fun mx hmx hge => ⟨_, _, rfl, rfl, _, rfl, ?_⟩⟩⟩
    have le2 : most ≤ mx := by
      have h1 := hge (mem : Int) (by simp)
      have h2 := hge (wd : Int) (by simp)
      omega
    rw [decide_eq_true le2]
    refine iteF ?_
    have sA := same_upd (o := .lst [.int 1, .int ((refs ps).length : Int)]) nu
    have sB := same_upd (o := .lst [.int (mem : Int), .int (wd : Int)]) nu2
    exact ⟨_, _, _, _, _, _, _, _, _, _, _, _, rfl, ((D10.keep sm15).keep sA).keep sB, ((hT10.ext sm15).ext sA).ext sB⟩
  · rintro σ H' ⟨n, y2, y3, y4, y5, y6, y7, y8, y9, y10, y11, y12, rfl, D, hT'⟩
    have y2' : 2 ≤ sizeLine := by decide
    refine ⟨y2', fun ta na => ⟨_, rfl, y2', fun tb nb => ⟨y2', fun tc nc => ⟨y2', fun te ne => ⟨(by show 4 ≤ sizeLine; decide), fun G nG => ?_⟩⟩⟩⟩⟩
    have s1 := same_upd (o := .tup [.int 0, .int 2]) na
    have s2 := same_upd (o := .tup [.int (-1), .int 3]) nb
    have s3 := same_upd (o := .tup [.int 3, .int 1]) nc
    have s4 := same_upd (o := .tup [.int 2, .int 0]) ne
    have s5 := same_upd (o := .lst [.ref ta, .ref tb, .ref tc, .ref te]) nG
    have hT5 := ((((hT'.ext s1).ext s2).ext s3).ext s4).ext s5
    have ea := s5 _ _ (s4 _ _ (s3 _ _ (s2 _ _ (upd_same (H := H') (a := ta) (o := .tup [.int 0, .int 2])))))
    have eb := s5 _ _ (s4 _ _ (s3 _ _ (upd_same (H := upd H' ta (.tup [.int 0, .int 2])) (a := tb) (o := .tup [.int (-1), .int 3]))))
    have ec := s5 _ _ (s4 _ _ (upd_same (H := upd (upd H' ta (.tup [.int 0, .int 2])) tb (.tup [.int (-1), .int 3])) (a := tc) (o := .tup [.int 3, .int 1])))
    have ee := s5 _ _ (upd_same (H := upd (upd (upd H' ta (.tup [.int 0, .int 2])) tb (.tup [.int (-1), .int 3])) tc (.tup [.int 3, .int 1])) (a := te) (o := .tup [.int 2, .int 0]))
    refine ⟨G, rfl, ⟨_, SqL.of upd_same⟩, ?_⟩
    have eG := upd_same (H := upd (upd (upd (upd H' ta (.tup [.int 0, .int 2])) tb (.tup [.int (-1), .int 3])) tc (.tup [.int 3, .int 1])) te (.tup [.int 2, .int 0])) (a := G) (o := .lst [.ref ta, .ref tb, .ref tc, .ref te])
    generalize upd (upd (upd (upd (upd H' ta (.tup [.int 0, .int 2])) tb (.tup [.int (-1), .int 3])) tc (.tup [.int 3, .int 1])) te (.tup [.int 2, .int 0])) G (.lst [.ref ta, .ref tb, .ref tc, .ref te]) = H5 at s5 hT5 ea eb ec ee eG ⊢
    clear s1 s2 s3 s4 s5 na nb nc ne nG
    refine for_list (tb := fun D σ H' => tSeq (tDrop (tCallS (spSorted K C PT) (WE (wOnly K (.ref C) (fun _ _ _ => tAsg (tC (V.int 1)) (gName 5)) (fun _ _ _ _ => False) D)) (tCons (tLst (tCons (tTup (tCons (tC (V.int 1)) tNil)) tNil)) (tCons (tC (V.int 0)) (tCons (tVar 5) (tCons (tVar 6) tNil)))))) (tRet (tC (V.bl false))) D σ H') (K := K) (a := G) (xs := [.ref ta, .ref tb, .ref tc, .ref te]) (fun i σ H' => ∃ y2 y3 y4 y5 y6 y7 y8 y9 y10 y11 y12, σ = [some (.ref a), some (.ref d), y2, y3, y4, y5, y6, y7, y8, y9, y10, y11, y12] ∧ Same H5 H' ∧ LamX.Tabs (Tb PT) H')
      ⟨_, _, _, _, _, _, _, _, _, _, _, rfl, Same.refl _, hT5⟩ ?_ ?_ ?_
    · rintro i σ H6 _ ⟨y2, y3, y4, y5, y6, y7, y8, y9, y10, y11, y12, rfl, sm, _⟩
      exact SqL.of (sm _ _ eG)
    · rintro i x σ H6 hx ⟨y2, y3, y4, y5, y6, y7, y8, y9, y10, y11, y12, rfl, sm, hT6⟩
      obtain ⟨t, m, wd, rfl, et, hbad⟩ : ∃ (t : Addr) (m wd : Int), x = .ref t ∧ H5 t = some (.tup [.int m, .int wd]) ∧ (m < 1 ∨ wd < 2) := by
        match i, hx with
        | 0, hx => exact ⟨ta, 0, 2, (Option.some.inj hx).symm, ea, by omega⟩
        | 1, hx => exact ⟨tb, -1, 3, (Option.some.inj hx).symm, eb, by omega⟩
        | 2, hx => exact ⟨tc, 3, 1, (Option.some.inj hx).symm, ec, by omega⟩
        | 3, hx => exact ⟨te, 2, 0, (Option.some.inj hx).symm, ee, by omega⟩
        | k + 4, hx => cases hx
      refine ⟨t, _, rfl, SqT.of (sm _ _ et), rfl, _, _, rfl, _, _, rfl, rfl, ?_⟩
      refine ⟨(by show 1 ≤ sizeLine; decide), fun u nu => ⟨(by show 1 ≤ sizeLine; decide), fun l nl => ⟨_, rfl, _, rfl, l, 0, m, wd, rfl, fun _ v d' nd' => ?_, fun h1 h2 => absurd hbad (by omega)⟩⟩⟩
      refine ⟨true, T.te, fun _ a' na' => ?_, fun q => Bool.noConfusion q⟩
      have s1 := same_upd (o := .tup [.int 1]) nu
      have s2 := same_upd (o := .lst [.ref u]) nl
      have s3 := same_upd (o := .xd [("thing", v)]) nd'
      exact ⟨_, _, _, _, _, _, _, _, _, _, _, rfl, ((sm.trans s1).trans s2).trans s3, ((hT6.ext s1).ext s2).ext s3⟩
    · rintro σ H6 ⟨y2, y3, y4, y5, y6, y7, y8, y9, y10, y11, y12, rfl, sm, hT6⟩
      refine ⟨Nat.zero_le _, fun u nu => ⟨u, 0, 1, 2, rfl, fun z => by omega, fun _ _ => ⟨by omega, by omega, by omega, hT6.ext (same_upd nu), [], SqL.of upd_same, fun p hp => absurd hp List.not_mem_nil, by decide, fun p F0 H7 out n most eN hT7 ep eF arow pm so rd q0 q1 q2 q3 => ?_⟩⟩⟩
      have eo : out = [] := List.Perm.eq_nil pm
      have em : most = 0 := q2 rfl
      have en : n = 0 := rd.uniq (.done (by decide))
      subst eo em en
      refine ⟨Nat.zero_le _, fun l nl => ⟨(by show 3 ≤ sizeLine; decide), fun t nt => ?_⟩⟩
      have s8 := same_upd (o := .lst []) nl
      have s9 := same_upd (o := .tup [.ref l, .int 0, .int 0]) nt
      refine ⟨.tuple [.list [], .int 0, .int 0], .tuple [.list [], .int 0, .int 0], .tup (SqT.of (s9 _ _ (s8 _ _ ep))) (.cons (.lst (SqL.of (s9 _ _ (s8 _ _ eF))) .nil) (.cons (.int _) (.cons (.int _) .nil))), .tup (SqT.of upd_same) (.cons (.lst (SqL.of (s9 _ _ upd_same)) .nil) (.cons (.int _) (.cons (.int _) .nil))), by decide, by decide, ?_⟩
      exact q _
end
end Kx

namespace Kx
open PySem PySem.Spec PyProof.Rows L2
/-- an error of the class at S is what «except S» names -/
theorem exm_own {K : PySem.W.Frag} {S : Addr} (h1 : PySem.W.subIn K (.ref S) (.type "BaseException") = some true) (h2 : PySem.W.isClsIn K S = true) (h3 : PySem.W.typeIn K (.ref S) = some (.type "type")) (h4 : PySem.W.subIn K (.ref S) (.ref S) = some true) : PySem.W.exmOne K (.ref S) (.ref S) = some true := by
  have sub : (PySem.W.subIn K (.ref S) (.type "BaseException") == some true) = true := by rw [h1] <;> rfl
  have cls : ((PySem.W.clsIn K S).isSome && PySem.W.typeIn K (.ref S) == some (.type "type")) = true := by
    rw [show (PySem.W.clsIn K S).isSome = true from h2, h3] <;> rfl
  show (if (PySem.W.subIn K (.ref S) (.type "BaseException") == some true) = true then (if ((PySem.W.clsIn K S).isSome && PySem.W.typeIn K (.ref S) == some (.type "type")) = true then PySem.W.subIn K (.ref S) (.ref S) else none) else none) = some true
  rw [if_pos sub, if_pos cls, h4]
theorem all_mk {l : PySem.W.OpenLaw} {w : World} {K : PySem.W.Frag} {h : Heap} {mg : Str → Option Value} {fa : Addr} (X : K.In h) (G : h.Ns mainGlobals mg) (hfa : mg "law" = some (.ref fa))
    {f1 f2 f3 f4 f5 f6 f7 f8 f9 f10 f11 f12 cR PT : Addr} {od1 an1 od2 an2 od3 an3 od4 an4 od5 an5 od6 an6 od7 an7 od8 an8 od9 an9 od10 an10 od11 an11 od12 an12 : Option Addr} {sl1 sl2 sl3 sl4 sl5 sl6 sl7 sl8 sl9 sl10 sl11 sl12 : Array (Option Value)} {oc1 kV1 dc1 pm1 ct1 cd1 oc2 kV2 dc2 pm2 ct2 oc3 kV3 dc3 pm3 ct3 cd3 oc4 kV4 dc4 pm4 ct4 cd4 oc5 kV5 dc5 pm5 ct5 cd5 oc6 kV6 dc6 pm6 ct6 cd6 oc7 kV7 dc7 pm7 ct7 cd7 oc8 kV8 dc8 pm8 ct8 cd8 oc9 kV9 dc9 pm9 ct9 cd9 oc10 kV10 dc10 pm10 ct10 cd10 oc11 kV11 dc11 pm11 ct11 cd11 oc12 kV12 dc12 pm12 ct12 cd12 : Value}  {C fI N BE : Addr} {nm qn : Str} {bs : List Value} {sn : List Str} {sub : List Value} {ab : Bool} {col : Option Bool} {dd odI anI : Option Addr} {n0 n1 n2 n3 n5 : Option Value} {slI : Array (Option Value)} {ocI dcI pmI cdI ctI : Value}
    (tY : h.get? PT = some { cls := .none, data := .fields #[] })
    (a1 : PySem.W.nsIn K mainGlobals "check_room" = some (some (.ref f1))) (l1 : K.lookup f1 = some ⟨oc1, od1, .func (PySem.W.fnOf "check_room" "check_room" (defArgs sRoom) (defBody sRoom) (defScope sRoom) .none kV1 dc1 pm1 an1 cd1 ct1), sl1⟩) (c1 : PySem.W.codeIn K cd1 "check_room" = true) (k1 : PySem.W.keepIn K (.ref f1) = true)
    (a2 : PySem.W.nsIn K mainGlobals "runs_of" = some (some (.ref f2))) (l2 : K.lookup f2 = some ⟨oc2, od2, .func (PySem.W.fnOf "runs_of" "runs_of" (defArgs sRuns) (defBody sRuns) (defScope sRuns) .none kV2 dc2 pm2 an2 (.ref cR) ct2), sl2⟩) (c2 : PySem.W.codeIn K (.ref cR) "runs_of" = true) (k2 : PySem.W.keepIn K (.ref f2) = true)
    (a3 : PySem.W.nsIn K mainGlobals "merged" = some (some (.ref f3))) (l3 : K.lookup f3 = some ⟨oc3, od3, .func (PySem.W.fnOf "merged" "merged" (defArgs sMerged) (defBody sMerged) (defScope sMerged) .none kV3 dc3 pm3 an3 cd3 ct3), sl3⟩) (c3 : PySem.W.codeIn K cd3 "merged" = true) (k3 : PySem.W.keepIn K (.ref f3) = true)
    (a4 : PySem.W.nsIn K mainGlobals "sorted_in_runs" = some (some (.ref f4))) (l4 : K.lookup f4 = some ⟨oc4, od4, .func (PySem.W.fnOf "sorted_in_runs" "sorted_in_runs" (defArgs sSorted) (defBody sSorted) (defScope sSorted) .none kV4 dc4 pm4 an4 cd4 ct4), sl4⟩) (c4 : PySem.W.codeIn K cd4 "sorted_in_runs" = true) (k4 : PySem.W.keepIn K (.ref f4) = true)
    (a5 : PySem.W.nsIn K mainGlobals "rounds_for" = some (some (.ref f5))) (l5 : K.lookup f5 = some ⟨oc5, od5, .func (PySem.W.fnOf "rounds_for" "rounds_for" (defArgs sRFor) (defBody sRFor) (defScope sRFor) .none kV5 dc5 pm5 an5 cd5 ct5), sl5⟩) (c5 : PySem.W.codeIn K cd5 "rounds_for" = true) (k5 : PySem.W.keepIn K (.ref f5) = true)
    (a6 : PySem.W.nsIn K mainGlobals "_law_cell_at" = some (some (.ref f6))) (l6 : K.lookup f6 = some ⟨oc6, od6, .func (PySem.W.fnOf "_law_cell_at" "_law_cell_at" (defArgs sCell) (defBody sCell) (defScope sCell) .none kV6 dc6 pm6 an6 cd6 ct6), sl6⟩) (c6 : PySem.W.codeIn K cd6 "_law_cell_at" = true) (k6 : PySem.W.keepIn K (.ref f6) = true)
    (a7 : PySem.W.nsIn K mainGlobals "_law_draw" = some (some (.ref f7))) (l7 : K.lookup f7 = some ⟨oc7, od7, .func (PySem.W.fnOf "_law_draw" "_law_draw" (defArgs sDraw) (defBody sDraw) (defScope sDraw) .none kV7 dc7 pm7 an7 cd7 ct7), sl7⟩) (c7 : PySem.W.codeIn K cd7 "_law_draw" = true) (k7 : PySem.W.keepIn K (.ref f7) = true)
    (a8 : PySem.W.nsIn K mainGlobals "_law_number" = some (some (.ref f8))) (l8 : K.lookup f8 = some ⟨oc8, od8, .func (PySem.W.fnOf "_law_number" "_law_number" (defArgs sNumb) (defBody sNumb) (defScope sNumb) .none kV8 dc8 pm8 an8 cd8 ct8), sl8⟩) (c8 : PySem.W.codeIn K cd8 "_law_number" = true) (k8 : PySem.W.keepIn K (.ref f8) = true)
    (a9 : PySem.W.nsIn K mainGlobals "_law_next" = some (some (.ref f9))) (l9 : K.lookup f9 = some ⟨oc9, od9, .func (PySem.W.fnOf "_law_next" "_law_next" (defArgs sNext) (defBody sNext) (defScope sNext) .none kV9 dc9 pm9 an9 cd9 ct9), sl9⟩) (c9 : PySem.W.codeIn K cd9 "_law_next" = true) (k9 : PySem.W.keepIn K (.ref f9) = true)
    (a10 : PySem.W.nsIn K mainGlobals "_law_pick" = some (some (.ref f10))) (l10 : K.lookup f10 = some ⟨oc10, od10, .func (PySem.W.fnOf "_law_pick" "_law_pick" (defArgs sPick) (defBody sPick) (defScope sPick) .none kV10 dc10 pm10 an10 cd10 ct10), sl10⟩) (c10 : PySem.W.codeIn K cd10 "_law_pick" = true) (k10 : PySem.W.keepIn K (.ref f10) = true)
    (a11 : PySem.W.nsIn K mainGlobals "_law_rounds" = some (some (.ref f11))) (l11 : K.lookup f11 = some ⟨oc11, od11, .func (PySem.W.fnOf "_law_rounds" "_law_rounds" (defArgs sLRounds) (defBody sLRounds) (defScope sLRounds) .none kV11 dc11 pm11 an11 cd11 ct11), sl11⟩) (c11 : PySem.W.codeIn K cd11 "_law_rounds" = true) (k11 : PySem.W.keepIn K (.ref f11) = true)
    (a12 : PySem.W.nsIn K mainGlobals "law" = some (some (.ref f12))) (l12 : K.lookup f12 = some ⟨oc12, od12, .func (PySem.W.fnOf "law" "law" (defArgs sLaw) (defBody sLaw) (defScope sLaw) .none kV12 dc12 pm12 an12 cd12 ct12), sl12⟩) (c12 : PySem.W.codeIn K cd12 "law" = true) (k12 : PySem.W.keepIn K (.ref f12) = true)
    (tN : K.lookup PT = none) (tC : PySem.W.codeHdIn K cR PT = true)
    (z1 : PySem.W.nsIn K mainGlobals "len" = some none)
    (z2 : PySem.W.nsIn K mainGlobals "int" = some none)
    (z3 : PySem.W.nsIn K mainGlobals "range" = some none)
    (z4 : PySem.W.nsIn K mainGlobals "sorted" = some none)
    (z5 : PySem.W.nsIn K mainGlobals "list" = some none)
    (z6 : PySem.W.nsIn K mainGlobals "min" = some none)
    (z7 : PySem.W.nsIn K mainGlobals "max" = some none)
    (z8 : PySem.W.nsIn K mainGlobals "enumerate" = some none)
    (hpu : PySem.W.nsIn K mainGlobals "heappush" = some (some (.builtin "_heapq.heappush"))) (hpo : PySem.W.nsIn K mainGlobals "heappop" = some (some (.builtin "_heapq.heappop")))
    (aC : PySem.W.nsIn K mainGlobals "BadThing" = some (some (.ref C)))
    (xL : K.lookup C = some (excClassObj nm qn C N bs [.ref BE, .type "Exception", .type "BaseException", .type "object"] true sn sub ab col dd n0 n1 n2 n3 n5 "Exception.__new__"))
    (sa : PySem.W.findIn K (.ref C) "__setattr__" = some (some (.builtin "object.__setattr__"))) (gat : PySem.W.findIn K (.ref C) "__getattribute__" = some (some (.builtin "BaseException.__getattribute__"))) (gg : PySem.W.findIn K (.ref C) "__getattr__" = some none) (nb : PySem.W.findIn K (.ref C) "thing" = some none)
    (ai : PySem.W.findIn K (.ref C) "__init__" = some (some (.ref fI))) (ti : PySem.W.typeIn K (.ref fI) = some (.type "function"))
    (li : K.lookup fI = some ⟨ocI, odI, .func (PySem.W.fnOf "__init__" "BadThing.__init__" (PySem.BadX.iA ⟨7, 17, 7, 21⟩ ⟨7, 23, 7, 28⟩) (PySem.BadX.iB ⟨8, 8, 8, 12⟩ ⟨8, 8, 8, 18⟩ ⟨8, 21, 8, 26⟩ ⟨8, 8, 8, 26⟩) PySem.BadX.iS .none .none dcI pmI anI cdI ctI), slI⟩) (ci : PySem.W.codeIn K cdI "BadThing.__init__" = true)
    (kC : PySem.W.keepIn K (.ref C) = true) (eC : PySem.W.subIn K (.ref C) (.type "BaseException") = some true) (tyC : PySem.W.typeIn K (.ref C) = some (.type "type")) (hC : PySem.W.hasDictIn K C = true) (iC : PySem.W.isClsIn K C = true) (sC : PySem.W.subIn K (.ref C) (.ref C) = some true) :
    LamX.LawAtS l w K CX0 5 63 "script" mg fa h := by
  have e := hfa.symm.trans (PySem.W.mg_of X G a12)
  cases e
  have F1 := fun_mk (st := sRoom) l1 c1 k1
  have b1 := F1.binds (ps := ["memory", "width"]) fun _ _ _ _ _ _ us hl => match us, hl with | [_, _], _ => rfl
  have m1 := PySem.W.mg_of X G a1
  have b2 : Binds K (PySem.W.fnOf "runs_of" "runs_of" (defArgs sRuns) (defBody sRuns) (defScope sRuns) .none kV2 dc2 pm2 an2 (.ref cR) ct2) ["rows", "at", "memory"] [] := (fun_mk (st := sRuns) l2 c2 k2).binds (ps := ["rows", "at", "memory"]) fun _ _ _ _ _ _ us hl => match us, hl with | [_, _, _], _ => rfl
  have m2 := PySem.W.mg_of X G a2
  have F3 := fun_mk (st := sMerged) l3 c3 k3
  have b3 := F3.binds (ps := ["runs", "at"]) fun _ _ _ _ _ _ us hl => match us, hl with | [_, _], _ => rfl
  have m3 := PySem.W.mg_of X G a3
  have F4 := fun_mk (st := sSorted) l4 c4 k4
  have b4 := F4.binds (ps := ["rows", "at", "memory", "width"]) fun _ _ _ _ _ _ us hl => match us, hl with | [_, _, _, _], _ => rfl
  have m4 := PySem.W.mg_of X G a4
  have F5 := fun_mk (st := sRFor) l5 c5 k5
  have b5 := F5.binds (ps := ["many", "memory", "width"]) fun _ _ _ _ _ _ us hl => match us, hl with | [_, _, _], _ => rfl
  have m5 := PySem.W.mg_of X G a5
  have F6 := fun_mk (st := sCell) l6 c6 k6
  have b6 := F6.binds (ps := ["script", "k"]) fun _ _ _ _ _ _ us hl => match us, hl with | [_, _], _ => rfl
  have m6 := PySem.W.mg_of X G a6
  have F7 := fun_mk (st := sDraw) l7 c7 k7
  have b7 := F7.binds (ps := ["cell", "k", "bound"]) fun _ _ _ _ _ _ us hl => match us, hl with | [_, _, _], _ => rfl
  have m7 := PySem.W.mg_of X G a7
  have F8 := fun_mk (st := sNumb) l8 c8 k8
  have b8 := F8.binds (ps := ["cell", "k", "bound"]) fun _ _ _ _ _ _ us hl => match us, hl with | [_, _, _], _ => rfl
  have m8 := PySem.W.mg_of X G a8
  have F9 := fun_mk (st := sNext) l9 c9 k9
  have b9 := F9.binds (ps := ["draw", "bound"]) fun _ _ _ _ _ _ us hl => match us, hl with | [_, _], _ => rfl
  have m9 := PySem.W.mg_of X G a9
  have F10 := fun_mk (st := sPick) l10 c10 k10
  have b10 := F10.binds (ps := ["draw", "things"]) fun _ _ _ _ _ _ us hl => match us, hl with | [_, _], _ => rfl
  have m10 := PySem.W.mg_of X G a10
  have F11 := fun_mk (st := sLRounds) l11 c11 k11
  have b11 := F11.binds (ps := ["many", "memory", "width"]) fun _ _ _ _ _ _ us hl => match us, hl with | [_, _, _], _ => rfl
  have m11 := PySem.W.mg_of X G a11
  have F12 := fun_mk (st := sLaw) l12 c12 k12
  have m_len := PySem.W.mg_none_of X G z1
  have m_int := PySem.W.mg_none_of X G z2
  have m_range := PySem.W.mg_none_of X G z3
  have m_sorted := PySem.W.mg_none_of X G z4
  have m_list := PySem.W.mg_none_of X G z5
  have m_min := PySem.W.mg_none_of X G z6
  have m_max := PySem.W.mg_none_of X G z7
  have m_enumerate := PySem.W.mg_none_of X G z8
  have m_push := PySem.W.mg_of X G hpu
  have m_pop := PySem.W.mg_of X G hpo
  have bad : PySem.BadX.BadTxt K mg C fI :=
    { gC := PySem.W.mg_of X G aC, cls := ⟨nm, qn, N, bs, _, sn, sub, ab, col, dd, n0, n1, n2, n3, n5, xL, rfl⟩, sa := sa, ga := gat, gg := gg, noN := nb, iC := ai, tC := ti, kC := kC, exC := eC, tyC := tyC, hdC := hC, te := exm_own eC iC tyC sC,
      fn := ⟨_, _, _, _, _, _, _, _, _, _, _, _, _, _, li, ci⟩ }
  refine ⟨PySem.W.fnOf "law" "law" (defArgs sLaw) (defBody sLaw) (defScope sLaw) .none kV12 dc12 pm12 an12 cd12 ct12, [(cR, PT)], spLaw K PT, fun p hp => ?_, fun p hp => ?_, fun p hp => ?_, fun s v => .of_eq rfl, fun H a ns hl _ hH hS => ⟨a, ns, rfl, hS, fun p hp => ?_, fun _ => rfl⟩, fun base _ _ hTB => ?_⟩
  · rw [List.mem_singleton.mp hp]
    exact tY
  · rw [List.mem_singleton.mp hp]
    exact tN
  · rw [List.mem_singleton.mp hp]
    exact PySem.W.codeHd_of_K X tC
  · rw [List.mem_singleton.mp hp]
    exact LamX.TabS.nil (hH (cR, PT) List.mem_cons_self)
  have TB : LamX.TabB base mg cR PT := hTB (cR, PT) List.mem_cons_self
  have R_room : ReadyX l.prog w K mg base 2 "check_room" ["memory", "width"] (spRoom C) := ⟨⟨f1, _, ok_room F1 bad, b1, m1, k1⟩⟩
  have R_runs : Ready l.prog w K mg base 1 "runs_of" ["rows", "at", "memory"] (spRuns K PT) := ⟨⟨f2, _, ok_runs l2 c2 TB m_len m_range m_sorted, b2, m2, k2⟩⟩
  have R_merged : Ready l.prog w K mg base 1 "merged" ["runs", "at"] (spMerged K) := ⟨⟨f3, _, ok_merged F3 m_enumerate m_len m_push m_pop, b3, m3, k3⟩⟩
  have R_sorted : ReadyX l.prog w K mg base 3 "sorted_in_runs" ["rows", "at", "memory", "width"] (spSorted K C PT) := ⟨⟨f4, _, ok_sorted F4 m_len m_range m_max R_room R_runs R_merged, b4, m4, k4⟩⟩
  have R_rfor : ReadyX l.prog w K mg base 3 "rounds_for" ["many", "memory", "width"] (spRFor C) := ⟨⟨f5, _, ok_rfor F5 R_room, b5, m5, k5⟩⟩
  have R_cell : Ready l.prog w K mg base 1 "_law_cell_at" ["script", "k"] (spCell K) := ⟨⟨f6, _, ok_cell F6 m_len, b6, m6, k6⟩⟩
  have R_draw : Ready l.prog w K mg base 1 "_law_draw" ["cell", "k", "bound"] spDraw := ⟨⟨f7, _, ok_draw F7 m_int, b7, m7, k7⟩⟩
  have R_numb : Ready l.prog w K mg base 2 "_law_number" ["cell", "k", "bound"] spNumb := ⟨⟨f8, _, ok_numb F8 m_int m_range R_draw, b8, m8, k8⟩⟩
  have R_next : Ready l.prog w K mg base 3 "_law_next" ["draw", "bound"] spNext := ⟨⟨f9, _, ok_next F9 m_int R_cell R_numb, b9, m9, k9⟩⟩
  have R_pick : Ready l.prog w K mg base 4 "_law_pick" ["draw", "things"] (spPick K) := ⟨⟨f10, _, ok_pick F10 m_len R_next, b10, m10, k10⟩⟩
  have R_lrounds : Ready l.prog w K mg base 1 "_law_rounds" ["many", "memory", "width"] spLRounds := ⟨⟨f11, _, ok_lrounds F11, b11, m11, k11⟩⟩
  exact ok_law F12 bad m_range m_len m_list m_sorted m_max m_min R_next R_pick R_lrounds R_sorted R_rfor
theorem walk {l : PySem.W.OpenLaw} {q : Program} {loose : List Str} {XP : (Str → Option Value) → Heap → Prop} {YP : World → Heap → Prop} {d : DefRec} {K : Params → PySem.W.Frag} (hn : l.most = some 63) (hdf : d.params.defaults = [])
    (hY : ∀ (w : World) (h : Heap), YP w h → (K w.params).In h)
    (F : ∀ (w : World) (mg : Str → Option Value) (fa : Addr) (h : Heap), YP w h → (K w.params).In h → h.Ns mainGlobals mg → mg d.name = some (.ref fa) → LamX.LawAtS l w (K w.params) CX0 5 63 "script" mg fa h) :
    PySem.W.WalkO q loose XP YP l.row.toRowW d [] (fun f vs => PySem.call f vs) :=
  LamX.walk_ofTs (n := 63) (k := 5) (x := "script") (CX := fun _ => CX0) hn (by decide) hdf ⟨rfl, by decide, by decide⟩ hY F fun _ _ _ _ _ z => z
end Kx
open PySem PySem.W PyProof.Rows
set_option maxRecDepth 100000 in
set_option maxHeartbeats 0 in
theorem PySem.Challenge.cw_countedonce_k19_sorting_in_runs_holds : PySem.Challenge.rw_countedonce_k19_sorting_in_runs.Holds := by
  w_on; o_law; k_head; (case hw => w_witness2)
  k_fill
  refine Kx.walk (l := PySem.Challenge.rw_countedonce_k19_sorting_in_runs) rfl rfl (fun w h Y => PySem.W.km_in_of Y) ?F
  case F =>
    intro w mg fa h Y KX G hmg
    refine' Kx.all_mk KX G hmg ?tY ?a1 ?l1 ?c1 ?k1 ?a2 ?l2 ?c2 ?k2 ?a3 ?l3 ?c3 ?k3 ?a4 ?l4 ?c4 ?k4 ?a5 ?l5 ?c5 ?k5 ?a6 ?l6 ?c6 ?k6 ?a7 ?l7 ?c7 ?k7 ?a8 ?l8 ?c8 ?k8 ?a9 ?l9 ?c9 ?k9 ?a10 ?l10 ?c10 ?k10 ?a11 ?l11 ?c11 ?k11 ?a12 ?l12 ?c12 ?k12 ?tN ?tC ?z1 ?z2 ?z3 ?z4 ?z5 ?z6 ?z7 ?z8 ?hpu ?hpo ?aC ?xL ?sa ?gat ?gg ?nb ?ai ?ti ?li ?ci ?kC ?eC ?tyC ?hC ?iC ?sC
    (case tY => exact PySem.W.km_tabs_of Y _ List.mem_cons_self)
    (case a1 => k_is)
    (case l1 => k_is)
    (case c1 => k_is)
    (case k1 => k_is)
    (case a2 => k_is)
    (case l2 => k_is)
    (case c2 => k_is)
    (case k2 => k_is)
    (case a3 => k_is)
    (case l3 => k_is)
    (case c3 => k_is)
    (case k3 => k_is)
    (case a4 => k_is)
    (case l4 => k_is)
    (case c4 => k_is)
    (case k4 => k_is)
    (case a5 => k_is)
    (case l5 => k_is)
    (case c5 => k_is)
    (case k5 => k_is)
    (case a6 => k_is)
    (case l6 => k_is)
    (case c6 => k_is)
    (case k6 => k_is)
    (case a7 => k_is)
    (case l7 => k_is)
    (case c7 => k_is)
    (case k7 => k_is)
    (case a8 => k_is)
    (case l8 => k_is)
    (case c8 => k_is)
    (case k8 => k_is)
    (case a9 => k_is)
    (case l9 => k_is)
    (case c9 => k_is)
    (case k9 => k_is)
    (case a10 => k_is)
    (case l10 => k_is)
    (case c10 => k_is)
    (case k10 => k_is)
    (case a11 => k_is)
    (case l11 => k_is)
    (case c11 => k_is)
    (case k11 => k_is)
    (case a12 => k_is)
    (case l12 => k_is)
    (case c12 => k_is)
    (case k12 => k_is)
    (case z1 => k_is)
    (case z2 => k_is)
    (case z3 => k_is)
    (case z4 => k_is)
    (case z5 => k_is)
    (case z6 => k_is)
    (case z7 => k_is)
    (case z8 => k_is)
    (case hpu => k_is)
    (case hpo => k_is)
    (case aC => k_is)
    (case xL => k_is)
    (case sa => k_is)
    (case gat => k_is)
    (case gg => k_is)
    (case nb => k_is)
    (case ai => k_is)
    (case ti => k_is)
    (case li => k_is)
    (case ci => k_is)
    (case kC => k_is)
    (case eC => k_is)
    (case tyC => k_is)
    (case hC => k_is)
    (case iC => k_is)
    (case tN => kernel_rfl)
    (case tC => kernel_rfl)
    (case sC => first | rfl | k_is)

#print axioms PySem.Challenge.cw_countedonce_k19_sorting_in_runs_holds

