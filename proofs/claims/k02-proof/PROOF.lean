import PyProof.Rows.All
import Wide.All
import OpenK.AllK
import Wide.FinOn
import HandS.ForMost
import HandS.Exc
import HandS.TryOnly
import HandS.TryMany
import HandS.ExcOwn
import HandS.WordsExc
import HandS.IsInst
import HandS.TupAny
import HandS.TupMul
import KE.DataEq
import KE.KeyNested
import KE.KDictKeyed
import KE.SortData
import KE.DataCmp
import HandS.Conv
import KE.SortLaws
import HandS.More
import KE.SortCalls
import KE.KDictSum
import HandS.NoneIn
import HandS.Zip
import KE.KDictDisplayH
import HandS.Words
import HandS.Comp
import HandS.Iter
import HandS.SetKeys
import HandS.ListItems
import HandS.TupSets
import HandS.DictComp
import HandS.ForSpec
import HandS.ExcInit
import HandS.ExcField
import KE.DataFind
import HandS.Deep
import PyProof.SeqIndex
import HandS.TupLen
import KE.KDictList
import KE.GoesMore
import KE.GoesEnum
import HandS.Style
import HandS.Lambda
import HandS.EndOwn
import KE.KDflt
import KE.KNestM
import PySem.Challenge.RW_holestore_k02_whole_yards
set_option Elab.async false
set_option linter.all false
set_option maxRecDepth 100000
set_option maxHeartbeats 2000000
/-! Tuples that hold None are laid with their object known: it has no dict, so that their methods can be called. -/
namespace GL
open PySem L2 PyProof.Rows

def hasN : List V → Bool
  | [] => false
  | .non :: _ => true
  | _ :: r => hasN r
/-- what stands for a new tuple -/
def mkTup (xs : List V) (o : Obj) : HO := if hasN xs = true then .frz o (.tup xs) else .tup xs
/-- a new tuple's object -/
structure TupObj (o : Obj) : Prop where
  cls : o.cls = .type "tuple"
  dict : o.dict = none
theorem mkTup_no {xs : List V} {o : Obj} (h : hasN xs = false) : mkTup xs o = .tup xs := by unfold mkTup; rw [if_neg (by rw [h]; exact Bool.false_ne_true)]
theorem mkTup_yes {xs : List V} {o : Obj} (h : hasN xs = true) : mkTup xs o = .frz o (.tup xs) := by unfold mkTup; rw [if_pos h]
section
variable {X : Cx} {pins : List (Addr × Obj)} {σ : L2.St} {H : Hp} {s : Shared}
theorem tup_laid (I : Inv X pins σ H s) {xs : List V} {its : List Value} (r : Vals xs its) (hz : xs.length ≤ sizeLine) :
    Inv X pins σ (upd H s.heap.objs.size (mkTup xs { cls := .type "tuple", data := .seq its.toArray })) { s with heap := s.heap.push { cls := .type "tuple", data := .seq its.toArray } } := by
  refine I.laid (t' := s.toks) (fun b u e => Heap.get?_push_of_some _ e) (Nat.le_refl _) ?_
  have base : ∀ H', ObjOk X.prog X.w H' (s.heap.push { cls := .type "tuple", data := .seq its.toArray }) s.heap.objs.size (.tup xs) := fun H' => ⟨hz, its, r, IsTup.new _ _⟩
  cases h : hasN xs with
  | true =>
    rw [mkTup_yes h]
    exact ⟨Heap.get?_push_size _ rfl, base _⟩
  | false =>
    rw [mkTup_no h]
    exact base _
def tTupN (t : TA) : TE := fun σ H Q => t σ H fun xs H1 => xs.length ≤ sizeLine ∧ ∀ p o, H1 p = none → TupObj o → Q (.ref p) (upd H1 p (mkTup xs o))
theorem pe_tupN {es : List Expr} {pos : Pos} {t : TA} {x1} (h : PA X es t) : PE X (.Tuple es x1 pos) (tTupN t) := by
  refine ⟨fun pins s σ H Q I hq => ?_⟩
  refine wpAny_Tuple_spliced (thn (h.run pos pins s σ H _ I hq) fun us s1 ⟨xs, H1, I1, r, z, q⟩ => ⟨by rw [← r.length]; exact z, ?_⟩)
  have hf : H1 s1.heap.objs.size = none := I1.hok.fresh (Nat.le_refl _)
  exact ⟨.ref s1.heap.objs.size, _, tup_laid I1 r z, rfl, q _ _ hf ⟨rfl, rfl⟩⟩
def rTupleN (K : PySem.W.Frag) : List V → Hp → VK → Prop := fun xs H Q => ∃ p ys, xs = [.ref p] ∧ ((SqL K H p ys ∧ ∀ l o, H l = none → TupObj o → Q (.ref l) (upd H l (mkTup ys o))) ∨ (SqT K H p ys ∧ Q (.ref p) H))
theorem call_tupleN : CallR X (.type "tuple") (rTupleN X.K) := by
  intro pins s σ H xs us Q I r h
  obtain ⟨p, ys, rfl, h⟩ := h
  obtain ⟨u, rfl, rx⟩ := vals1 r
  cases rx
  rcases h with ⟨hq, q⟩ | ⟨hq, q⟩
  · obtain ⟨its, r', pl, hz⟩ := I.list hq
    have hlen := r'.length
    refine call_tuple_list pl.isList (fun h' kp => ?_) (by simp only [List.size_toArray] <;> omega)
    have I1 : Inv X pins σ H { s with heap := h' } := I.kept (t' := s.toks) kp
    exact ⟨.ref h'.objs.size, _, tup_laid I1 r' hz, rfl, q _ _ (I1.hok.fresh (Nat.le_refl _)) ⟨rfl, rfl⟩⟩
  · obtain ⟨its, r', pl, hz⟩ := I.tuple hq
    exact call_tuple_same pl ⟨.ref p, H, I, rfl, q⟩
/-- t + u -/
def rCatN (K : PySem.W.Frag) : R2 := fun x y H Q => ∃ a b xs ys, x = .ref a ∧ y = .ref b ∧ SqT K H a xs ∧ SqT K H b ys ∧ xs.length + ys.length ≤ sizeLine ∧
  (xs = [] → Q (.ref b) H) ∧ (xs ≠ [] → ys = [] → Q (.ref a) H) ∧ (xs ≠ [] → ys ≠ [] → ∀ p o, H p = none → TupObj o → Q (.ref p) (upd H p (mkTup (xs ++ ys) o)))
theorem op_catN : OpR X (binaryOp .Add) (rCatN X.K) := by
  intro pins s σ H x y v u Q I rx ry h
  obtain ⟨a, b, xs, ys, rfl, rfl, ha, hb, hz, q0, q1, q2⟩ := h
  cases rx
  cases ry
  obtain ⟨its, r1, p1, _⟩ := I.tuple ha
  obtain ⟨its2, r2, p2, _⟩ := I.tuple hb
  by_cases hx : xs = []
  · subst hx
    cases r1
    exact cat_tup0 p1 p2 ⟨.ref b, H, I, rfl, q0 rfl⟩
  · refine HT.cat_tup p1 p2 (fun z => hx (r1.nil_iff.mp z)) (fun z => ⟨.ref a, H, I, rfl, q1 hx (r2.nil_iff.mp z)⟩) (fun z => ?_) (by rw [← r1.length, ← r2.length]; exact hz)
    exact ⟨.ref s.heap.objs.size, _, tup_laid I (r1.append r2) (by rw [List.length_append]; exact hz), rfl, q2 hx (fun w => z (r2.nil_iff.mpr w)) _ _ (I.hok.fresh (Nat.le_refl _)) ⟨rfl, rfl⟩⟩
/-- t[lo:hi] -/
def rSlN (K : PySem.W.Frag) : V → Option Int → Option Int → Hp → VK → Prop := fun x lo hi H Q => ∃ a xs, x = .ref a ∧ SqT K H a xs ∧
  (HT.sIx xs.length 0 lo = 0 ∧ HT.sIx xs.length xs.length hi = xs.length → Q (.ref a) H) ∧ (¬ (HT.sIx xs.length 0 lo = 0 ∧ HT.sIx xs.length xs.length hi = xs.length) → ∀ p o, H p = none → TupObj o → Q (.ref p) (upd H p (mkTup (cutV xs lo hi) o)))
theorem sl_tupN : SlR X (rSlN X.K) := by
  intro pins s σ H x v vl vu lo hi sl Q I rx hs pl pu h
  obtain ⟨a, xs, rfl, hx, q1, q2⟩ := h
  cases rx
  obtain ⟨its, r, ht, hz⟩ := I.tuple hx
  have hlen : its.toArray.size = xs.length := by rw [List.size_toArray]; exact r.length.symm
  refine ⟨"tuple", _, PyProof.Rows.slot_tuple_getitem.lookup, ht.typeIs, ?_⟩
  by_cases hw : HT.sIx xs.length 0 lo = 0 ∧ HT.sIx xs.length xs.length hi = xs.length
  · exact getItem_tuple_whole ht hs pl pu (by rw [hlen]; exact hw) ⟨.ref a, H, I, rfl, q1 hw⟩
  · refine HT.getItem_tuple_cut ht hs pl pu (by rw [hlen]; exact hw) ?_ (by rw [hlen]; exact hz)
    rw [hlen]
    refine ⟨.ref s.heap.objs.size, _, tup_laid I (xs := cutV xs lo hi) ((r.drop (HT.sIx xs.length 0 lo)).take (HT.sIx xs.length xs.length hi - HT.sIx xs.length 0 lo)) (Nat.le_trans (cutV_length xs lo hi) hz), rfl, q2 hw _ _ (I.hok.fresh (Nat.le_refl _)) ⟨rfl, rfl⟩⟩
/-- t * n, n at least 2 -/
def rRepN (K : PySem.W.Frag) : R2 := fun x y H Q => ∃ l k xs, x = .ref l ∧ y = .int k ∧ SqT K H l xs ∧ xs ≠ [] ∧ 2 ≤ k ∧ k ≤ 1000 ∧ xs.length ≤ 1000 ∧ ∀ p o, H p = none → TupObj o → Q (.ref p) (upd H p (mkTup (List.replicate k.toNat xs).flatten o))
theorem op_repN : OpR X (binaryOp .Mult) (rRepN X.K) := by
  intro pins s σ H x y v u Q I rx ry h
  obtain ⟨l, k, xs, rfl, rfl, hT, hne, h1, h2, hz, q⟩ := h
  cases rx
  obtain ⟨t, rfl⟩ := ry
  obtain ⟨its, r, ⟨⟨cls, dd, data, sl⟩, ho, hc, n, hd⟩, hs⟩ := I.tuple hT
  simp only at hc hd
  subst hc hd
  have hle : its.length = xs.length := r.length.symm
  have hn : its ≠ [] := fun e => hne (by
    rw [e] at hle
    exact List.eq_nil_of_length_eq_zero hle.symm)
  have hi : its.toArray.isEmpty = false := by
    cases its with
    | nil => exact absurd rfl hn
    | cons a b => rfl
  have hsz0 : its.toArray.size = xs.length := by rw [List.size_toArray, hle]
  have hm : ((its.toArray.size : Nat) : Int) * k ≤ 1000000 := by
    rw [hsz0]
    have a1 : ((xs.length : Nat) : Int) * k ≤ 1000 * k := Int.mul_le_mul_of_nonneg_right (by omega) (by omega)
    omega
  have flen : (List.replicate k.toNat its).flatten.length ≤ sizeLine := by
    rw [PyProof.Rows.lm_len_rep_flat, hle, sizeLine_eq]
    have a1 : k.toNat * xs.length ≤ 1000 * 1000 := Nat.mul_le_mul (by omega) hz
    omega
  have c0 : (decide (k < -(2 ^ 63)) || decide (k ≥ 2 ^ 63)) = false := by
    rw [decide_eq_false (by omega), decide_eq_false (by omega)] <;> rfl
  have c1 : (its.toArray.isEmpty || k == 1) = false := by
    rw [hi, Bool.false_or]
    exact beq_eq_false_iff_ne.mpr (by omega)
  have c2 : (decide (k ≤ 0) || its.toArray.isEmpty) = false := by
    rw [hi, Bool.or_false]
    exact decide_eq_false (by omega)
  have c4 : Builtin.Tuple.tupleTooMany (((its.toArray.size : Nat) : Int) * k) = false := by
    unfold Builtin.Tuple.tupleTooMany
    rw [sizeLine_eq]
    exact decide_eq_false (by omega)
  refine wpAny_binaryOp_repeat_ref (T := "tuple") (U := "int") (by decide) ⟨_, ho, rfl⟩ (fun s' => typeIs_int s' k t) noFill_tuple_mul F.fills_int_mul F.slot_int_rmul repeat_tuple F.slot_int_index.lookup
    (call_meets F.slot_int_rmul (typeIs_int s k t) F.entry_int_rmul (F.args_int_rmul_2 _ _) (int_rmul_tuple k t l its.toArray n dd sl)
      ⟨ho, rfl, ⟨_, ho, rfl⟩, call_meets F.slot_tuple_mul ⟨_, ho, rfl⟩ F.entry_tuple_mul (F.args_tuple_mul_2 _ _) (tuple_mulW l its.toArray n dd sl k t c0 c1 c2 (by omega) c4 (by rw [size_rep, List.size_toArray]; exact flen)) ⟨ho, ?_⟩⟩)
  rw [size_rep]
  exact ⟨.ref s.heap.objs.size, _, tup_laid I (r.rep k.toNat) (by rw [PyProof.Rows.lm_len_rep_flat, sizeLine_eq]; have a1 : k.toNat * xs.length ≤ 1000 * 1000 := Nat.mul_le_mul (by omega) hz; omega), rfl, q _ _ (I.hok.fresh (Nat.le_refl _)) ⟨rfl, rfl⟩⟩
end
end GL

/-! ### dicts whose keys are tuples of ints, None and such tuples -/
namespace GL
open PySem L2 PyProof.Rows
abbrev NKey := NestedKey
mutual
/-- no text in it -/
def noTx : NestedKey → Bool
  | .none => true
  | .num _ => true
  | .text _ => false
  | .tup ks => noTxs ks
def noTxs : List NestedKey → Bool
  | [] => true
  | k :: ks => noTx k && noTxs ks
end
mutual
def hashK : NestedKey → Int
  | .none => reduceHash 0xFCA86420
  | .num i => hashInt i
  | .text _ => 0
  | .tup ks => reduceHash (Builtin.Tuple.tupleHashOf (hashKs ks))
def hashKs : List NestedKey → List Int
  | [] => []
  | k :: ks => hashK k :: hashKs ks
end
mutual
theorem hashK_eq (w : World) : ∀ k : NestedKey, noTx k = true → k.hash w = hashK k
  | .none, _ => by rw [NestedKey.hash, hashK]
  | .num i, _ => by rw [NestedKey.hash, hashK]
  | .text _, h => by rw [noTx] at h; cases h
  | .tup ks, h => by
    rw [noTx] at h
    rw [NestedKey.hash, hashK, hashKs_eq w ks h]
theorem hashKs_eq (w : World) : ∀ ks : List NestedKey, noTxs ks = true → NestedKey.hashes w ks = hashKs ks
  | [], _ => by rw [NestedKey.hashes, hashKs]
  | k :: ks, h => by
    rw [noTxs, Bool.and_eq_true] at h
    rw [NestedKey.hashes, hashKs, hashK_eq w k h.1, hashKs_eq w ks h.2]
end
/-- a key that may be told: a tuple, flat enough, without texts -/
def okK (k : NestedKey) : Bool := noTx k && decide (k.depth ≤ 8)
abbrev NEnt := NestedKey × Addr × V
def NRel (p : NEnt) (q : NestedKey × Addr × Value) : Prop := p.1 = q.1 ∧ p.2.1 = q.2.1 ∧ RelV p.2.2 q.2.2
def entK (x : NestedKey × Addr × Value) : DictEntry := ⟨hashK x.1, .ref x.2.1, x.2.2⟩
/-- the dict at l has the entries ws: keys, where they stand, values -/
def dnP (l : Addr) (ws : List NEnt) (h : Heap) : Prop := ws.length ≤ sizeLine ∧ (l == sysModules) = false ∧ (∀ x ∈ ws, okK x.1 = true) ∧ ∃ xs : List (NestedKey × Addr × Value), Paired NRel ws xs ∧
  ∃ o es ep, h.get? l = some o ∧ o.ExactDict ∧ o.data = .dict es ep ∧ es.toList = xs.map entK ∧ (xs.map (·.1)).Nodup
def dnO (l : Addr) (ws : List NEnt) : HO := .ext (dnP l ws)
/-- the keys stand -/
def KeysN (K : PySem.W.Frag) (H : Hp) (ws : List NEnt) : Prop := ∀ x ∈ ws, Dp K H (.ref x.2.1) x.1.data
section
variable {X : Cx} {pins : List (Addr × Obj)} {σ : L2.St} {H : Hp} {s : Shared}
theorem dnO_ok {P : Program} {w : World} {h : Heap} {l : Addr} {ws : List NEnt} (x : dnP l ws h) : ObjOk P w H h l (dnO l ws) := by
  have st : ∀ h1 h2 : Heap, dnP l ws h1 → (∀ o, h1.get? l = some o → h2.get? l = some o) → dnP l ws h2 := fun h1 h2 ⟨a, b, c, xs, r, o, es, ep, e, z⟩ k => ⟨a, b, c, xs, r, o, es, ep, k o e, z⟩
  obtain ⟨a, b, c, xs, r, o, es, ep, e, z⟩ := id x
  exact ⟨x, ⟨o, e⟩, st⟩
theorem dnO_of {P : Program} {w : World} {h : Heap} {l : Addr} {ws : List NEnt} (ok : HOk P w H h) (e : H l = some (dnO l ws)) : dnP l ws h := (ok l _ e).1
mutual
theorem nested_of (I : Inv X pins σ H s) : ∀ (k : NestedKey) (v : V) (u : Value), Dp X.K H v k.data → RelV v u → NestedIs s.heap k u
  | .none, v, u, d, r => by
    rw [NestedKey.data] at d
    cases d
    cases (show u = Value.none from r)
    exact .none
  | .num i, v, u, d, r => by
    rw [NestedKey.data] at d
    cases d
    obtain ⟨t, rfl⟩ := (show ∃ t, u = Value.int i t from r)
    exact .int i t
  | .text x, v, u, d, r => by
    rw [NestedKey.data] at d
    cases d
    obtain ⟨t, rfl⟩ := (show ∃ t, u = Value.str x t from r)
    exact .text x t
  | .tup ks, v, u, d, r => by
    rw [NestedKey.data] at d
    cases d with
    | tup hs ha =>
      cases (show u = Value.ref _ from r)
      obtain ⟨its, rv, ⟨ob, g1, g2, m, g3⟩, _⟩ := I.tuple hs
      exact .tup g1 g2 g3 (by simpa using nestedAll_of I ks _ its ha rv)
theorem nestedAll_of (I : Inv X pins σ H s) : ∀ (ks : List NestedKey) (vs : List V) (us : List Value), DpAll X.K H vs (NestedKey.datas ks) → Vals vs us → NestedAll s.heap ks us
  | [], vs, us, d, r => by
    rw [NestedKey.datas] at d
    cases d
    cases r
    exact .nil
  | k :: ks, vs, us, d, r => by
    rw [NestedKey.datas] at d
    cases d with
    | cons d1 d2 =>
      cases r with
      | cons r1 r2 => exact .cons (nested_of I k _ _ d1 r1) (nestedAll_of I ks _ _ d2 r2)
end
theorem okK_noTx {k : NestedKey} (h : okK k = true) : noTx k = true := (Bool.and_eq_true_iff.mp h).1
theorem okK_deep {k : NestedKey} (h : okK k = true) : k.depth ≤ 8 := of_decide_eq_true (Bool.and_eq_true_iff.mp h).2
theorem keyN_is (I : Inv X pins σ H s) {k : NestedKey} {b : Addr} (ok : okK k = true) (d : Dp X.K H (.ref b) k.data) : (nestedKind X.prog X.w).is s.heap k b := ⟨nested_of I k _ _ d rfl, okK_deep ok⟩
theorem paired_mem {α β : Type} {R : α → β → Prop} : ∀ {l : List α} {m : List β}, Paired R l m → ∀ y ∈ m, ∃ x ∈ l, R x y
  | _, _, .nil, y, h => by cases h
  | _, _, .cons r t, y, h => (List.mem_cons.mp h).elim (fun e => ⟨_, List.mem_cons_self, by rw [e]; exact r⟩) fun h => let ⟨x, a, b⟩ := paired_mem t y h; ⟨x, List.mem_cons_of_mem _ a, b⟩
/-- the dict as the library tells it -/
theorem dn_of (I : Inv X pins σ H s) {l : Addr} {ws : List NEnt} (e : H l = some (dnO l ws)) (hk : KeysN X.K H ws) : ws.length ≤ sizeLine ∧ (l == sysModules) = false ∧ (∀ x ∈ ws, okK x.1 = true) ∧
    ∃ xs, Paired NRel ws xs ∧ s.heap.DictOfH (nestedKind X.prog X.w) l xs := by
  obtain ⟨a, b, c, xs, r, o, es, ep, h1, h2, h3, h4, h5⟩ := dnO_of I.hok e
  refine ⟨a, b, c, xs, r, o, es, ep, h1, h2, h3, ?_, fun x hx => ?_, h5⟩
  · rw [h4]
    refine List.map_congr_left fun x hx => ?_
    obtain ⟨y, m, e1, _, _⟩ := paired_mem r x hx
    unfold entK entryOfKey
    congr 1
    have := hashK_eq X.w x.1 (okK_noTx (by rw [← e1]; exact c y m))
    exact this.symm
  · obtain ⟨y, m, e1, e2, _⟩ := paired_mem r x hx
    have := keyN_is I (c y m) (hk y m)
    rw [e1, e2] at this
    exact this
/-- and back -/
theorem dnP_of {P : Program} {w : World} {h : Heap} {l : Addr} {ws : List NEnt} {xs : List (NestedKey × Addr × Value)} (a : ws.length ≤ sizeLine) (b : (l == sysModules) = false) (c : ∀ x ∈ ws, okK x.1 = true) (r : Paired NRel ws xs) (d : h.DictOfH (nestedKind P w) l xs) : dnP l ws h := by
  obtain ⟨o, es, ep, h1, h2, h3, h4, _, h6⟩ := d
  refine ⟨a, b, c, xs, r, o, es, ep, h1, h2, h3, ?_, h6⟩
  rw [h4]
  refine List.map_congr_left fun x hx => ?_
  obtain ⟨y, m, e1, _, _⟩ := paired_mem r x hx
  unfold entK entryOfKey
  congr 1
  exact hashK_eq w x.1 (okK_noTx (by rw [← e1]; exact c y m))
/-- what stands at a key -/
def lookN (ws : List NEnt) (k : NestedKey) : Option V := (ws.find? fun p => decide (p.1 = k)).map (·.2.2)
def putN (ws : List NEnt) (k : NestedKey) (a : Addr) (v : V) : List NEnt := if (ws.any fun p => decide (p.1 = k)) = true then ws.map fun p => if p.1 = k then (p.1, p.2.1, v) else p else ws ++ [(k, a, v)]
theorem NRel.look : ∀ {ws : List NEnt} {xs : List (NestedKey × Addr × Value)}, Paired NRel ws xs → ∀ k, RelO (lookN ws k) ((atKey xs k).map (·.2))
  | _, _, .nil, k => True.intro
  | _, _, .cons (a := p) (b := q) (l₁ := ps) (l₂ := qs) r t, k => by
    obtain ⟨e1, e2, e3⟩ := r
    by_cases z : p.1 = k
    · have z' : q.1 = k := e1.symm.trans z
      have a : lookN (p :: ps) k = some p.2.2 := by unfold lookN; rw [List.find?_cons_of_pos (by simpa using z)]; rfl
      have b : atKey (q :: qs) k = some q.2 := by simp [atKey, List.find?_cons, z']
      rw [a, b]
      exact e3
    · have z' : ¬ q.1 = k := fun h => z (e1.trans h)
      have a : lookN (p :: ps) k = lookN ps k := by unfold lookN; rw [List.find?_cons_of_neg (by simpa using z)]
      have b : atKey (q :: qs) k = atKey qs k := by simp [atKey, List.find?_cons, z']
      rw [a, b]
      exact NRel.look t k
theorem lookN_any (ws : List NEnt) (k : NestedKey) : (ws.any fun p => decide (p.1 = k)) = (lookN ws k).isSome := by
  induction ws with
  | nil => rfl
  | cons p ps ih =>
    rw [List.any_cons, ih]
    unfold lookN
    by_cases z : p.1 = k
    · rw [List.find?_cons_of_pos (by simpa using z), decide_eq_true z]; rfl
    · rw [List.find?_cons_of_neg (by simpa using z), decide_eq_false z]; rfl
theorem NRel.repl {ws : List NEnt} {xs : List (NestedKey × Addr × Value)} (r : Paired NRel ws xs) (k : NestedKey) {y : V} {u : Value} (ry : RelV y u) : Paired NRel (ws.map fun p => if p.1 = k then (p.1, p.2.1, y) else p) (xs.map (putAt k u)) := by
  induction r with
  | nil => exact .nil
  | @cons p q ps qs h t ih =>
    rw [List.map_cons, List.map_cons]
    refine .cons ?_ ih
    obtain ⟨e1, e2, e3⟩ := h
    unfold putAt
    by_cases z : p.1 = k
    · rw [if_pos z, if_pos (e1.symm.trans z)]; exact ⟨e1, e2, ry⟩
    · rw [if_neg z, if_neg (fun h => z (e1.trans h))]; exact ⟨e1, e2, e3⟩
theorem NRel.put {ws : List NEnt} {xs : List (NestedKey × Addr × Value)} (r : Paired NRel ws xs) (k : NestedKey) (b : Addr) {y : V} {u : Value} (ry : RelV y u) : Paired NRel (putN ws k b y) (storedH xs k b u) := by
  have e : (ws.any fun p => decide (p.1 = k)) = (atKey xs k).isSome := by
    rw [lookN_any, (NRel.look r k).isSome_eq, Option.isSome_map]
  unfold putN storedH
  rw [e]
  by_cases q : (atKey xs k).isSome = true
  · rw [if_pos q, if_pos q]; exact NRel.repl r k ry
  · rw [if_neg q, if_neg q]; exact Paired.snoc r ⟨rfl, rfl, ry⟩
theorem putN_len (ws : List NEnt) (k : NestedKey) (a : Addr) (v : V) : (putN ws k a v).length ≤ ws.length + 1 := by
  unfold putN
  split
  · rw [List.length_map]; omega
  · rw [List.length_append]; exact Nat.le_refl _
theorem putN_mem {ws : List NEnt} {k : NestedKey} {a : Addr} {v : V} {P : NestedKey → Addr → Prop} (h : ∀ x ∈ ws, P x.1 x.2.1) (hk : P k a) : ∀ x ∈ putN ws k a v, P x.1 x.2.1 := fun x hx => by
  unfold putN at hx
  split at hx
  · obtain ⟨y, m, e⟩ := List.mem_map.mp hx
    split at e
    · subst e; exact h y m
    · subst e; exact h y m
  · rcases List.mem_append.mp hx with m | m
    · exact h x m
    · rw [List.mem_singleton.mp m]; exact hk
end
end GL
/-! A layer of data trees over the hand layer: what a frame's names hold is told as plain data; lists and dicts that a frame alone holds may change. -/
namespace GL
open PySem L2

abbrev D := PyData
def keyD : Key → D
  | .inl i => .int i
  | .inr x => .str x
def keysD (k : List Key) : D := .tuple (k.map keyD)

/-- at a stands the tuple of xs; one that holds None is known to the object -/
def TupAt (B : Hp) (a : Addr) (xs : List V) : Prop := ∃ o, TupObj o ∧ B a = some (mkTup xs o)
theorem TupAt.up {B B' : Hp} {a : Addr} {xs : List V} (e : Same B B') (h : TupAt B a xs) : TupAt B' a xs := let ⟨o, h1, h2⟩ := h; ⟨o, h1, e _ _ h2⟩
theorem TupAt.no {B : Hp} {a : Addr} {xs : List V} (h : TupAt B a xs) (n : hasN xs = false) : B a = some (.tup xs) := let ⟨o, _, h2⟩ := h; by rw [mkTup_no n] at h2; exact h2
theorem TupAt.of {B : Hp} {a : Addr} {xs : List V} (h : B a = some (.tup xs)) (n : hasN xs = false) : TupAt B a xs := ⟨{ cls := .type "tuple" }, ⟨rfl, rfl⟩, by rw [mkTup_no n]; exact h⟩
theorem hasN_keys : ∀ k : List Key, hasN (k.map kV) = false
  | [] => rfl
  | .inl _ :: r => hasN_keys r
  | .inr _ :: r => hasN_keys r
theorem hasN_ints : ∀ k : List Int, hasN (k.map V.int) = false
  | [] => rfl
  | _ :: r => hasN_ints r
theorem hasN_get : ∀ {xs : List V} {i : Nat} {v : V}, hasN xs = false → xs[i]? = some v → v ≠ .non
  | [], _, _, _, e => by simp at e
  | x :: r, 0, v, h, e => by
    simp at e
    subst e
    intro z
    subst z
    cases h
  | x :: r, i + 1, v, h, e => by
    have e' : r[i]? = some v := by simpa using e
    cases x <;> first | cases h | exact hasN_get (xs := r) h e'
theorem hasN_two {x y : V} (hx : x ≠ .non) (hy : y ≠ .non) : hasN [x, y] = false := by
  cases x <;> first | exact absurd rfl hx | (cases y <;> first | exact absurd rfl hy | rfl)
theorem TupAt.rd {B : Hp} {a : Addr} {xs : List V} (h : TupAt B a xs) : Rd B a (.tup xs) := by
  obtain ⟨o, _, h2⟩ := h
  cases n : hasN xs with
  | true => rw [mkTup_yes n] at h2; exact .inr ⟨o, h2⟩
  | false => rw [mkTup_no n] at h2; exact .inl h2
theorem TupAt.sq {K : PySem.W.Frag} {B H : Hp} {a : Addr} {xs : List V} (e : Same B H) (h : TupAt B a xs) : SqT K H a xs := .inl ((h.up e).rd)
theorem TupAt.new {B : Hp} {a : Addr} {xs : List V} {o : Obj} (h : TupObj o) : TupAt (upd B a (mkTup xs o)) a xs := ⟨o, h, upd_same⟩

mutual
/-- the value v stands for the datum d, by what stands in B (and is never changed again) -/
inductive Is (K : PySem.W.Frag) (B : Hp) : V → D → Prop
  | non : Is K B .non .none
  | bl (b : Bool) : Is K B (.bl b) (.bool b)
  | int (i : Int) : Is K B (.int i) (.int i)
  | str (x : Str) : Is K B (.str x) (.str x)
  | lst {a : Addr} {xs : List V} {ds : List D} : B a = some (.lst xs) → IsAll K B xs ds → Is K B (.ref a) (.list ds)
  | tup {a : Addr} {xs : List V} {ds : List D} : TupAt B a xs → IsAll K B xs ds → Is K B (.ref a) (.tuple ds)
  | dk {a : Addr} {kvs : List (Key × V)} {ds : List (D × D)} : Rd B a (.dK kvs) → IsK K B kvs ds → Is K B (.ref a) (.dict ds)
inductive IsAll (K : PySem.W.Frag) (B : Hp) : List V → List D → Prop
  | nil : IsAll K B [] []
  | cons {v : V} {vs : List V} {d : D} {ds : List D} : Is K B v d → IsAll K B vs ds → IsAll K B (v :: vs) (d :: ds)
inductive IsK (K : PySem.W.Frag) (B : Hp) : List (Key × V) → List (D × D) → Prop
  | nil : IsK K B [] []
  | cons {k : Key} {v : V} {kvs : List (Key × V)} {d : D} {ds : List (D × D)} : Is K B v d → IsK K B kvs ds → IsK K B ((k, v) :: kvs) ((keyD k, d) :: ds)
end

theorem seqT_up {K : PySem.W.Frag} {B B' : Hp} {a : Addr} {xs : List V} (e : Same B B') (h : SqT K B a xs) : SqT K B' a xs := by
  rcases h with (h | ⟨o, h⟩) | h
  · exact Or.inl (Or.inl (e _ _ h))
  · exact Or.inl (Or.inr ⟨o, e _ _ h⟩)
  · exact Or.inr h
theorem rd_up {B B' : Hp} {a : Addr} {u : HO} (e : Same B B') (h : Rd B a u) : Rd B' a u := h.elim (fun h => .inl (e _ _ h)) fun ⟨o, h⟩ => .inr ⟨o, e _ _ h⟩
mutual
theorem Is.up {K : PySem.W.Frag} {B B' : Hp} (e : Same B B') : ∀ {v : V} {d : D}, Is K B v d → Is K B' v d
  | _, _, .non => .non
  | _, _, .bl b => .bl b
  | _, _, .int i => .int i
  | _, _, .str x => .str x
  | _, _, .lst h t => .lst (e _ _ h) (IsAll.up e t)
  | _, _, .tup h t => .tup (h.up e) (IsAll.up e t)
  | _, _, .dk h t => .dk (rd_up e h) (IsK.up e t)
theorem IsAll.up {K : PySem.W.Frag} {B B' : Hp} (e : Same B B') : ∀ {vs : List V} {ds : List D}, IsAll K B vs ds → IsAll K B' vs ds
  | _, _, .nil => .nil
  | _, _, .cons h t => .cons (Is.up e h) (IsAll.up e t)
theorem IsK.up {K : PySem.W.Frag} {B B' : Hp} (e : Same B B') : ∀ {vs : List (Key × V)} {ds : List (D × D)}, IsK K B vs ds → IsK K B' vs ds
  | _, _, .nil => .nil
  | _, _, .cons h t => .cons (Is.up e h) (IsK.up e t)
end
section
variable {K : PySem.W.Frag} {B : Hp}
theorem IsAll.len {vs : List V} {ds : List D} (h : IsAll K B vs ds) : vs.length = ds.length := by
  induction ds generalizing vs with
  | nil => cases h; rfl
  | cons d ds ih => cases h with | cons h t => simp [ih t]
theorem IsAll.app {vs ws : List V} {ds es : List D} (h : IsAll K B vs ds) (g : IsAll K B ws es) : IsAll K B (vs ++ ws) (ds ++ es) := by
  induction ds generalizing vs with
  | nil => cases h; exact g
  | cons d ds ih => cases h with | cons h t => exact .cons h (ih t)
theorem IsAll.snoc {vs : List V} {v : V} {ds : List D} {d : D} (h : IsAll K B vs ds) (g : Is K B v d) : IsAll K B (vs ++ [v]) (ds ++ [d]) := h.app (.cons g .nil)
theorem IsAll.get {vs : List V} {ds : List D} (h : IsAll K B vs ds) {i : Nat} {d : D} (e : ds[i]? = some d) : ∃ v, vs[i]? = some v ∧ Is K B v d := by
  induction ds generalizing vs i with
  | nil => simp at e
  | cons x ds ih =>
    cases h with
    | cons h t =>
      cases i with
      | zero => simp at e; subst e; exact ⟨_, rfl, h⟩
      | succ i => simpa using ih t (by simpa using e)
theorem IsAll.get' {vs : List V} {ds : List D} (h : IsAll K B vs ds) {i : Nat} {v : V} (e : vs[i]? = some v) : ∃ d, ds[i]? = some d ∧ Is K B v d := by
  induction ds generalizing vs i with
  | nil => cases h; simp at e
  | cons x ds ih =>
    cases h with
    | cons h t =>
      cases i with
      | zero => simp at e; subst e; exact ⟨_, rfl, h⟩
      | succ i => simpa using ih t (by simpa using e)
theorem IsAll.set {vs : List V} {ds : List D} (h : IsAll K B vs ds) (i : Nat) {v : V} {d : D} (g : Is K B v d) : IsAll K B (vs.set i v) (ds.set i d) := by
  induction ds generalizing vs i with
  | nil => cases h; exact .nil
  | cons x ds ih =>
    cases h with
    | cons h t =>
      cases i with
      | zero => exact .cons g t
      | succ i => exact .cons h (ih t i)
theorem IsAll.take {vs : List V} {ds : List D} (h : IsAll K B vs ds) (n : Nat) : IsAll K B (vs.take n) (ds.take n) := by
  induction ds generalizing vs n with
  | nil => cases h; simp; exact .nil
  | cons x ds ih =>
    cases h with
    | cons h t =>
      cases n with
      | zero => exact .nil
      | succ i => exact .cons h (ih t i)
theorem IsAll.drop {vs : List V} {ds : List D} (h : IsAll K B vs ds) (n : Nat) : IsAll K B (vs.drop n) (ds.drop n) := by
  induction ds generalizing vs n with
  | nil => cases h; simp; exact .nil
  | cons x ds ih =>
    cases h with
    | cons h t =>
      cases n with
      | zero => exact .cons h t
      | succ i => exact ih t i
end

def hasNd : List D → Bool
  | [] => false
  | .none :: _ => true
  | _ :: r => hasNd r
theorem IsAll.hasN {K : PySem.W.Frag} {B : Hp} : ∀ {ds : List D} {vs : List V}, IsAll K B vs ds → GL.hasN vs = hasNd ds
  | [], _, .nil => rfl
  | d :: ds, _, .cons h t => by
    have ih := IsAll.hasN t
    cases h <;> first | rfl | exact ih

/-! ### a frame's names -/
/-- where the draws stand: the cells, the place, the mixed number, a great cell's rest -/
structure Row where
  ns : List Int
  c : Int
  k : Int
  r : Int
inductive Slot where
  /-- nothing is known -/
  | un
  /-- a datum that stands -/
  | val (d : D)
  /-- a list that this frame alone holds -/
  | ol (ds : List D)
  /-- the row of draws: the script's ints, three numbers -/
  | row (st : Row)
  /-- a dict that this frame alone holds: keys ints and texts; tuples of these -/
  | dk (kvs : List (Key × D))
  | dt (kvs : List (List Key × D))
  /-- a dict that this frame alone holds: keys tuples of ints, None and such tuples; such a dict that was lent -/
  | dn (kvs : List (NKey × D))
  | ln (kvs : List (NKey × D))
/-- what is lent to a def stays where it is -/
def isLent : Slot → Bool
  | .row _ => true
  | .ln _ => true
  | _ => false
abbrev LEnv := List Slot
def kvD (kvs : List (Key × D)) : List (D × D) := kvs.map fun p => (keyD p.1, p.2)

/-- values of a dict that is still open, pair by pair -/
inductive OpK (K : PySem.W.Frag) (B : Hp) {κ : Type} : List (κ × V) → List (κ × D) → Prop
  | nil : OpK K B [] []
  | cons {k : κ} {v : V} {d : D} {kvs : List (κ × V)} {ds : List (κ × D)} : Is K B v d → OpK K B kvs ds → OpK K B ((k, v) :: kvs) ((k, d) :: ds)
theorem OpK.up {K : PySem.W.Frag} {B B' : Hp} {κ : Type} (e : Same B B') {vs : List (κ × V)} {ds : List (κ × D)} (h : OpK K B vs ds) : OpK K B' vs ds := by
  induction h with
  | nil => exact .nil
  | cons h _ ih => exact .cons (h.up e) ih
theorem OpK.isK {K : PySem.W.Frag} {B : Hp} {vs : List (Key × V)} {ds : List (Key × D)} (h : OpK K B vs ds) : IsK K B vs (kvD ds) := by
  induction h with
  | nil => exact .nil
  | cons h _ ih => exact .cons h ih
theorem OpK.len {K : PySem.W.Frag} {B : Hp} {κ : Type} {vs : List (κ × V)} {ds : List (κ × D)} (h : OpK K B vs ds) : vs.length = ds.length := by
  induction h with
  | nil => rfl
  | cons h _ ih => simp [ih]

/-- the entries of a dict with nested keys stand for kvs -/
inductive OpN (K : PySem.W.Frag) (B : Hp) : List NEnt → List (NKey × D) → Prop
  | nil : OpN K B [] []
  | cons {k : NKey} {a : Addr} {v : V} {d : D} {ws : List NEnt} {kvs : List (NKey × D)} : okK k = true → Is K B (.ref a) k.data → Is K B v d → OpN K B ws kvs → OpN K B ((k, a, v) :: ws) ((k, d) :: kvs)
theorem OpN.up {K : PySem.W.Frag} {B B' : Hp} (e : Same B B') {ws : List NEnt} {kvs : List (NKey × D)} (h : OpN K B ws kvs) : OpN K B' ws kvs := by
  induction h with
  | nil => exact .nil
  | cons a b c _ ih => exact .cons a (b.up e) (c.up e) ih
theorem OpN.len {K : PySem.W.Frag} {B : Hp} {ws : List NEnt} {kvs : List (NKey × D)} (h : OpN K B ws kvs) : ws.length = kvs.length := by
  induction h with
  | nil => rfl
  | cons _ _ _ _ ih => simp [ih]

/-- what a slot says of its value -/
def SlotOk (K : PySem.W.Frag) (B H : Hp) : Slot → Option (Option V) → Prop
  | .un, _ => True
  | .val d, x => ∃ v, x = some (some v) ∧ Is K B v d
  | .ol ds, x => ∃ l vs, x = some (some (.ref l)) ∧ H l = some (.lst vs) ∧ IsAll K B vs ds
  | .row st, x => ∃ l a, x = some (some (.ref l)) ∧ H l = some (.lst [.ref a, .int st.c, .int st.k, .int st.r]) ∧ SqL K B a (st.ns.map V.int)
  | .dk kvs, x => ∃ l ws, x = some (some (.ref l)) ∧ H l = some (.dK ws) ∧ OpK K B ws kvs
  | .dt kvs, x => ∃ l ws, x = some (some (.ref l)) ∧ H l = some (.dT ws) ∧ OpK K B ws kvs
  | .dn kvs, x => ∃ l ws, x = some (some (.ref l)) ∧ H l = some (dnO l ws) ∧ OpN K B ws kvs
  | .ln kvs, x => ∃ l ws, x = some (some (.ref l)) ∧ H l = some (dnO l ws) ∧ OpN K B ws kvs
def owns : Slot → Bool
  | .un => false
  | .val _ => false
  | _ => true
theorem lent_owns {s : Slot} (h : isLent s = true) : owns s = true := by cases s <;> first | rfl | cases h
/-- a tuple (it never changes) -/
def isTupO : HO → Bool
  | .tup _ => true
  | _ => false
/-- the slot's object is its own: at a -/
def OwnA (s : Slot) (x : Option (Option V)) (a : Addr) : Prop := owns s = true ∧ x = some (some (.ref a))

/-- a frame's names in their heap: B never changes (B0 is its beginning), F are others' open objects, P the lent ones (slot and place) -/
structure EnvOk (K : PySem.W.Frag) (P : List (Nat × Addr)) (B0 F B H : Hp) (env : LEnv) (σ : L2.St) : Prop where
  b0 : Same B0 B
  bh : Same B H
  fr : ∀ a o, F a = some o → H a = some o ∧ (B a = none ∨ isTupO o = true)
  len : env.length = σ.length
  at_ : ∀ (i : Nat) (s : Slot), env[i]? = some s → SlotOk K B H s σ[i]?
  own : ∀ (i : Nat) (s : Slot) (a : Addr), env[i]? = some s → OwnA s σ[i]? a → B a = none ∧ F a = none
  sep : ∀ (i j : Nat) (s t : Slot) (a : Addr), i ≠ j → env[i]? = some s → env[j]? = some t → OwnA s σ[i]? a → ¬ OwnA t σ[j]? a
  pin : ∀ p ∈ P, σ[p.1]? = some (some (.ref p.2)) ∧ ∃ st, env[p.1]? = some st ∧ isLent st = true

section
variable {K : PySem.W.Frag} {P : List (Nat × Addr)} {B0 F B H : Hp} {env : LEnv} {σ : L2.St}

theorem SlotOk.up {B' H' : Hp} {s : Slot} {x : Option (Option V)} (h : SlotOk K B H s x) (eb : Same B B') (eh : ∀ a o, OwnA s x a → H a = some o → H' a = some o) : SlotOk K B' H' s x := by
  cases s with
  | un => trivial
  | val d => obtain ⟨v, e, i⟩ := h; exact ⟨v, e, i.up eb⟩
  | ol ds => obtain ⟨l, vs, e, q, i⟩ := h; exact ⟨l, vs, e, eh l _ ⟨rfl, e⟩ q, i.up eb⟩
  | row st => obtain ⟨l, vs, e, q, i⟩ := h; exact ⟨l, vs, e, eh l _ ⟨rfl, e⟩ q, eb.seq i⟩
  | dk ds => obtain ⟨l, vs, e, q, i⟩ := h; exact ⟨l, vs, e, eh l _ ⟨rfl, e⟩ q, i.up eb⟩
  | dt ds => obtain ⟨l, vs, e, q, i⟩ := h; exact ⟨l, vs, e, eh l _ ⟨rfl, e⟩ q, i.up eb⟩
  | dn ds => obtain ⟨l, vs, e, q, i⟩ := h; exact ⟨l, vs, e, eh l _ ⟨rfl, e⟩ q, i.up eb⟩
  | ln ds => obtain ⟨l, vs, e, q, i⟩ := h; exact ⟨l, vs, e, eh l _ ⟨rfl, e⟩ q, i.up eb⟩
theorem SlotOk.there {s : Slot} {x : Option (Option V)} {a : Addr} (h : SlotOk K B H s x) (o : OwnA s x a) : ∃ u, H a = some u ∧ isTupO u = false := by
  obtain ⟨o1, o2⟩ := o
  cases s with
  | un => cases o1
  | val d => cases o1
  | ol ds => obtain ⟨l, vs, e, q, i⟩ := h; rw [o2] at e; cases e; exact ⟨_, q, rfl⟩
  | row st => obtain ⟨l, vs, e, q, i⟩ := h; rw [o2] at e; cases e; exact ⟨_, q, rfl⟩
  | dk ds => obtain ⟨l, vs, e, q, i⟩ := h; rw [o2] at e; cases e; exact ⟨_, q, rfl⟩
  | dt ds => obtain ⟨l, vs, e, q, i⟩ := h; rw [o2] at e; cases e; exact ⟨_, q, rfl⟩
  | dn ds => obtain ⟨l, vs, e, q, i⟩ := h; rw [o2] at e; cases e; exact ⟨_, q, rfl⟩
  | ln ds => obtain ⟨l, vs, e, q, i⟩ := h; rw [o2] at e; cases e; exact ⟨_, q, rfl⟩

/-- B and H grow, others' and own open objects stay -/
structure Grow (B H B' H' : Hp) : Prop where
  b : Same B B'
  h : Same H H'
  bh : Same B' H'
  n : ∀ a o, H a = some o → B a = none → B' a = none ∨ isTupO o = true
theorem Grow.refl (e : Same B H) : Grow B H B H := ⟨Same.refl _, Same.refl _, e, fun _ _ _ h => .inl h⟩
theorem Grow.trans {B1 H1 B2 H2 : Hp} (g : Grow B H B1 H1) (k : Grow B1 H1 B2 H2) : Grow B H B2 H2 :=
  ⟨g.b.trans k.b, g.h.trans k.h, k.bh, fun a o e n => (g.n a o e n).elim (fun z => k.n a o (g.h a o e) z) .inr⟩
theorem EnvOk.grow {B' H' : Hp} (E : EnvOk K P B0 F B H env σ) (g : Grow B H B' H') : EnvOk K P B0 F B' H' env σ where
  b0 := E.b0.trans g.b
  bh := g.bh
  fr := fun a o h => ⟨g.h a o (E.fr a o h).1, (E.fr a o h).2.elim (fun z => g.n a o (E.fr a o h).1 z) .inr⟩
  len := E.len
  at_ := fun i s e => (E.at_ i s e).up g.b fun a o _ q => g.h a o q
  own := fun i s a e o => by
    obtain ⟨u, hu, nt⟩ := (E.at_ i s e).there o
    exact ⟨(g.n a u hu (E.own i s a e o).1).elim id (fun z => by rw [nt] at z; cases z), (E.own i s a e o).2⟩
  sep := E.sep
  pin := E.pin
/-- a new object that never changes -/
theorem Grow.new {p : Addr} {o : HO} (e : Same B H) (hp : H p = none) : Grow B H (upd B p o) (upd H p o) where
  b := fun a u h => by rw [upd_ne (fun z => by rw [z] at h; rw [e _ _ h] at hp; cases hp)]; exact h
  h := fun a u h => by rw [upd_ne (ne_of_none h hp)]; exact h
  bh := fun a u h => by
    by_cases q : a = p
    · subst q; rw [upd_same] at h ⊢; exact h
    · rw [upd_ne q] at h ⊢; exact e _ _ h
  n := fun a u h k => by rw [upd_ne (ne_of_none h hp)]; exact .inl k
/-- a new object that may still change -/
theorem Grow.open {p : Addr} {o : HO} (e : Same B H) (hp : H p = none) : Grow B H B (upd H p o) where
  b := Same.refl _
  h := fun a u h => by rw [upd_ne (ne_of_none h hp)]; exact h
  bh := fun a u h => by rw [upd_ne (ne_of_none (e _ _ h) hp)]; exact e _ _ h
  n := fun a u h k => .inl k
/-- a tuple that stands is taken for one that was known -/
theorem Grow.tup {p : Addr} {vs : List V} (e : Same B H) (hp : H p = some (.tup vs)) : Grow B H (upd B p (.tup vs)) H where
  b := fun a u h => by
    by_cases q : a = p
    · subst q; rw [e _ _ h] at hp; cases hp; rw [upd_same]
    · rw [upd_ne q]; exact h
  h := Same.refl _
  bh := fun a u h => by
    by_cases q : a = p
    · subst q; rw [upd_same] at h; cases h; exact hp
    · rw [upd_ne q] at h; exact e _ _ h
  n := fun a u h k => by
    by_cases q : a = p
    · subst q; rw [h] at hp; cases hp; exact .inr rfl
    · rw [upd_ne q]; exact .inl k
theorem bnone (e : Same B H) {p : Addr} (hp : H p = none) : B p = none := e.free hp

theorem set_get {α : Type} {l : List α} {i j : Nat} {x y : α} (h : (l.set i x)[j]? = some y) : (i = j ∧ y = x) ∨ (i ≠ j ∧ l[j]? = some y) := by
  by_cases e : i = j
  · subst e
    left
    refine ⟨rfl, ?_⟩
    rw [List.getElem?_set] at h
    simp only [if_true] at h
    split at h
    · exact (Option.some.inj h).symm
    · cases h
  · right
    rw [List.getElem?_set_ne e] at h
    exact ⟨e, h⟩

/-- a slot gets a value that owns nothing -/
theorem EnvOk.setV {i : Nat} {v : V} {d : D} (E : EnvOk K P B0 F B H env σ) (h : Is K B v d) (hi : ∀ st, env[i]? = some st → isLent st = false) : EnvOk K P B0 F B H (env.set i (.val d)) (σ.set i (some v)) where
  b0 := E.b0
  bh := E.bh
  fr := E.fr
  len := by rw [List.length_set, List.length_set]; exact E.len
  at_ := fun j s e => by
    rcases set_get e with ⟨rfl, rfl⟩ | ⟨n, e⟩
    · have hl : i < σ.length := by
        have := (List.getElem?_eq_some_iff.mp e).1
        rw [List.length_set, E.len] at this; exact this
      exact ⟨v, by rw [List.getElem?_set_self hl], h⟩
    · rw [List.getElem?_set_ne n]; exact E.at_ j s e
  own := fun j s a e o => by
    rcases set_get e with ⟨rfl, rfl⟩ | ⟨n, e⟩
    · cases o.1
    · rw [List.getElem?_set_ne n] at o; exact E.own j s a e o
  sep := fun j k s t a n e1 e2 o1 o2 => by
    rcases set_get e1 with ⟨rfl, rfl⟩ | ⟨n1, f1⟩
    · cases o1.1
    · rcases set_get e2 with ⟨rfl, rfl⟩ | ⟨n2, f2⟩
      · cases o2.1
      · rw [List.getElem?_set_ne n1] at o1; rw [List.getElem?_set_ne n2] at o2
        exact E.sep j k s t a n f1 f2 o1 o2
  pin := fun p hp => by
    obtain ⟨e, ds, q, ql⟩ := E.pin p hp
    have n : i ≠ p.1 := fun z => by have := hi ds (by rw [z]; exact q); rw [ql] at this; cases this
    exact ⟨by rw [List.getElem?_set_ne n]; exact e, ds, by rw [List.getElem?_set_ne n]; exact q, ql⟩
/-- a slot's knowledge is dropped -/
theorem EnvOk.setU {i : Nat} {x : Option V} (E : EnvOk K P B0 F B H env σ) (hi : ∀ st, env[i]? = some st → isLent st = false) : EnvOk K P B0 F B H (env.set i .un) (σ.set i x) where
  b0 := E.b0
  bh := E.bh
  fr := E.fr
  len := by rw [List.length_set, List.length_set]; exact E.len
  at_ := fun j s e => by
    rcases set_get e with ⟨rfl, rfl⟩ | ⟨n, e⟩
    · trivial
    · rw [List.getElem?_set_ne n]; exact E.at_ j s e
  own := fun j s a e o => by
    rcases set_get e with ⟨rfl, rfl⟩ | ⟨n, e⟩
    · cases o.1
    · rw [List.getElem?_set_ne n] at o; exact E.own j s a e o
  sep := fun j k s t a n e1 e2 o1 o2 => by
    rcases set_get e1 with ⟨rfl, rfl⟩ | ⟨n1, f1⟩
    · cases o1.1
    · rcases set_get e2 with ⟨rfl, rfl⟩ | ⟨n2, f2⟩
      · cases o2.1
      · rw [List.getElem?_set_ne n1] at o1; rw [List.getElem?_set_ne n2] at o2
        exact E.sep j k s t a n f1 f2 o1 o2
  pin := fun p hp => by
    obtain ⟨e, ds, q, ql⟩ := E.pin p hp
    have n : i ≠ p.1 := fun z => by have := hi ds (by rw [z]; exact q); rw [ql] at this; cases this
    exact ⟨by rw [List.getElem?_set_ne n]; exact e, ds, by rw [List.getElem?_set_ne n]; exact q, ql⟩
/-- a slot gets a new object of its own, at p, which nobody else holds -/
theorem EnvOk.setO {i : Nat} {p : Addr} {s : Slot} (E : EnvOk K P B0 F B H env σ) (ho : owns s = true) (hs : SlotOk K B H s (some (some (.ref p)))) (hb : B p = none) (hf : F p = none)
    (hn : ∀ (j : Nat) (t : Slot), env[j]? = some t → ¬ OwnA t σ[j]? p) (hi : ∀ st, env[i]? = some st → isLent st = false) : EnvOk K P B0 F B H (env.set i s) (σ.set i (some (.ref p))) where
  b0 := E.b0
  bh := E.bh
  fr := E.fr
  len := by rw [List.length_set, List.length_set]; exact E.len
  at_ := fun j t e => by
    rcases set_get e with ⟨rfl, rfl⟩ | ⟨n, e⟩
    · have hl : i < σ.length := by
        have := (List.getElem?_eq_some_iff.mp e).1
        rw [List.length_set, E.len] at this; exact this
      rw [List.getElem?_set_self hl]; exact hs
    · rw [List.getElem?_set_ne n]; exact E.at_ j t e
  own := fun j t a e o => by
    rcases set_get e with ⟨rfl, rfl⟩ | ⟨n, e⟩
    · obtain ⟨_, o⟩ := o
      rcases set_get o with ⟨_, q⟩ | ⟨n, _⟩
      · cases q; exact ⟨hb, hf⟩
      · exact absurd rfl n
    · rw [List.getElem?_set_ne n] at o; exact E.own j t a e o
  sep := fun j k t u a n e1 e2 o1 o2 => by
    rcases set_get e1 with ⟨rfl, rfl⟩ | ⟨n1, f1⟩
    · rcases set_get e2 with ⟨rfl, _⟩ | ⟨n2, f2⟩
      · exact n rfl
      · obtain ⟨_, o1⟩ := o1
        rcases set_get o1 with ⟨_, q⟩ | ⟨z, _⟩
        · cases q
          rw [List.getElem?_set_ne n2] at o2
          exact hn k u f2 o2
        · exact z rfl
    · rcases set_get e2 with ⟨rfl, rfl⟩ | ⟨n2, f2⟩
      · obtain ⟨_, o2⟩ := o2
        rcases set_get o2 with ⟨_, q⟩ | ⟨z, _⟩
        · cases q
          rw [List.getElem?_set_ne n1] at o1
          exact hn j t f1 o1
        · exact z rfl
      · rw [List.getElem?_set_ne n1] at o1; rw [List.getElem?_set_ne n2] at o2
        exact E.sep j k t u a n f1 f2 o1 o2
  pin := fun p hp => by
    obtain ⟨e, ds, q, ql⟩ := E.pin p hp
    have n : i ≠ p.1 := fun z => by have := hi ds (by rw [z]; exact q); rw [ql] at this; cases this
    exact ⟨by rw [List.getElem?_set_ne n]; exact e, ds, by rw [List.getElem?_set_ne n]; exact q, ql⟩
/-- the object of slot i changes (slot and object of the same sort) -/
theorem EnvOk.mut {i : Nat} {l : Addr} {s t : Slot} {o : HO} (E : EnvOk K P B0 F B H env σ) (he : env[i]? = some s) (hs : OwnA s σ[i]? l) (ho : owns t = true) (ht : SlotOk K B (upd H l o) t (some (some (.ref l))))
    (hio : isLent s = true → isLent t = true) : EnvOk K P B0 F B (upd H l o) (env.set i t) σ where
  b0 := E.b0
  bh := fun a u h => by rw [upd_ne (fun z => by rw [z, (E.own i s l he hs).1] at h; cases h)]; exact E.bh _ _ h
  fr := fun a u h => by
    have n : a ≠ l := fun z => by rw [z, (E.own i s l he hs).2] at h; cases h
    rw [upd_ne n]; exact E.fr a u h
  len := by rw [List.length_set]; exact E.len
  at_ := fun j u e => by
    rcases set_get e with ⟨rfl, rfl⟩ | ⟨n, e⟩
    · rw [hs.2]; exact ht
    · refine (E.at_ j u e).up (Same.refl _) fun a w oa q => ?_
      have n2 : a ≠ l := fun z => E.sep i j s u l n he e hs (by rw [← z]; exact oa)
      rw [upd_ne n2]; exact q
  own := fun j u a e oa => by
    rcases set_get e with ⟨rfl, rfl⟩ | ⟨n, e⟩
    · have q := oa.2
      rw [hs.2] at q; cases q
      exact E.own i s l he hs
    · exact E.own j u a e oa
  sep := fun j k u w a n e1 e2 o1 o2 => by
    rcases set_get e1 with ⟨rfl, rfl⟩ | ⟨n1, f1⟩
    · rcases set_get e2 with ⟨rfl, _⟩ | ⟨n2, f2⟩
      · exact n rfl
      · have q := o1.2
        rw [hs.2] at q; cases q
        exact E.sep i k s w l n he f2 hs o2
    · rcases set_get e2 with ⟨rfl, rfl⟩ | ⟨n2, f2⟩
      · have q := o2.2
        rw [hs.2] at q; cases q
        exact E.sep j i u s l n f1 he o1 hs
      · exact E.sep j k u w a n f1 f2 o1 o2
  pin := fun p hp => by
    obtain ⟨e, ds, q, ql⟩ := E.pin p hp
    by_cases n : i = p.1
    · subst n
      rw [he] at q; cases q
      exact ⟨e, t, by rw [List.getElem?_set_self (List.getElem?_eq_some_iff.mp he).1], hio ql⟩
    · exact ⟨e, ds, by rw [List.getElem?_set_ne n]; exact q, ql⟩
/-- the object of slot i will not change any more -/
theorem EnvOk.freeze {i : Nat} {l : Addr} {s : Slot} {o : HO} {d : D} (E : EnvOk K P B0 F B H env σ) (he : env[i]? = some s) (hs : OwnA s σ[i]? l) (hl : H l = some o) (hd : Is K (upd B l o) (.ref l) d) (hio : isLent s = false) :
    EnvOk K P B0 F (upd B l o) H (env.set i (.val d)) σ ∧ Same B (upd B l o) := by
  have hb : B l = none := (E.own i s l he hs).1
  have up : Same B (upd B l o) := fun a u h => by rw [upd_ne (ne_of_none h hb)]; exact h
  refine ⟨⟨E.b0.trans up, fun a u h => ?_, fun a u h => ?_, by rw [List.length_set]; exact E.len, fun j u e => ?_, fun j u a e oa => ?_, fun j k u w a n e1 e2 o1 o2 => ?_, fun p hp => ?_⟩, up⟩
  · by_cases q : a = l
    · subst q; rw [upd_same] at h; rw [hl]; exact h
    · rw [upd_ne q] at h; exact E.bh _ _ h
  · have n : a ≠ l := fun z => by rw [z, (E.own i s l he hs).2] at h; cases h
    rw [upd_ne n]; exact E.fr a u h
  · rcases set_get e with ⟨rfl, rfl⟩ | ⟨n, e⟩
    · exact ⟨_, hs.2, hd⟩
    · exact (E.at_ j u e).up up fun a w oa q => q
  · rcases set_get e with ⟨rfl, rfl⟩ | ⟨n, e⟩
    · cases oa.1
    · have n2 : a ≠ l := fun z => E.sep i j s u l n he e hs (by rw [← z]; exact oa)
      rw [upd_ne n2]; exact E.own j u a e oa
  · rcases set_get e1 with ⟨rfl, rfl⟩ | ⟨n1, f1⟩
    · cases o1.1
    · rcases set_get e2 with ⟨rfl, rfl⟩ | ⟨n2, f2⟩
      · cases o2.1
      · exact E.sep j k u w a n f1 f2 o1 o2
  · obtain ⟨e, ds, q, ql⟩ := E.pin p hp
    have n : i ≠ p.1 := fun z => by
      subst z
      rw [he] at q; cases q; rw [hio] at ql; cases ql
    exact ⟨e, ds, by rw [List.getElem?_set_ne n]; exact q, ql⟩
end
end GL
/-! Expressions over data trees. -/
namespace GL
open PySem L2

abbrev Sem := LEnv → Option (D × LEnv)
abbrev SemB := LEnv → Option (Bool × LEnv)
abbrev SemL := LEnv → Option (List D × LEnv)

/-- what can be read at this moment: its items stand -/
inductive Pk (K : PySem.W.Frag) (B H : Hp) : V → D → Prop
  | fz {v : V} {d : D} : Is K B v d → Pk K B H v d
  | ol {l : Addr} {vs : List V} {ds : List D} : H l = some (.lst vs) → IsAll K B vs ds → Pk K B H (.ref l) (.list ds)
  | dk {l : Addr} {ws : List (Key × V)} {kvs : List (Key × D)} : H l = some (.dK ws) → OpK K B ws kvs → Pk K B H (.ref l) (.dict (kvD kvs))
section
variable {K : PySem.W.Frag} {B H : Hp} {v : V} {d : D}
theorem Pk.list {ds : List D} (e : Same B H) (h : Pk K B H v (.list ds)) : ∃ l vs, v = .ref l ∧ H l = some (.lst vs) ∧ IsAll K B vs ds := by
  cases h with
  | fz h => cases h with | lst h t => exact ⟨_, _, rfl, e _ _ h, t⟩
  | ol h t => exact ⟨_, _, rfl, h, t⟩
theorem Pk.tup {ds : List D} (e : Same B H) (h : Pk K B H v (.tuple ds)) : ∃ l vs, v = .ref l ∧ TupAt B l vs ∧ IsAll K B vs ds := by
  cases h with
  | fz h => cases h with | tup h t => exact ⟨_, _, rfl, h, t⟩
theorem Pk.int {i : Int} (h : Pk K B H v (.int i)) : v = .int i := by cases h with | fz h => cases h; rfl
theorem Pk.bl {i : Bool} (h : Pk K B H v (.bool i)) : v = .bl i := by cases h with | fz h => cases h; rfl
theorem Pk.str {i : Str} (h : Pk K B H v (.str i)) : v = .str i := by cases h with | fz h => cases h; rfl
theorem Pk.non (h : Pk K B H v .none) : v = .non := by cases h with | fz h => cases h; rfl
theorem Is.int' {i : Int} (h : Is K B v (.int i)) : v = .int i := by cases h; rfl
theorem Is.bl' {i : Bool} (h : Is K B v (.bool i)) : v = .bl i := by cases h; rfl
theorem Is.str' {i : Str} (h : Is K B v (.str i)) : v = .str i := by cases h; rfl
theorem Is.non' (h : Is K B v .none) : v = .non := by cases h; rfl
mutual
theorem Is.dp (e : Same B H) : ∀ {d : D} {v : V}, d.plain = true → Is K B v d → Dp K H v d
  | .none, _, _, .non => .non
  | .bool _, _, _, .bl b => .bl b
  | .int _, _, _, .int i => .int i
  | .str _, _, _, .str x => .str x
  | .list ds, _, p, .lst h t => .lst (SqL.of (e _ _ h)) (IsAll.dp e (by simpa [PyData.plain] using p) t)
  | .tuple ds, _, p, .tup h t =>   .tup (h.sq e) (IsAll.dp e (by simpa [PyData.plain] using p) t)
  | .dict _, _, p, _ => by cases p
theorem IsAll.dp (e : Same B H) : ∀ {ds : List D} {vs : List V}, PyData.plainAll ds = true → IsAll K B vs ds → DpAll K H vs ds
  | [], _, _, .nil => .nil
  | d :: ds, _, p, .cons h t => by
    have p' : d.plain = true ∧ PyData.plainAll ds = true := by simpa [PyData.plainAll] using p
    exact .cons (Is.dp e p'.1 h) (IsAll.dp e p'.2 t)
end
theorem Pk.dp (e : Same B H) (p : d.plain = true) (h : Pk K B H v d) : Dp K H v d := by
  cases h with
  | fz h => exact h.dp e p
  | ol h t => exact .lst (SqL.of h) (t.dp e (by simpa [PyData.plain] using p))
  | dk h t => cases p
end

/-! ### judgements -/
def Ge (K : PySem.W.Frag) (te : TE) (f : Sem) : Prop := ∀ (P : List (Nat × Addr)) (B0 F B H : Hp) (env : LEnv) (σ : L2.St) (d : D) (env' : LEnv), EnvOk K P B0 F B H env σ → f env = some (d, env') →
  ∀ Q : VK, (∀ v B' H', EnvOk K P B0 F B' H' env' σ → Same B B' → Is K B' v d → Q v H') → te σ H Q
def Gp (K : PySem.W.Frag) (te : TE) (f : Sem) : Prop := ∀ (P : List (Nat × Addr)) (B0 F B H : Hp) (env : LEnv) (σ : L2.St) (d : D) (env' : LEnv), EnvOk K P B0 F B H env σ → f env = some (d, env') →
  ∀ Q : VK, (∀ v B' H', EnvOk K P B0 F B' H' env' σ → Same B B' → Pk K B' H' v d → Q v H') → te σ H Q
def Gt (K : PySem.W.Frag) (tt : TT) (f : SemB) : Prop := ∀ (P : List (Nat × Addr)) (B0 F B H : Hp) (env : LEnv) (σ : L2.St) (b : Bool) (env' : LEnv), EnvOk K P B0 F B H env σ → f env = some (b, env') →
  ∀ Q : Bool → Hp → Prop, (∀ B' H', EnvOk K P B0 F B' H' env' σ → Same B B' → Q b H') → tt σ H Q
def Ga (K : PySem.W.Frag) (ta : TA) (f : SemL) : Prop := ∀ (P : List (Nat × Addr)) (B0 F B H : Hp) (env : LEnv) (σ : L2.St) (ds : List D) (env' : LEnv), EnvOk K P B0 F B H env σ → f env = some (ds, env') →
  ∀ Q : List V → Hp → Prop, (∀ vs B' H', EnvOk K P B0 F B' H' env' σ → Same B B' → IsAll K B' vs ds → Q vs H') → ta σ H Q
structure GE (X : Cx) (e : Expr) (te : TE) (f : Sem) : Prop where
  pe : PE X e te
  ge : Ge X.K te f
structure GP (X : Cx) (e : Expr) (te : TE) (f : Sem) : Prop where
  pe : PE X e te
  ge : Gp X.K te f
structure GT (X : Cx) (e : Expr) (tt : TT) (f : SemB) : Prop where
  pt : PT X e tt
  gt : Gt X.K tt f
structure GA (X : Cx) (es : List Expr) (ta : TA) (f : SemL) : Prop where
  pa : PA X es ta
  ga : Ga X.K ta f

/-! ### meanings -/
def fC (d : D) : Sem := fun env => some (d, env)
def fVar (i : Nat) : Sem := fun env => match env[i]? with
  | some (.val d) => some (d, env)
  | some (.ol ds) => some (.list ds, env.set i (.val (.list ds)))
  | some (.dk kvs) => some (.dict (kvD kvs), env.set i (.val (.dict (kvD kvs))))
  | _ => none
def peekD : Slot → Option D
  | .val d => some d
  | .ol ds => some (.list ds)
  | .dk kvs => some (.dict (kvD kvs))
  | _ => none
def fPeek (i : Nat) : Sem := fun env => (env[i]?.bind peekD).map fun d => (d, env)
def fOp1 (g : D → Option D) (a : Sem) : Sem := fun env => (a env).bind fun p => (g p.1).map fun z => (z, p.2)
def fOp2 (g : D → D → Option D) (a b : Sem) : Sem := fun env => (a env).bind fun p => (b p.2).bind fun q => (g p.1 q.1).map fun z => (z, q.2)
/-- the left one is a name, looked at behind the right one -/
def fOp2N (g : D → D → Option D) (i : Nat) (b : Sem) : Sem := fun env => (env[i]?.bind peekD).bind fun _ => (b env).bind fun q => (q.2[i]?.bind peekD).bind fun x => (g x q.1).map fun z => (z, q.2)
def fTest (a : Sem) : SemB := fun env => (a env).bind fun p => match p.1 with
  | .bool b => some (b, p.2)
  | _ => none
def fNil : SemL := fun env => some ([], env)
def fCons (a : Sem) (r : SemL) : SemL := fun env => (a env).bind fun p => (r p.2).map fun q => (p.1 :: q.1, q.2)
def fTup (r : SemL) : Sem := fun env => (r env).bind fun q => if q.1.length ≤ 1000000 then some (.tuple q.1, q.2) else none
def fLst (r : SemL) : Sem := fun env => (r env).bind fun q => if q.1.length ≤ 1000000 then some (.list q.1, q.2) else none
def fAnd (a b : SemB) : SemB := fun env => (a env).bind fun p => if p.1 = true then b p.2 else some (false, p.2)
def fOr (a b : SemB) : SemB := fun env => (a env).bind fun p => if p.1 = true then some (true, p.2) else b p.2
def fNot (a : SemB) : SemB := fun env => (a env).map fun p => (!p.1, p.2)
def fAndV (a b : Sem) : Sem := fun env => (a env).bind fun p => match p.1 with
  | .bool true => (b p.2).bind fun q => some q
  | .bool false => some (.bool false, p.2)
  | _ => none
def fOrV (a b : Sem) : Sem := fun env => (a env).bind fun p => match p.1 with
  | .bool true => some (.bool true, p.2)
  | .bool false => b p.2
  | _ => none
def fIf (t : SemB) (a b : Sem) : Sem := fun env => (t env).bind fun p => if p.1 = true then a p.2 else b p.2

theorem sz_ok {n : Nat} (h : n ≤ 1000000) : n ≤ sizeLine := Nat.le_trans h (by rw [sizeLine_eq]; decide)

section
variable {X : Cx}
theorem GE.gp {e : Expr} {te : TE} {f : Sem} (h : GE X e te f) : GP X e te f := ⟨h.pe, fun P B0 F B H env σ d env' E hf Q q => h.ge P B0 F B H env σ d env' E hf Q fun v B' H' E' s i => q v B' H' E' s (.fz i)⟩
theorem ge_c {e : Expr} {v : V} {d : D} (h : PE X e (tC v)) (hd : ∀ K B, Is K B v d) : GE X e (tC v) (fC d) := ⟨h, fun P B0 F B H env σ d' env' E hf Q q => by
  cases hf
  exact q v B H E (Same.refl _) (hd _ _)⟩
theorem ge_int {i : Int} {j pos} : GE X (.Constant (.int i) j pos) (tC (.int i)) (fC (.int i)) := ge_c pe_int fun _ _ => .int i
theorem ge_bl {i : Bool} {j pos} : GE X (.Constant (.bool i) j pos) (tC (.bl i)) (fC (.bool i)) := ge_c pe_bl fun _ _ => .bl i
theorem ge_non {j pos} : GE X (.Constant .none j pos) (tC .non) (fC .none) := ge_c pe_non fun _ _ => .non
theorem ge_str {x : Str} {j pos} : GE X (.Constant (.str x) j pos) (tC (.str x)) (fC (.str x)) := ge_c pe_str fun _ _ => .str x
theorem ge_name {e : Expr} {i : Nat} (h : PE X e (tVar i)) : GE X e (tVar i) (fVar i) := ⟨h, fun P B0 F B H env σ d env' E hf Q q => by
  unfold fVar at hf
  split at hf
  · rename_i d' he
    cases hf
    obtain ⟨v, e, iv⟩ := E.at_ i _ he
    exact ⟨v, e, q v B H E (Same.refl _) iv⟩
  · rename_i ds he
    cases hf
    obtain ⟨l, vs, e, hl, iv⟩ := E.at_ i _ he
    have up : Same B (upd B l (.lst vs)) := (E.freeze (d := .list ds) he ⟨rfl, e⟩ hl (.lst upd_same (iv.up fun a u h => by rw [upd_ne (ne_of_none h (E.own i _ l he ⟨rfl, e⟩).1)]; exact h)) rfl).2
    have E' := (E.freeze (d := .list ds) he ⟨rfl, e⟩ hl (.lst upd_same (iv.up up)) rfl).1
    exact ⟨_, e, q _ _ H E' up (.lst upd_same (iv.up up))⟩
  · rename_i kvs he
    cases hf
    obtain ⟨l, ws, e, hl, iv⟩ := E.at_ i _ he
    have up : Same B (upd B l (.dK ws)) := fun a u h => by rw [upd_ne (ne_of_none h (E.own i _ l he ⟨rfl, e⟩).1)]; exact h
    have E' := (E.freeze (d := .dict (kvD kvs)) he ⟨rfl, e⟩ hl (.dk (.inl upd_same) (iv.up up).isK) rfl).1
    exact ⟨_, e, q _ _ H E' up (.dk (.inl upd_same) (iv.up up).isK)⟩
  · cases hf⟩
theorem peek_ok {K : PySem.W.Frag} {P : List (Nat × Addr)} {B0 F B H : Hp} {env : LEnv} {σ : L2.St} {i : Nat} {d : D} (E : EnvOk K P B0 F B H env σ) (h : env[i]?.bind peekD = some d) : ∃ v, σ[i]? = some (some v) ∧ Pk K B H v d := by
  cases he : env[i]? with
  | none => rw [he] at h; cases h
  | some s =>
    rw [he] at h
    have q := E.at_ i s he
    cases s with
    | un => cases h
    | row st => cases h
    | val d' =>
      cases h
      obtain ⟨v, e, iv⟩ := q
      exact ⟨v, e, .fz iv⟩
    | ol ds =>
      cases h
      obtain ⟨l, vs, e, hl, iv⟩ := q
      exact ⟨_, e, .ol hl iv⟩
    | dk kvs =>
      cases h
      obtain ⟨l, vs, e, hl, iv⟩ := q
      exact ⟨_, e, .dk hl iv⟩
    | dt kvs => cases h
    | dn kvs => cases h
    | ln kvs => cases h
theorem gp_name {e : Expr} {i : Nat} (h : PE X e (tVar i)) : GP X e (tVar i) (fPeek i) := ⟨h, fun P B0 F B H env σ d env' E hf Q q => by
  unfold fPeek at hf
  obtain ⟨d', h1, h2⟩ := Option.map_eq_some_iff.mp hf
  cases h2
  obtain ⟨v, e, p⟩ := peek_ok E h1
  exact ⟨v, e, q v B H E (Same.refl _) p⟩⟩

/-! ### operations by values -/
/-- r does on data what g says -/
def OpS (K : PySem.W.Frag) (r : R2) (g : D → D → Option D) : Prop := ∀ (B H : Hp) (v u : V) (x y z : D), Same B H → Pk K B H v x → Pk K B H u y → g x y = some z →
  ∀ Q : VK, (∀ w B' H', Grow B H B' H' → Is K B' w z → Q w H') → r v u H Q
structure OpG (X : Cx) (f : Value → Value → PySem.Sem Value) (r : R2) (g : D → D → Option D) : Prop where
  op : OpR X f r
  sem : OpS X.K r g
theorem OpR.or' {f : Value → Value → PySem.Sem Value} {r r' : R2} (h : OpR X f r) (h' : OpR X f r') : OpR X f (fun x y H Q => r x y H Q ∨ r' x y H Q) := by
  intro pns st sg hp x y v u Q inv rx ry q
  rcases q with q | q
  · exact h pns st sg hp x y v u Q inv rx ry q
  · exact h' pns st sg hp x y v u Q inv rx ry q
theorem Ge.op2 {K : PySem.W.Frag} {r : R2} {g : D → D → Option D} {ta tb : TE} {fa fb : Sem} (h : OpS K r g) (ha : Ge K ta fa) (hb : Gp K tb fb) : Ge K (tOp r ta tb) (fOp2 g fa fb) := fun P B0 F B H env σ d env' E hf Q q => by
  unfold fOp2 at hf
  obtain ⟨⟨x, e1⟩, h1, h2⟩ := Option.bind_eq_some_iff.mp hf
  obtain ⟨⟨y, e2⟩, h3, h4⟩ := Option.bind_eq_some_iff.mp h2
  obtain ⟨z, h5, h6⟩ := Option.map_eq_some_iff.mp h4
  cases h6
  refine ha P B0 F B H env σ x e1 E h1 _ fun v B1 H1 E1 s1 i1 => ?_
  refine hb P B0 F B1 H1 e1 σ y e2 E1 h3 _ fun u B2 H2 E2 s2 i2 => ?_
  refine h B2 H2 v u x y _ E2.bh (.fz (i1.up s2)) i2 h5 _ fun w B3 H3 g3 i3 => ?_
  exact q w B3 H3 (E2.grow g3) ((s1.trans s2).trans g3.b) i3
theorem Ge.op2N {K : PySem.W.Frag} {r : R2} {g : D → D → Option D} {i : Nat} {tb : TE} {fb : Sem} (h : OpS K r g) (hb : Gp K tb fb) : Ge K (tOp r (tVar i) tb) (fOp2N g i fb) := fun P B0 F B H env σ d env' E hf Q q => by
  unfold fOp2N at hf
  obtain ⟨x0, h0, hf⟩ := Option.bind_eq_some_iff.mp hf
  obtain ⟨⟨y, e2⟩, h3, h4⟩ := Option.bind_eq_some_iff.mp hf
  obtain ⟨x, h1, h4⟩ := Option.bind_eq_some_iff.mp h4
  obtain ⟨z, h5, h6⟩ := Option.map_eq_some_iff.mp h4
  cases h6
  obtain ⟨v, hv, _⟩ := peek_ok E h0
  refine ⟨v, hv, ?_⟩
  refine hb P B0 F B H env σ y _ E h3 _ fun u B2 H2 E2 s2 i2 => ?_
  obtain ⟨v', hv', p⟩ := peek_ok E2 h1
  rw [hv] at hv'
  cases hv'
  refine h B2 H2 v u x y _ E2.bh p i2 h5 _ fun w B3 H3 g3 i3 => ?_
  exact q w B3 H3 (E2.grow g3) (s2.trans g3.b) i3
theorem ge_bin {op : Operator} {r : R2} {g : D → D → Option D} {a b : Expr} {pos : Pos} {ta tb : TE} {fa fb : Sem} (h : OpG X (binaryOp op) r g) (ha : GE X a ta fa) (hb : GP X b tb fb) : GE X (.BinOp a op b pos) (tOp r ta tb) (fOp2 g fa fb) :=
  ⟨pe_op h.op ha.pe hb.pe, Ge.op2 h.sem ha.ge hb.ge⟩
theorem ge_cmp {op : CmpOp} {r : R2} {g : D → D → Option D} {a b : Expr} {pos : Pos} {ta tb : TE} {fa fb : Sem} (h : OpG X (compareOp op) r g) (ha : GE X a ta fa) (hb : GP X b tb fb) (hm : behindInMarks op b = false) :
    GE X (.Compare a [op] [b] pos) (tOp r ta tb) (fOp2 g fa fb) := ⟨pe_cmpR h.op ha.pe hb.pe hm, Ge.op2 h.sem ha.ge hb.ge⟩
theorem Gt.test {K : PySem.W.Frag} {te : TE} {f : Sem} (h : Ge K te f) : Gt K (tTest te) (fTest f) := fun P B0 F B H env σ b env' E hf Q q => by
  unfold fTest at hf
  obtain ⟨⟨x, e1⟩, h1, h2⟩ := Option.bind_eq_some_iff.mp hf
  cases x with
  | bool c =>
    cases h2
    refine h P B0 F B H env σ _ _ E h1 _ fun v B' H' E' s' i => ?_
    cases i
    exact ⟨b, rfl, q B' H' E' s'⟩
  | _ => cases h2
theorem gt_cmp {op : CmpOp} {r : R2} {g : D → D → Option D} {a b : Expr} {pos : Pos} {ta tb : TE} {fa fb : Sem} (h : OpG X (compareOp op) r g) (ha : GE X a ta fa) (hb : GP X b tb fb) (hm : behindInMarks op b = false) :
    GT X (.Compare a [op] [b] pos) (tTest (tOp r ta tb)) (fTest (fOp2 g fa fb)) := ⟨pt_cmpR h.op ha.pe hb.pe hm, Gt.test (Ge.op2 h.sem ha.ge hb.ge)⟩
/-- a name, a call, ..: a bool as a test -/
theorem gt_val {e : Expr} {te : TE} {f : Sem} (h : GE X e te f) (he : ∀ whole, isTrue e X.env whole = (do let v ← whole; standAt e.pos; holding [v] (truthy v)) := by intro _; rfl) : GT X e (tB te) (fTest f) :=
  ⟨pt_val h.pe he, Gt.test h.ge⟩
theorem gt_not {a : Expr} {pos : Pos} {t : TT} {f : SemB} (h : GT X a t f) : GT X (.UnaryOp .Not a pos) (tNot t) (fNot f) := ⟨pt_not h.pt, fun P B0 F B H env σ b env' E hf Q q => by
  obtain ⟨⟨c, e1⟩, h1, h2⟩ := Option.map_eq_some_iff.mp hf
  cases h2
  exact h.gt P B0 F B H env σ c e1 E h1 _ fun B' H' E' s' => q B' H' E' s'⟩
theorem Gt.and {K : PySem.W.Frag} {t u : TT} {f g : SemB} (h : Gt K t f) (h' : Gt K u g) : Gt K (tAnd t u) (fAnd f g) := fun P B0 F B H env σ b env' E hf Q q => by
  obtain ⟨⟨c, e1⟩, h1, h2⟩ := Option.bind_eq_some_iff.mp hf
  refine h P B0 F B H env σ c e1 E h1 _ fun B' H' E' s' => ?_
  cases c with
  | true =>
    refine iteT (h' P B0 F B' H' e1 σ b env' E' h2 _ fun B2 H2 E2 s2 => q B2 H2 E2 (s'.trans s2))
  | false =>
    cases h2
    exact iteF (q B' H' E' s')
theorem Gt.or {K : PySem.W.Frag} {t u : TT} {f g : SemB} (h : Gt K t f) (h' : Gt K u g) : Gt K (tOr t u) (fOr f g) := fun P B0 F B H env σ b env' E hf Q q => by
  obtain ⟨⟨c, e1⟩, h1, h2⟩ := Option.bind_eq_some_iff.mp hf
  refine h P B0 F B H env σ c e1 E h1 _ fun B' H' E' s' => ?_
  cases c with
  | true =>
    cases h2
    exact iteT (q B' H' E' s')
  | false =>
    refine iteF (h' P B0 F B' H' e1 σ b env' E' h2 _ fun B2 H2 E2 s2 => q B2 H2 E2 (s'.trans s2))
structure GW (X : Cx) (e : Expr) (tt : TT) (f : SemB) : Prop where
  pw : PW X e tt
  gt : Gt X.K tt f
theorem GW.gt' {e : Expr} {tt : TT} {f : SemB} (h : GW X e tt f) : GT X e tt f := ⟨h.pw.pt, h.gt⟩
theorem gw_and1 {a : Expr} {pos : Pos} {t : TT} {f : SemB} (h : GT X a t f) : GW X (.BoolOp .And [a] pos) t f := ⟨pw_and1 h.pt, h.gt⟩
theorem gw_or1 {a : Expr} {pos : Pos} {t : TT} {f : SemB} (h : GT X a t f) : GW X (.BoolOp .Or [a] pos) t f := ⟨pw_or1 h.pt, h.gt⟩
theorem gw_and {a b : Expr} {rest : List Expr} {pos : Pos} {t u : TT} {f g : SemB} (h : GT X a t f) (h' : GW X (.BoolOp .And (b :: rest) pos) u g) : GW X (.BoolOp .And (a :: b :: rest) pos) (tAnd t u) (fAnd f g) := ⟨pw_and h.pt h'.pw, Gt.and h.gt h'.gt⟩
theorem gw_or {a b : Expr} {rest : List Expr} {pos : Pos} {t u : TT} {f g : SemB} (h : GT X a t f) (h' : GW X (.BoolOp .Or (b :: rest) pos) u g) : GW X (.BoolOp .Or (a :: b :: rest) pos) (tOr t u) (fOr f g) := ⟨pw_or h.pt h'.pw, Gt.or h.gt h'.gt⟩
/-! ### and, or, not as values -/
theorem ge_one {op : BoolOp} {a : Expr} {pos : Pos} {t : TE} {f : Sem} (h : GE X a t f) : GE X (.BoolOp op [a] pos) t f := ⟨pe_one h.pe, h.ge⟩
theorem ge_and {a b : Expr} {rest : List Expr} {pos : Pos} {ta tb : TE} {f g : Sem} (h : GE X a ta f) (h' : GE X (.BoolOp .And (b :: rest) pos) tb g) : GE X (.BoolOp .And (a :: b :: rest) pos) (tAndV ta tb) (fAndV f g) :=
  ⟨pe_and h.pe h'.pe, fun P B0 F B H env σ d env' E hf Q q => by
    obtain ⟨⟨x, e1⟩, h1, h2⟩ := Option.bind_eq_some_iff.mp hf
    refine h.ge P B0 F B H env σ x e1 E h1 _ fun v B' H' E' s' i => ?_
    cases x with
    | bool c =>
      cases i
      refine ⟨c, rfl, ?_⟩
      cases c with
      | true =>
        obtain ⟨p, h3, h4⟩ := Option.bind_eq_some_iff.mp h2
        cases h4
        exact iteT (h'.ge P B0 F B' H' e1 σ d env' E' h3 _ fun v2 B2 H2 E2 s2 i2 => q v2 B2 H2 E2 (s'.trans s2) i2)
      | false =>
        cases h2
        exact iteF (q _ B' H' E' s' (.bl false))
    | _ => cases h2⟩
theorem ge_or {a b : Expr} {rest : List Expr} {pos : Pos} {ta tb : TE} {f g : Sem} (h : GE X a ta f) (h' : GE X (.BoolOp .Or (b :: rest) pos) tb g) : GE X (.BoolOp .Or (a :: b :: rest) pos) (tOrV ta tb) (fOrV f g) :=
  ⟨pe_or h.pe h'.pe, fun P B0 F B H env σ d env' E hf Q q => by
    obtain ⟨⟨x, e1⟩, h1, h2⟩ := Option.bind_eq_some_iff.mp hf
    refine h.ge P B0 F B H env σ x e1 E h1 _ fun v B' H' E' s' i => ?_
    cases x with
    | bool c =>
      cases i
      refine ⟨c, rfl, ?_⟩
      cases c with
      | true =>
        cases h2
        exact iteT (q _ B' H' E' s' (.bl true))
      | false => exact iteF (h'.ge P B0 F B' H' e1 σ d env' E' h2 _ fun v2 B2 H2 E2 s2 i2 => q v2 B2 H2 E2 (s'.trans s2) i2)
    | _ => cases h2⟩
def dNot : D → Option D
  | .bool b => some (.bool (!b))
  | _ => none
theorem ge_not {a : Expr} {pos : Pos} {ta : TE} {f : Sem} (h : GE X a ta f) : GE X (.UnaryOp .Not a pos) (tNotV ta) (fOp1 dNot f) := ⟨pe_not h.pe, fun P B0 F B H env σ d env' E hf Q q => by
  obtain ⟨⟨x, e1⟩, h1, h2⟩ := Option.bind_eq_some_iff.mp hf
  obtain ⟨z, h3, h4⟩ := Option.map_eq_some_iff.mp h2
  cases h4
  refine h.ge P B0 F B H env σ x _ E h1 _ fun v B' H' E' s' i => ?_
  cases x with
  | bool c =>
    cases i
    cases h3
    exact ⟨c, rfl, q _ B' H' E' s' (.bl _)⟩
  | _ => cases h3⟩
theorem ge_if {c a b : Expr} {pos : Pos} {t : TT} {ta tb : TE} {f : SemB} {g k : Sem} (h : GT X c t f) (ha : GE X a ta g) (hb : GE X b tb k) : GE X (.IfExp c a b pos) (tIf t ta tb) (fIf f g k) := ⟨pe_ifExp h.pt ha.pe hb.pe, fun P B0 F B H env σ d env' E hf Q q => by
  obtain ⟨⟨x, e1⟩, h1, h2⟩ := Option.bind_eq_some_iff.mp hf
  refine h.gt P B0 F B H env σ x e1 E h1 _ fun B' H' E' s' => ?_
  cases x with
  | true => exact iteT (ha.ge P B0 F B' H' e1 σ d env' E' h2 _ fun v2 B2 H2 E2 s2 i2 => q v2 B2 H2 E2 (s'.trans s2) i2)
  | false => exact iteF (hb.ge P B0 F B' H' e1 σ d env' E' h2 _ fun v2 B2 H2 E2 s2 i2 => q v2 B2 H2 E2 (s'.trans s2) i2)⟩
/-! ### arguments, displays -/
theorem ga_nil : GA X [] tNil fNil := ⟨pa_nil, fun P B0 F B H env σ ds env' E hf Q q => by
  cases hf
  exact q [] B H E (Same.refl _) .nil⟩
theorem ga_cons {e : Expr} {es : List Expr} {te : TE} {t : TA} {f : Sem} {r : SemL} (h : GE X e te f) (h' : GA X es t r) (hs : starEach (e :: es) X.env = (false, eval e X.env) :: starEach es X.env := by rfl) : GA X (e :: es) (tCons te t) (fCons f r) :=
  ⟨pa_cons h.pe h'.pa hs, fun P B0 F B H env σ ds env' E hf Q q => by
    obtain ⟨⟨x, e1⟩, h1, h2⟩ := Option.bind_eq_some_iff.mp hf
    obtain ⟨⟨y, e2⟩, h3, h4⟩ := Option.map_eq_some_iff.mp h2
    cases h4
    refine h.ge P B0 F B H env σ x e1 E h1 _ fun v B1 H1 E1 s1 i1 => ?_
    exact h'.ga P B0 F B1 H1 e1 σ y _ E1 h3 _ fun vs B2 H2 E2 s2 i2 => q _ B2 H2 E2 (s1.trans s2) (.cons (i1.up s2) i2)⟩
theorem ge_tup {es : List Expr} {x1} {pos : Pos} {t : TA} {r : SemL} (h : GA X es t r) : GE X (.Tuple es x1 pos) (tTupN t) (fTup r) := ⟨pe_tupN h.pa, fun P B0 F B H env σ d env' E hf Q q => by
  obtain ⟨⟨ds, e1⟩, h1, h2⟩ := Option.bind_eq_some_iff.mp hf
  dsimp only at h2
  split at h2
  · rename_i hz
    cases h2
    refine h.ga P B0 F B H env σ ds _ E h1 _ fun vs B1 H1 E1 s1 i1 => ⟨by rw [i1.len]; exact sz_ok hz, fun p o hp ho => ?_⟩
    have g := Grow.new (o := mkTup vs o) E1.bh hp
    exact q _ _ _ (E1.grow g) (s1.trans g.b) (.tup (.new ho) (i1.up g.b))
  · cases h2⟩
theorem ge_lst {es : List Expr} {pos : Pos} {t : TA} {r : SemL} (h : GA X es t r) : GE X (.List es pos) (tLst t) (fLst r) := ⟨by exact pe_lst h.pa, fun P B0 F B H env σ d env' E hf Q q => by
  obtain ⟨⟨ds, e1⟩, h1, h2⟩ := Option.bind_eq_some_iff.mp hf
  dsimp only at h2
  split at h2
  · rename_i hz
    cases h2
    refine h.ga P B0 F B H env σ ds _ E h1 _ fun vs B1 H1 E1 s1 i1 => ⟨by rw [i1.len]; exact sz_ok hz, fun p hp => ?_⟩
    have g := Grow.new (o := .lst vs) E1.bh hp
    exact q _ _ _ (E1.grow g) (s1.trans g.b) (.lst upd_same (i1.up g.b))
  · cases h2⟩
end
end GL
/-! Operators and built-in calls over data trees. -/
namespace GL
open PySem L2

/-! ### numbers -/
def dInt2 (g : Int → Int → D) : D → D → Option D
  | .int i, .int j => some (g i j)
  | _, _ => none
def dInt2C (C : Int → Int → Bool) (g : Int → Int → D) : D → D → Option D
  | .int i, .int j => if C i j = true then some (g i j) else none
  | _, _ => none
theorem opS_int {K : PySem.W.Frag} {g : Int → Int → V} {gd : Int → Int → D} (h : ∀ i j B, Is K B (g i j) (gd i j)) : OpS K (rI0 g) (dInt2 gd) := by
  intro B H v u x y z e hv hu hg Q q
  cases x with
  | int i =>
    cases y with
    | int j =>
      cases hg
      exact ⟨i, j, hv.int, hu.int, q _ B H (.refl e) (h i j B)⟩
    | _ => cases hg
  | _ => cases hg
theorem opS_intC {K : PySem.W.Frag} {C : Int → Int → Prop} {Cb : Int → Int → Bool} {g : Int → Int → V} {gd : Int → Int → D} (hC : ∀ i j, Cb i j = true → C i j) (h : ∀ i j B, Is K B (g i j) (gd i j)) : OpS K (rI C g) (dInt2C Cb gd) := by
  intro B H v u x y z e hv hu hg Q q
  cases x with
  | int i =>
    cases y with
    | int j =>
      dsimp only [dInt2C] at hg
      split at hg
      · rename_i hc
        cases hg
        exact ⟨i, j, hv.int, hu.int, hC i j hc, q _ B H (.refl e) (h i j B)⟩
      · cases hg
    | _ => cases hg
  | _ => cases hg
def dSub : D → D → Option D := dInt2 fun i j => .int (i - j)
def dMul : D → D → Option D := dInt2C (fun i j => decide (-(2 ^ 64) < i ∧ i < 2 ^ 64) || decide (-(2 ^ 64) < j ∧ j < 2 ^ 64)) fun i j => .int (i * j)
def dMod : D → D → Option D := dInt2C (fun _ j => decide (0 < j)) fun i j => .int (i % j)
def dFdiv : D → D → Option D := dInt2C (fun _ j => decide (0 < j ∧ j < 1073741824)) fun i j => .int (i / j)
def dPow : D → D → Option D := dInt2C (fun i j => decide (0 ≤ j ∧ j ≤ 1000000 ∧ i.natAbs < 2 ^ 64)) fun i j => .int (i ^ j.toNat)
def dLt : D → D → Option D := dInt2 fun i j => .bool (decide (i < j))
def dLe : D → D → Option D := dInt2 fun i j => .bool (decide (i ≤ j))
def dGt : D → D → Option D := dInt2 fun i j => .bool (decide (j < i))
section
variable {X : Cx}
theorem og_sub : OpG X (binaryOp .Sub) (rI0 fun i j => .int (i - j)) dSub := ⟨op_sub, opS_int fun i j B => .int _⟩
theorem og_mul : OpG X (binaryOp .Mult) (rI CMul fun i j => .int (i * j)) dMul := ⟨op_mul, opS_intC (fun i j h => by
  rcases Bool.or_eq_true_iff.mp h with h | h
  · exact .inl (of_decide_eq_true h)
  · exact .inr (of_decide_eq_true h)) fun i j B => .int _⟩
theorem og_mod : OpG X (binaryOp .Mod) (rI (fun _ j => 0 < j) fun i j => .int (i % j)) dMod := ⟨op_mod, opS_intC (fun i j h => of_decide_eq_true h) fun i j B => .int _⟩
theorem og_fdiv : OpG X (binaryOp .FloorDiv) (rI CDiv fun i j => .int (i / j)) dFdiv := ⟨op_fdiv, opS_intC (fun i j h => (of_decide_eq_true h : 0 < j ∧ j < 1073741824)) fun i j B => .int _⟩
theorem og_pow : OpG X (binaryOp .Pow) (rI CPow fun i j => .int (i ^ j.toNat)) dPow := ⟨op_pow, opS_intC (fun i j h => (of_decide_eq_true h : 0 ≤ j ∧ j ≤ 1000000 ∧ i.natAbs < 2 ^ 64)) fun i j B => .int _⟩
theorem og_lt : OpG X (compareOp .Lt) (rI0 fun i j => .bl (decide (i < j))) dLt := ⟨op_lt, opS_int fun i j B => .bl _⟩
theorem og_le : OpG X (compareOp .LtE) (rI0 fun i j => .bl (decide (i ≤ j))) dLe := ⟨op_le, opS_int fun i j B => .bl _⟩
theorem og_gt : OpG X (compareOp .Gt) (rI0 fun i j => .bl (decide (j < i))) dGt := ⟨op_gt, opS_int fun i j B => .bl _⟩
end

/-! ### + -/
def dAdd : D → D → Option D
  | .int i, .int j => some (.int (i + j))
  | .list a, .list b => if a.length + b.length ≤ 1000000 then some (.list (a ++ b)) else none
  | .tuple a, .tuple b => if a.length + b.length ≤ 1000000 then some (.tuple (a ++ b)) else none
  | _, _ => none
def rAddG (K : PySem.W.Frag) : R2 := fun x y H Q => rI0 (fun i j => .int (i + j)) x y H Q ∨ rCat x y H Q ∨ rCatN K x y H Q
section
variable {X : Cx}
theorem og_add : OpG X (binaryOp .Add) (rAddG X.K) dAdd := ⟨OpR.or' op_add (OpR.or' op_cat op_catN), by
  intro B H v u x y z e hv hu hg Q q
  cases x with
  | int i =>
    cases y with
    | int j =>
      cases hg
      exact .inl ⟨i, j, hv.int, hu.int, q _ B H (.refl e) (.int _)⟩
    | _ => cases hg
  | list a =>
    cases y with
    | list b =>
      dsimp only [dAdd] at hg
      split at hg
      · rename_i hz
        cases hg
        obtain ⟨l, vs, rfl, hl, il⟩ := hv.list e
        obtain ⟨m, ws, rfl, hm, im⟩ := hu.list e
        refine .inr (.inl ⟨l, m, vs, ws, rfl, rfl, hl, hm, by rw [il.len, im.len]; exact sz_ok hz, fun p hp => ?_⟩)
        have g := Grow.new (o := .lst (vs ++ ws)) e hp
        exact q _ _ _ g (.lst upd_same ((il.app im).up g.b))
      · cases hg
    | _ => cases hg
  | tuple a =>
    cases y with
    | tuple b =>
      dsimp only [dAdd] at hg
      split at hg
      · rename_i hz
        cases hg
        obtain ⟨l, vs, rfl, hl, il⟩ := hv.tup e
        obtain ⟨m, ws, rfl, hm, im⟩ := hu.tup e
        refine .inr (.inr ⟨l, m, vs, ws, rfl, rfl, hl.sq e, hm.sq e, by rw [il.len, im.len]; exact sz_ok hz, fun h0 => ?_, fun _ h0 => ?_, fun _ _ p o hp ho => ?_⟩)
        · subst h0
          cases a with
          | nil => exact q _ B H (.refl e) (.tup hm im)
          | cons _ _ => cases il
        · subst h0
          cases b with
          | nil => rw [List.append_nil] at *; exact q _ B H (.refl e) (.tup hl il)
          | cons _ _ => cases im
        · have g := Grow.new (o := mkTup (vs ++ ws) o) e hp
          exact q _ _ _ g (.tup (.new ho) ((il.app im).up g.b))
      · cases hg
    | _ => cases hg
  | _ => cases hg⟩
end

/-! ### ==, != of data without dicts -/
def okD (d : D) : Bool := d.plain && decide (d.depth ≤ 50)
def dEq (x y : D) : Option D := if okD x = true ∧ okD y = true then some (.bool (PyData.eqv x y)) else none
def dNe (x y : D) : Option D := if okD x = true ∧ okD y = true then some (.bool (!PyData.eqv x y)) else none
def rEqP (K : PySem.W.Frag) : R2 := fun x y H Q => ∃ d e, Dp K H x d ∧ Dp K H y e ∧ okD d = true ∧ okD e = true ∧ Q (.bl (PyData.eqv d e)) H
def rNeP (K : PySem.W.Frag) : R2 := fun x y H Q => ∃ d e, Dp K H x d ∧ Dp K H y e ∧ okD d = true ∧ okD e = true ∧ Q (.bl (!PyData.eqv d e)) H
theorem ok_plain {d : D} (h : okD d = true) : d.plain = true := (Bool.and_eq_true_iff.mp h).1
theorem ok_deep {d : D} (h : okD d = true) : d.depth ≤ 50 := of_decide_eq_true (Bool.and_eq_true_iff.mp h).2
section
variable {X : Cx}
theorem op_eqP (hu : X.A.units + 100 < cLine) : OpR X (compareOp .Eq) (rEqP X.K) := by
  intro pns st sg hp x y v u Q inv rx ry h
  obtain ⟨d, e, hd, he, pd, pe, q⟩ := h
  obtain ⟨as, r1⟩ := Dp.reads inv d x v hd rx
  obtain ⟨bs, r2⟩ := Dp.reads inv e y u he ry
  have := ok_deep pd
  exact SeqAt.eq_plain r1 r2 (ok_plain pd) (ok_plain pe) (by omega) ⟨.bl _, hp, inv, rfl, q⟩
theorem op_neP (hu : X.A.units + 100 < cLine) : OpR X (compareOp .NotEq) (rNeP X.K) := by
  intro pns st sg hp x y v u Q inv rx ry h
  obtain ⟨d, e, hd, he, pd, pe, q⟩ := h
  obtain ⟨as, r1⟩ := Dp.reads inv d x v hd rx
  obtain ⟨bs, r2⟩ := Dp.reads inv e y u he ry
  have := ok_deep pd
  exact SeqAt.ne_plain r1 r2 (ok_plain pd) (ok_plain pe) (by omega) ⟨.bl _, hp, inv, rfl, q⟩
theorem og_eq (hu : X.A.units + 100 < cLine) : OpG X (compareOp .Eq) (rEqP X.K) dEq := ⟨op_eqP hu, by
  intro B H v u x y z e hv hu' hg Q q
  unfold dEq at hg
  split at hg
  · rename_i hz
    cases hg
    exact ⟨x, y, hv.dp e (ok_plain hz.1), hu'.dp e (ok_plain hz.2), hz.1, hz.2, q _ B H (.refl e) (.bl _)⟩
  · cases hg⟩
theorem og_ne (hu : X.A.units + 100 < cLine) : OpG X (compareOp .NotEq) (rNeP X.K) dNe := ⟨op_neP hu, by
  intro B H v u x y z e hv hu' hg Q q
  unfold dNe at hg
  split at hg
  · rename_i hz
    cases hg
    exact ⟨x, y, hv.dp e (ok_plain hz.1), hu'.dp e (ok_plain hz.2), hz.1, hz.2, q _ B H (.refl e) (.bl _)⟩
  · cases hg⟩
end

/-! ### >= of ints and of tuples that are alike -/
def dGe : D → D → Option D
  | .int i, .int j => some (.bool (decide (j ≤ i)))
  | .tuple a, .tuple b => if okD (.tuple a) = true ∧ okD (.tuple b) = true ∧ PySem.W.alike (.tuple a) (.tuple b) = true then some (.bool (!PySem.W.dataLt (.tuple a) (.tuple b))) else none
  | _, _ => none
def rGeP (K : PySem.W.Frag) : R2 := fun x y H Q => ∃ d e, Dp K H x d ∧ Dp K H y e ∧ okD d = true ∧ PySem.W.alike d e = true ∧ d ≠ .none ∧ Q (.bl (!PySem.W.dataLt d e)) H
section
variable {X : Cx}
theorem op_geP (hu : X.A.units + 100 < cLine) : OpR X (compareOp .GtE) (rGeP X.K) := by
  intro pns st sg hp x y v u Q inv rx ry h
  obtain ⟨d, e, hd, he, pd, al, nn, q⟩ := h
  obtain ⟨as, r1⟩ := Dp.reads inv d x v hd rx
  obtain ⟨bs, r2⟩ := Dp.reads inv e y u he ry
  have := ok_deep pd
  exact PySem.W.ge_data r1 r2 al nn (by omega) ⟨.bl _, hp, inv, rfl, q⟩
theorem og_ge (hu : X.A.units + 100 < cLine) : OpG X (compareOp .GtE) (fun x y H Q => rI0 (fun i j => .bl (decide (j ≤ i))) x y H Q ∨ rGeP X.K x y H Q) dGe := ⟨OpR.or' op_ge (op_geP hu), by
  intro B H v u x y z e hv hu' hg Q q
  cases x with
  | int i =>
    cases y with
    | int j =>
      cases hg
      exact .inl ⟨i, j, hv.int, hu'.int, q _ B H (.refl e) (.bl _)⟩
    | _ => cases hg
  | tuple a =>
    cases y with
    | tuple b =>
      dsimp only [dGe] at hg
      split at hg
      · rename_i hz
        cases hg
        exact .inr ⟨_, _, hv.dp e (ok_plain hz.1), hu'.dp e (ok_plain hz.2.1), hz.1, hz.2.2, (by intro k; cases k), q _ B H (.refl e) (.bl _)⟩
      · cases hg
    | _ => cases hg
  | _ => cases hg⟩
end

/-! ### dicts as data -/
def keyOf : D → Option Key
  | .int i => some (.inl i)
  | .str x => some (.inr x)
  | _ => none
theorem keyOf_some {d : D} {k : Key} (h : keyOf d = some k) : d = keyD k := by
  cases d with
  | int i => cases h; rfl
  | str i => cases h; rfl
  | _ => cases h
theorem keyOf_keyD (k : Key) : keyOf (keyD k) = some k := by cases k <;> rfl
theorem keyD_inj {a b : Key} (h : keyD a = keyD b) : a = b := by
  have := congrArg keyOf h
  rw [keyOf_keyD, keyOf_keyD] at this
  exact Option.some.inj this
/-- what a dict of data holds at a key -/
def lookD : List (D × D) → Key → Option D
  | [], _ => none
  | (x, d) :: r, k => if keyOf x = some k then some d else lookD r k
theorem IsK.look {K : PySem.W.Frag} {B : Hp} {kvs : List (Key × V)} {ds : List (D × D)} (h : IsK K B kvs ds) (k : Key) : (lookD ds k = none ∧ valV kvs k = none) ∨ ∃ v d, lookD ds k = some d ∧ valV kvs k = some v ∧ Is K B v d := by
  induction ds generalizing kvs with
  | nil => cases h; exact .inl ⟨rfl, rfl⟩
  | cons p ds ih =>
    cases h with
    | @cons a v _ d _ h t =>
      unfold lookD
      rw [keyOf_keyD]
      by_cases q : a = k
      · subst q
        exact .inr ⟨v, d, by rw [if_pos rfl], valV_pos rfl, h⟩
      · rw [if_neg (fun z => q (Option.some.inj z)), valV_neg (p := (a, v)) q]
        exact ih t
theorem Pk.dict {K : PySem.W.Frag} {B H : Hp} {v : V} {ds : List (D × D)} (e : Same B H) (h : Pk K B H v (.dict ds)) : ∃ l ws, v = .ref l ∧ Rd H l (.dK ws) ∧ IsK K B ws ds := by
  cases h with
  | fz h => cases h with | dk h t => exact ⟨_, _, rfl, rd_up e h, t⟩
  | dk h t => exact ⟨_, _, rfl, .inl h, t.isK⟩
theorem keyV {K : PySem.W.Frag} {B H : Hp} {v : V} {d : D} {k : Key} (h : Pk K B H v d) (hk : keyOf d = some k) : v = kV k := by
  have e := keyOf_some hk
  subst e
  cases k with
  | inl i => exact h.int
  | inr x => exact h.str
theorem IsK.len {K : PySem.W.Frag} {B : Hp} {kvs : List (Key × V)} {ds : List (D × D)} (h : IsK K B kvs ds) : kvs.length = ds.length := by
  induction ds generalizing kvs with
  | nil => cases h; rfl
  | cons p ds ih => cases h with | cons h t => simp [ih t]

/-! ### in, not in -/
def dInB : D → D → Option Bool
  | x, .list ds => if okD x = true ∧ okD (.list ds) = true then some (ds.any fun y => PyData.eqv y x) else none
  | x, .tuple ds => if okD x = true ∧ okD (.tuple ds) = true then some (ds.any fun y => PyData.eqv y x) else none
  | x, .dict ds => (keyOf x).map fun k => (lookD ds k).isSome
  | _, _ => none
def dIn (x y : D) : Option D := (dInB x y).map .bool
def dNotIn (x y : D) : Option D := (dInB x y).map fun b => .bool (!b)
def rInP (K : PySem.W.Frag) (neg : Bool) : R2 := fun x y H Q => (∃ d ds, Dp K H x d ∧ Dp K H y (.list ds) ∧ okD d = true ∧ okD (.list ds) = true ∧ Q (.bl (if neg then !(ds.any fun y => PyData.eqv y d) else ds.any fun y => PyData.eqv y d)) H) ∨
  (∃ d ds, Dp K H x d ∧ Dp K H y (.tuple ds) ∧ okD d = true ∧ okD (.tuple ds) = true ∧ Q (.bl (if neg then !(ds.any fun y => PyData.eqv y d) else ds.any fun y => PyData.eqv y d)) H) ∨
  ∃ a o, y = .ref a ∧ DGet H a x o ∧ Q (.bl (if neg then !o.isSome else o.isSome)) H
section
variable {X : Cx}
theorem op_inP (hu : X.A.units + 100 < cLine) : OpR X (compareOp .In) (rInP X.K false) := by
  intro pns st sg hp x y v u Q inv rx ry h
  rcases h with ⟨d, ds, hd, he, pd, pe, q⟩ | ⟨d, ds, hd, he, pd, pe, q⟩ | ⟨a, o, rfl, g, q⟩
  · obtain ⟨as, r1⟩ := Dp.reads inv d x v hd rx
    obtain ⟨bs, r2⟩ := Dp.reads inv _ y u he ry
    have := ok_deep pd
    exact SeqAt.in_list_data r2 r1 (by simpa [PyData.plain] using ok_plain pe) (ok_plain pd) (by omega) ⟨.bl _, hp, inv, rfl, q⟩
  · obtain ⟨as, r1⟩ := Dp.reads inv d x v hd rx
    obtain ⟨bs, r2⟩ := Dp.reads inv _ y u he ry
    have := ok_deep pd
    exact SeqAt.in_tuple_data r2 r1 (by simpa [PyData.plain] using ok_plain pe) (ok_plain pd) (by omega) ⟨.bl _, hp, inv, rfl, q⟩
  · cases ry
    exact d_in (by omega) inv g rx fun s3 I3 => ⟨.bl o.isSome, hp, I3, rfl, q⟩
theorem op_notInP (hu : X.A.units + 100 < cLine) : OpR X (compareOp .NotIn) (rInP X.K true) := by
  intro pns st sg hp x y v u Q inv rx ry h
  rcases h with ⟨d, ds, hd, he, pd, pe, q⟩ | ⟨d, ds, hd, he, pd, pe, q⟩ | ⟨a, o, rfl, g, q⟩
  · obtain ⟨as, r1⟩ := Dp.reads inv d x v hd rx
    obtain ⟨bs, r2⟩ := Dp.reads inv _ y u he ry
    have := ok_deep pd
    exact SeqAt.notIn_list_data r2 r1 (by simpa [PyData.plain] using ok_plain pe) (ok_plain pd) (by omega) ⟨.bl _, hp, inv, rfl, q⟩
  · obtain ⟨as, r1⟩ := Dp.reads inv d x v hd rx
    obtain ⟨bs, r2⟩ := Dp.reads inv _ y u he ry
    have := ok_deep pd
    exact SeqAt.notIn_tuple_data r2 r1 (by simpa [PyData.plain] using ok_plain pe) (ok_plain pd) (by omega) ⟨.bl _, hp, inv, rfl, q⟩
  · cases ry
    exact d_notIn (by omega) inv g rx fun s3 I3 => ⟨.bl (!o.isSome), hp, I3, rfl, q⟩
theorem opS_in {K : PySem.W.Frag} (neg : Bool) : OpS K (rInP K neg) (fun x y => (dInB x y).map fun b => .bool (if neg then !b else b)) := by
  intro B H v u x y z e hv hu hg Q q
  obtain ⟨b, h1, h2⟩ := Option.map_eq_some_iff.mp hg
  subst h2
  cases y with
  | list ds =>
    unfold dInB at h1
    split at h1 <;> rename_i hz
    all_goals first
      | (cases hz; done)
      | skip
    all_goals (try (injection hz with hz))
    all_goals (try subst hz)
    all_goals (split at h1)
    all_goals first
      | (cases h1; done)
      | (rename_i hz2; cases h1; exact .inl ⟨_, _, hv.dp e (ok_plain hz2.1), hu.dp e (ok_plain hz2.2), hz2.1, hz2.2, q _ B H (.refl e) (.bl _)⟩)
  | tuple ds =>
    unfold dInB at h1
    split at h1 <;> rename_i hz
    all_goals first
      | (cases hz; done)
      | skip
    all_goals (try (injection hz with hz))
    all_goals (try subst hz)
    all_goals (split at h1)
    all_goals first
      | (cases h1; done)
      | (rename_i hz2; cases h1; exact .inr (.inl ⟨_, _, hv.dp e (ok_plain hz2.1), hu.dp e (ok_plain hz2.2), hz2.1, hz2.2, q _ B H (.refl e) (.bl _)⟩))
  | dict ds =>
    obtain ⟨k, h3, h4⟩ := Option.map_eq_some_iff.mp (show (keyOf x).map (fun k => (lookD ds k).isSome) = some b from by cases x <;> exact h1)
    obtain ⟨l, ws, rfl, hl, il⟩ := hu.dict e
    have hv' := keyV hv h3
    subst hv'
    refine .inr (.inr ⟨l, valV ws k, rfl, .inl ⟨ws, k, hl, rfl, rfl⟩, ?_⟩)
    have eb : (valV ws k).isSome = b := by
      rcases il.look k with ⟨a1, a2⟩ | ⟨v', d', a1, a2, _⟩
      · rw [a2, ← h4, a1] <;> rfl
      · rw [a2, ← h4, a1] <;> rfl
    rw [eb]
    exact q _ B H (.refl e) (.bl _)
  | _ => cases x <;> cases h1
theorem og_in (hu : X.A.units + 100 < cLine) : OpG X (compareOp .In) (rInP X.K false) dIn := ⟨op_inP hu, opS_in false⟩
theorem og_notIn (hu : X.A.units + 100 < cLine) : OpG X (compareOp .NotIn) (rInP X.K true) dNotIn := ⟨op_notInP hu, opS_in true⟩
end

/-! ### is None -/
def isNoneD : D → Bool
  | .none => true
  | _ => false
def dIsN : D → D → Option D
  | x, .none => some (.bool (isNoneD x))
  | _, _ => none
def dNotN : D → D → Option D
  | x, .none => some (.bool (!isNoneD x))
  | _, _ => none
theorem Pk.noneD {K : PySem.W.Frag} {B H : Hp} {v : V} {d : D} (h : Pk K B H v d) : decide (v = .non) = isNoneD d := by
  cases h with
  | fz h => cases h <;> rfl
  | ol h t => rfl
  | dk h t => rfl
section
variable {X : Cx}
theorem og_isN : OpG X (compareOp .Is) (fun x y H Q => y = .non ∧ Q (.bl (decide (x = .non))) H) dIsN := ⟨op_isN, by
  intro B H v u x y z e hv hu hg Q q
  cases y with
  | none =>
    have hg' : some (PyData.bool (isNoneD x)) = some z := by cases x <;> exact hg
    cases hg'
    exact ⟨hu.non, by rw [hv.noneD]; exact q _ B H (.refl e) (.bl _)⟩
  | _ => cases x <;> cases hg⟩
theorem og_notN : OpG X (compareOp .IsNot) (fun x y H Q => y = .non ∧ Q (.bl (!decide (x = .non))) H) dNotN := ⟨op_notN, by
  intro B H v u x y z e hv hu hg Q q
  cases y with
  | none =>
    have hg' : some (PyData.bool (!isNoneD x)) = some z := by cases x <;> exact hg
    cases hg'
    exact ⟨hu.non, by rw [hv.noneD]; exact q _ B H (.refl e) (.bl _)⟩
  | _ => cases x <;> cases hg⟩
end

/-! ### subscripts -/
def atD : List D → Int → Option D := fun ds i => atI ds i
def dIx : D → D → Option D
  | .list ds, .int i => atI ds i
  | .tuple ds, .int i => atI ds i
  | .dict ds, k => (keyOf k).bind fun k => lookD ds k
  | _, _ => none
theorem ixN_lt {n : Nat} {i : Int} {j : Nat} (h : ixN n i = some j) : j < n := by
  unfold ixN at h
  split at h
  · split at h
    · cases h; omega
    · cases h
  · split at h
    · cases h; omega
    · cases h
theorem IsAll.atI {K : PySem.W.Frag} {B : Hp} {vs : List V} {ds : List D} {i : Int} {d : D} (h : IsAll K B vs ds) (e : L2.atI ds i = some d) : ∃ v, L2.atI vs i = some v ∧ Is K B v d := by
  unfold L2.atI at e ⊢
  rw [h.len]
  obtain ⟨j, h1, h2⟩ := Option.bind_eq_some_iff.mp e
  obtain ⟨v, h3, h4⟩ := h.get h2
  exact ⟨v, by rw [h1]; exact h3, h4⟩
def rIxD : R2 := fun x y H Q => ∃ a v, x = .ref a ∧ DGet H a y (some v) ∧ Q v H
section
variable {X : Cx}
theorem dget_type {pins : List (Addr × Obj)} {σ : L2.St} {H : Hp} {s : Shared} {a : Addr} {y : V} {o : Option V} (I : Inv X pins σ H s) (g : DGet H a y o) : s.TypeIs (.ref a) "dict" := by
  rcases g with ⟨kvs, k, e, _, _⟩ | ⟨kvs, k, b, e, _, _, _⟩
  · obtain ⟨_, _, vs, _, o, _, _, e1, e2, _⟩ := dk_rd I.hok e
    exact ⟨o, e1, e2.1⟩
  · obtain ⟨_, _, xs, _, o, _, _, e1, e2, _⟩ := dt_rd I.hok e
    exact ⟨o, e1, e2.1⟩
theorem ix_dict (hu : X.A.units + 100 < cLine) : IxR X rIxD := by
  intro value slice pns st sg hp x y v u Q inv rx ry h hs
  obtain ⟨a, w, rfl, g, q⟩ := h
  cases rx
  exact PyProof.Rows.tail_any (dget_type inv g) PySem.F.slot_dict_getitem.lookup (d_getItem (by omega) inv g ry fun w' s3 I3 rw' => ⟨w, hp, I3, rw', q⟩) hs
def rIxG (K : PySem.W.Frag) : R2 := fun x y H Q => rIxL K x y H Q ∨ rIxT K x y H Q ∨ rIxD x y H Q
theorem ix_any (hu : X.A.units + 100 < cLine) : IxR X (rIxG X.K) := ix_list.or (ix_tup.or (ix_dict hu))
theorem opS_ix {K : PySem.W.Frag} : OpS K (rIxG K) dIx := by
  intro B H v u x y z e hv hu hg Q q
  cases x with
  | list ds =>
    cases y with
    | int i =>
      obtain ⟨l, vs, rfl, hl, il⟩ := hv.list e
      obtain ⟨w, h1, h2⟩ := il.atI hg
      exact .inl ⟨l, vs, i, w, rfl, hu.int, SqL.of hl, h1, q w B H (.refl e) h2⟩
    | _ => cases hg
  | tuple ds =>
    cases y with
    | int i =>
      obtain ⟨l, vs, rfl, hl, il⟩ := hv.tup e
      obtain ⟨w, h1, h2⟩ := il.atI hg
      exact .inr (.inl ⟨l, vs, i, w, rfl, hu.int, hl.sq e, h1, q w B H (.refl e) h2⟩)
    | _ => cases hg
  | dict ds =>
    obtain ⟨k, h1, h2⟩ := Option.bind_eq_some_iff.mp (show (keyOf y).bind (fun k => lookD ds k) = some z from by cases y <;> exact hg)
    obtain ⟨l, ws, rfl, hl, il⟩ := hv.dict e
    have hk := keyV hu h1
    subst hk
    rcases il.look k with ⟨a1, a2⟩ | ⟨w, d', a1, a2, a3⟩
    · rw [a1] at h2; cases h2
    · rw [a1] at h2
      cases h2
      exact .inr (.inr ⟨l, w, rfl, by rw [← a2]; exact .inl ⟨ws, _, hl, rfl, rfl⟩, q w B H (.refl e) a3⟩)
  | _ => cases hg
theorem ge_ix {a b : Expr} {pos : Pos} {ta tb : TE} {fa fb : Sem} (hu : X.A.units + 100 < cLine) (ha : GE X a ta fa) (hb : GP X b tb fb) (hs : PlainIx b := by exact fun _ _ => rfl) : GE X (.Subscript a b pos) (tOp (rIxG X.K) ta tb) (fOp2 dIx fa fb) :=
  ⟨pe_ix (ix_any hu) ha.pe hb.pe hs, Ge.op2 opS_ix ha.ge hb.ge⟩
theorem ge_ixN {a b : Expr} {pos : Pos} {i : Nat} {tb : TE} {fb : Sem} (hu : X.A.units + 100 < cLine) (ha : PE X a (tVar i)) (hb : GP X b tb fb) (hs : PlainIx b := by exact fun _ _ => rfl) : GE X (.Subscript a b pos) (tOp (rIxG X.K) (tVar i) tb) (fOp2N dIx i fb) :=
  ⟨pe_ix (ix_any hu) ha hb.pe hs, Ge.op2N opS_ix hb.ge⟩
/-- a name's value is there, if what is looked at later is -/
theorem slot_there {K : PySem.W.Frag} {P : List (Nat × Addr)} {B0 F B H B' H' : Hp} {env env' : LEnv} {σ : L2.St} {i : Nat} {d : D} (E : EnvOk K P B0 F B' H' env' σ) (h : env'[i]?.bind peekD = some d) : ∃ v, σ[i]? = some (some v) := by
  obtain ⟨v, e, _⟩ := peek_ok E h
  exact ⟨v, e⟩
end
end GL
/-! Calls of built-ins, slices. -/
namespace GL
open PySem L2

def CallS1 (K : PySem.W.Frag) (r : List V → Hp → VK → Prop) (g : D → Option D) : Prop := ∀ (B H : Hp) (v : V) (x z : D), Same B H → Pk K B H v x → g x = some z →
  ∀ Q : VK, (∀ w B' H', Grow B H B' H' → Is K B' w z → Q w H') → r [v] H Q
def CallS2 (K : PySem.W.Frag) (r : List V → Hp → VK → Prop) (g : D → D → Option D) : Prop := ∀ (B H : Hp) (v u : V) (x y z : D), Same B H → Pk K B H v x → Pk K B H u y → g x y = some z →
  ∀ Q : VK, (∀ w B' H', Grow B H B' H' → Is K B' w z → Q w H') → r [v, u] H Q
section
variable {X : Cx} {x : Str} {p pos : Pos} {e e2 : Expr} {ta tb : TE} {fa fb : Sem} {id T : String} {r : List V → Hp → VK → Prop}
theorem Ge.call1 {K : PySem.W.Frag} {g : D → Option D} (hs : CallS1 K r g) (ha : Gp K ta fa) : Ge K (tCB r (tCons ta tNil)) (fOp1 g fa) := fun P B0 F B H env σ d env' E hf Q q => by
  obtain ⟨⟨y, e1⟩, h1, h2⟩ := Option.bind_eq_some_iff.mp hf
  obtain ⟨z, h3, h4⟩ := Option.map_eq_some_iff.mp h2
  cases h4
  refine ha P B0 F B H env σ y _ E h1 _ fun v B1 H1 E1 s1 i1 => ?_
  exact hs B1 H1 v y _ E1.bh i1 h3 _ fun w B3 H3 g3 i3 => q w B3 H3 (E1.grow g3) (s1.trans g3.b) i3
theorem Ge.call2 {K : PySem.W.Frag} {g : D → D → Option D} (hs : CallS2 K r g) (ha : Ge K ta fa) (hb : Gp K tb fb) : Ge K (tCB r (tCons ta (tCons tb tNil))) (fOp2 g fa fb) := fun P B0 F B H env σ d env' E hf Q q => by
  obtain ⟨⟨y, e1⟩, h1, h2⟩ := Option.bind_eq_some_iff.mp hf
  obtain ⟨⟨y2, e2⟩, h3, h4⟩ := Option.bind_eq_some_iff.mp h2
  obtain ⟨z, h5, h6⟩ := Option.map_eq_some_iff.mp h4
  cases h6
  refine ha P B0 F B H env σ y e1 E h1 _ fun v B1 H1 E1 s1 i1 => ?_
  refine hb P B0 F B1 H1 e1 σ y2 _ E1 h3 _ fun u B2 H2 E2 s2 i2 => ?_
  exact hs B2 H2 v u y y2 _ E2.bh (.fz (i1.up s2)) i2 h5 _ fun w B3 H3 g3 i3 => q w B3 H3 (E2.grow g3) ((s1.trans s2).trans g3.b) i3
theorem ge_b1 {g : D → Option D} (hc : CallR X (.builtin id) r) (hs : CallS1 X.K r g) (hg : Gl X x) (hm : X.mg x = none) (hv : bootBuiltins x = some (.builtin id)) (ha : GP X e ta fa) (hn : x ≠ "__name__" := by decide) (hdb : (x == ("__debug__" : Str)) = false := by decide)
    (he : starEach [e] X.env = (false, eval e X.env) :: starEach [] X.env := by rfl) (hpl : (backTo pos (starEach [] X.env)).any (·.1) = false := by rfl) : GE X (.Call (.Name x p) [e] [] pos) (tCB r (tCons ta tNil)) (fOp1 g fa) :=
  ⟨pe_callB hc hg hm hv (pa_cons ha.pe pa_nil he) hn hdb he hpl, Ge.call1 hs ha.ge⟩
theorem ge_t1 {g : D → Option D} (hc : CallR X (.type T) r) (hs : CallS1 X.K r g) (hg : Gl X x) (hm : X.mg x = none) (hv : bootBuiltins x = some (.type T)) (ha : GP X e ta fa) (hn : x ≠ "__name__" := by decide) (hdb : (x == ("__debug__" : Str)) = false := by decide)
    (he : starEach [e] X.env = (false, eval e X.env) :: starEach [] X.env := by rfl) (hpl : (backTo pos (starEach [] X.env)).any (·.1) = false := by rfl) : GE X (.Call (.Name x p) [e] [] pos) (tCB r (tCons ta tNil)) (fOp1 g fa) :=
  ⟨pe_callTy hc hg hm hv (pa_cons ha.pe pa_nil he) hn hdb he hpl, Ge.call1 hs ha.ge⟩
theorem ge_b2 {g : D → D → Option D} (hc : CallR X (.builtin id) r) (hs : CallS2 X.K r g) (hg : Gl X x) (hm : X.mg x = none) (hv : bootBuiltins x = some (.builtin id)) (ha : GE X e ta fa) (hb : GP X e2 tb fb) (hn : x ≠ "__name__" := by decide) (hdb : (x == ("__debug__" : Str)) = false := by decide)
    (he : starEach [e, e2] X.env = (false, eval e X.env) :: starEach [e2] X.env := by rfl) (he2 : starEach [e2] X.env = (false, eval e2 X.env) :: starEach [] X.env := by rfl) (hpl : (backTo pos (starEach [e2] X.env)).any (·.1) = false := by rfl) : GE X (.Call (.Name x p) [e, e2] [] pos) (tCB r (tCons ta (tCons tb tNil))) (fOp2 g fa fb) :=
  ⟨pe_callB hc hg hm hv (pa_cons ha.pe (pa_cons hb.pe pa_nil he2) he) hn hdb he hpl, Ge.call2 hs ha.ge hb.ge⟩
end

/-! ### len -/
def dLen : D → Option D
  | .list ds => some (.int ds.length)
  | .tuple ds => some (.int ds.length)
  | .dict ds => some (.int ds.length)
  | _ => none
def rLenG (K : PySem.W.Frag) : List V → Hp → VK → Prop := fun xs H Q => (∃ p ys, xs = [.ref p] ∧ (SqL K H p ys ∨ SqT K H p ys) ∧ Q (.int ys.length) H) ∨ ∃ a kvs, xs = [V.ref a] ∧ Rd H a (.dK kvs) ∧ Q (.int kvs.length) H
section
variable {X : Cx}
theorem cr_lenRd : CallR X (.builtin "len") fun xs H Q => ∃ a kvs, xs = [V.ref a] ∧ Rd H a (.dK kvs) ∧ Q (.int kvs.length) H := by
  intro pns st sg hp xs us Q inv r h
  obtain ⟨a, kvs, rfl, ha, q⟩ := h
  rw [Vals.ref1 r]
  exact d_len inv ha fun t s' I' => ⟨.int kvs.length, hp, I', ⟨t, rfl⟩, q⟩
theorem cr_lenG : CallR X (.builtin "len") (rLenG X.K) := call_len_seq.or cr_lenRd
theorem cs_len {K : PySem.W.Frag} : CallS1 K (rLenG K) dLen := by
  intro B H v x z e hv hg Q q
  cases x with
  | list ds =>
    cases hg
    obtain ⟨l, vs, rfl, hl, il⟩ := hv.list e
    exact .inl ⟨l, vs, rfl, .inl (SqL.of hl), by rw [il.len]; exact q _ B H (.refl e) (.int _)⟩
  | tuple ds =>
    cases hg
    obtain ⟨l, vs, rfl, hl, il⟩ := hv.tup e
    exact .inl ⟨l, vs, rfl, .inr (hl.sq e), by rw [il.len]; exact q _ B H (.refl e) (.int _)⟩
  | dict ds =>
    cases hg
    obtain ⟨l, vs, rfl, hl, il⟩ := hv.dict e
    exact .inr ⟨l, vs, rfl, hl, by rw [il.len]; exact q _ B H (.refl e) (.int _)⟩
  | _ => cases hg

/-! ### list(..), tuple(..) -/
def dList : D → Option D
  | .list ds => some (.list ds)
  | .tuple ds => some (.list ds)
  | _ => none
def dTuple : D → Option D
  | .list ds => some (.tuple ds)
  | .tuple ds => some (.tuple ds)
  | _ => none
def rListG (K : PySem.W.Frag) : List V → Hp → VK → Prop := fun xs H Q => (∃ p ys, xs = [.ref p] ∧ (SqL K H p ys ∨ SqT K H p ys) ∧ ∀ l, H l = none → Q (.ref l) (upd H l (.lst ys)))
theorem cr_listG (hc : X.calm = true) : CallR X (.type "list") (rListG X.K) := call_list_of
theorem IsK.keys {K : PySem.W.Frag} {B : Hp} {kvs : List (Key × V)} {ds : List (D × D)} (h : IsK K B kvs ds) : IsAll K B (kvs.map fun kv => kV kv.1) (ds.map (·.1)) := by
  induction ds generalizing kvs with
  | nil => cases h; exact .nil
  | cons p ds ih =>
    cases h with
    | @cons k v _ d _ h t =>
      refine .cons ?_ (ih t)
      cases k with
      | inl i => exact .int i
      | inr x => exact .str x
theorem cs_list {K : PySem.W.Frag} : CallS1 K (rListG K) dList := by
  intro B H v x z e hv hg Q q
  cases x with
  | list ds =>
    cases hg
    obtain ⟨l, vs, rfl, hl, il⟩ := hv.list e
    refine ⟨l, vs, rfl, .inl (SqL.of hl), fun p hp => ?_⟩
    have g := Grow.new (o := .lst vs) e hp
    exact q _ _ _ g (.lst upd_same (il.up g.b))
  | tuple ds =>
    cases hg
    obtain ⟨l, vs, rfl, hl, il⟩ := hv.tup e
    refine ⟨l, vs, rfl, .inr (hl.sq e), fun p hp => ?_⟩
    have g := Grow.new (o := .lst vs) e hp
    exact q _ _ _ g (.lst upd_same (il.up g.b))
  | _ => cases hg
theorem cs_tuple {K : PySem.W.Frag} : CallS1 K (rTupleN K) dTuple := by
  intro B H v x z e hv hg Q q
  cases x with
  | list ds =>
    cases hg
    obtain ⟨l, vs, rfl, hl, il⟩ := hv.list e
    refine ⟨l, vs, rfl, .inl ⟨SqL.of hl, fun p o hp ho => ?_⟩⟩
    have g := Grow.new (o := mkTup vs o) e hp
    exact q _ _ _ g (.tup (.new ho) (il.up g.b))
  | tuple ds =>
    cases hg
    obtain ⟨l, vs, rfl, hl, il⟩ := hv.tup e
    exact ⟨l, vs, rfl, .inr ⟨hl.sq e, q _ B H (.refl e) (.tup hl il)⟩⟩
  | _ => cases hg

/-! ### any, all of a list of bools -/
def boolsOf : List D → Option (List Bool)
  | [] => some []
  | .bool b :: r => (boolsOf r).map (b :: ·)
  | _ :: _ => none
theorem boolsOf_is {K : PySem.W.Frag} {B : Hp} : ∀ {ds : List D} {bs : List Bool} {vs : List V}, boolsOf ds = some bs → IsAll K B vs ds → vs = bs.map V.bl
  | [], _, _, h, i => by cases h; cases i; rfl
  | d :: r, bs, vs, h, i => by
    cases d with
    | bool b =>
      obtain ⟨cs, h1, h2⟩ := Option.map_eq_some_iff.mp h
      subst h2
      cases i with
      | cons i1 i2 =>
        cases i1
        rw [boolsOf_is h1 i2] <;> rfl
    | _ => cases h
def dAny : D → Option D
  | .list ds => (boolsOf ds).map fun bs => .bool (bs.any id)
  | _ => none
def dAll : D → Option D
  | .list ds => (boolsOf ds).map fun bs => .bool (bs.all id)
  | _ => none
theorem cs_any {K : PySem.W.Frag} : CallS1 K (rAny K) dAny := by
  intro B H v x z e hv hg Q q
  cases x with
  | list ds =>
    obtain ⟨bs, h1, h2⟩ := Option.map_eq_some_iff.mp hg
    subst h2
    obtain ⟨l, vs, rfl, hl, il⟩ := hv.list e
    have := boolsOf_is h1 il
    subst this
    exact ⟨l, bs, rfl, SqL.of hl, q _ B H (.refl e) (.bl _)⟩
  | _ => cases hg
theorem cs_all {K : PySem.W.Frag} : CallS1 K (rAll K) dAll := by
  intro B H v x z e hv hg Q q
  cases x with
  | list ds =>
    obtain ⟨bs, h1, h2⟩ := Option.map_eq_some_iff.mp hg
    subst h2
    obtain ⟨l, vs, rfl, hl, il⟩ := hv.list e
    have := boolsOf_is h1 il
    subst this
    exact ⟨l, bs, rfl, SqL.of hl, q _ B H (.refl e) (.bl _)⟩
  | _ => cases hg

/-! ### min, max of two ints; int(..) -/
def dMax2 : D → D → Option D
  | .int i, .int j => some (.int (if j > i then j else i))
  | _, _ => none
def dMin2 : D → D → Option D
  | .int i, .int j => some (.int (if j < i then j else i))
  | _, _ => none
theorem cs_max2 {K : PySem.W.Frag} : CallS2 K (fun xs H Q => ∃ i j, xs = [.int i, .int j] ∧ Q (.int (if j > i then j else i)) H) dMax2 := by
  intro B H v u x y z e hv hu hg Q q
  cases x with
  | int i =>
    cases y with
    | int j =>
      cases hg
      exact ⟨i, j, by rw [hv.int, hu.int], q _ B H (.refl e) (.int _)⟩
    | _ => cases hg
  | _ => cases hg
theorem cs_min2 {K : PySem.W.Frag} : CallS2 K (fun xs H Q => ∃ i j, xs = [.int i, .int j] ∧ Q (.int (if j < i then j else i)) H) dMin2 := by
  intro B H v u x y z e hv hu hg Q q
  cases x with
  | int i =>
    cases y with
    | int j =>
      cases hg
      exact ⟨i, j, by rw [hv.int, hu.int], q _ B H (.refl e) (.int _)⟩
    | _ => cases hg
  | _ => cases hg
def dInt : D → Option D
  | .int i => some (.int i)
  | _ => none
theorem cs_int {K : PySem.W.Frag} : CallS1 K (fun xs H Q => (∃ i, xs = [.int i] ∧ Q (.int i) H) ∨ ∃ k, xs = [.bl k] ∧ Q (.int (if k then 1 else 0)) H) dInt := by
  intro B H v x z e hv hg Q q
  cases x with
  | int i => cases hg; exact .inl ⟨i, by rw [hv.int], q _ B H (.refl e) (.int _)⟩
  | _ => cases hg

/-! ### sorted of data that are alike -/
def alikes (ds : List D) : Bool := ds.all fun d => ds.all fun d' => PySem.W.alike d d'
def isTup1 : D → Bool
  | .tuple (_ :: _) => true
  | _ => false
def isTupN : D → Bool
  | .tuple _ => true
  | .none => true
  | _ => false
def sortable (ds : List D) : Bool := ds.all isTup1 || ds.all fun d => !isTupN d
def sortD (ds : List D) : List D := ds.mergeSort (PySem.W.dataLe false id)
def dSortL (ds : List D) : Option D := if alikes ds = true ∧ sortable ds = true ∧ okD (.list ds) = true ∧ ds.length ≤ 1000000 then some (.list (sortD ds)) else none
def dSorted : D → Option D
  | .list ds => dSortL ds
  | .tuple ds => dSortL ds
  | _ => none
theorem alikes_of {ds : List D} (h : alikes ds = true) : PySem.W.AllAlike (ds.map id) := by
  intro d hd d' hd'
  rw [List.map_id] at hd hd'
  exact List.all_eq_true.mp (List.all_eq_true.mp h d hd) d' hd'
theorem sortable_of {ds : List D} (h : sortable ds = true) : PySem.W.Sortable (ds.map id) := by
  rw [List.map_id]
  rcases Bool.or_eq_true_iff.mp h with h | h
  · refine .inl fun d hd => ?_
    have q := List.all_eq_true.mp h d hd
    unfold isTup1 at q
    split at q
    · exact ⟨_, _, rfl⟩
    · cases q
  · refine .inr fun d hd => ?_
    have q := List.all_eq_true.mp h d hd
    refine ⟨fun z => ?_, fun xs z => ?_⟩
    · rw [z] at q; cases q
    · rw [z] at q; cases q
def rSortD (K : PySem.W.Frag) : List V → Hp → VK → Prop := fun vs H Q => ∃ (a : Addr) (xs : List V) (ds : List D), vs = [V.ref a] ∧ SqL K H a xs ∧ DpAll K H xs ds ∧ alikes ds = true ∧ sortable ds = true ∧ okD (.list ds) = true ∧ ds.length ≤ 1000000 ∧
  ∀ (ys : List V) (p : Addr), PySem.W.EachIs (fun v d => ∃ i : Nat, xs[i]? = some v ∧ ds[i]? = some d) ys (sortD ds) → H p = none → Q (.ref p) (upd H p (.lst ys))
end
end GL
/-! sorted over data trees. -/
namespace GL
open PySem L2 PySem.W

theorem DpAll.len {K : Frag} {H : Hp} : ∀ {vs : List V} {ds : List D}, DpAll K H vs ds → vs.length = ds.length
  | _, _, .nil => rfl
  | _, _, .cons _ t => by rw [List.length_cons, List.length_cons, DpAll.len t]
section
variable {X : Cx} {pins : List (Addr × Obj)} {σ : L2.St} {H : Hp} {s : Shared}
/-- values and data, side by side with their places -/
def Rk (xs : List V) (ds : List D) (v : Value) (d : D) : Prop := ∃ (i : Nat) (w : V), xs[i]? = some w ∧ ds[i]? = some d ∧ RelV w v
theorem rk_cons {x : V} {xs : List V} {y : D} {ds : List D} {v : Value} {d : D} : Rk xs ds v d → Rk (x :: xs) (y :: ds) v d := fun ⟨i, w, h1, h2, h3⟩ => ⟨i + 1, w, by simpa using h1, by simpa using h2, h3⟩
theorem each_rk : ∀ {xs : List V} {ds : List D} {us : List Value}, xs.length = ds.length → Vals xs us → EachIs (Rk xs ds) us ds
  | [], [], _, _, r => by cases r; exact .nil
  | x :: xs, d :: ds, _, hl, r => by
    cases r with
    | cons r t => exact .cons ⟨0, x, rfl, rfl, r⟩ ((each_rk (by simpa using hl) t).mono fun _ _ h => rk_cons h)
  | [], _ :: _, _, hl, _ => by simp at hl
  | _ :: _, [], _, hl, _ => by simp at hl
theorem each_reads (I : Inv X pins σ H s) : ∀ {xs : List V} {ds : List D} {us : List Value}, DpAll X.K H xs ds → Vals xs us → EachIs (fun v d => ∃ as, Reads s.heap v (id d) as) us ds
  | _, _, _, .nil, r => by cases r; exact .nil
  | _, _, _, .cons h t, r => by
    cases r with
    | cons r u => exact .cons (Dp.reads I _ _ _ h r) (each_reads I t u)
theorem back_rk {xs : List V} {es : List D} : ∀ {out : List Value} {ds : List D}, EachIs (Rk xs es) out ds → ∃ ys : List V, Vals ys out ∧ EachIs (fun v d => ∃ i : Nat, xs[i]? = some v ∧ es[i]? = some d) ys ds
  | _, _, .nil => ⟨[], .nil, .nil⟩
  | _, _, .cons h t => by
    obtain ⟨i, w, h1, h2, h3⟩ := h
    obtain ⟨ys, a, b⟩ := back_rk t
    exact ⟨w :: ys, .cons h3 a, .cons ⟨i, h1, h2⟩ b⟩
theorem depth_mem : ∀ {ds : List D} {d : D}, d ∈ ds → d.depth ≤ PyData.depthAll ds
  | x :: ds, d, h => by
    rcases List.mem_cons.mp h with e | h
    · subst e; simp only [PyData.depthAll]; exact Nat.le_max_left _ _
    · simp only [PyData.depthAll]; exact Nat.le_trans (depth_mem h) (Nat.le_max_right _ _)
theorem deep_item {ds : List D} {d : D} (h : okD (.list ds) = true) (hd : d ∈ ds) : d.depth ≤ 50 := by
  have h1 := ok_deep h
  have h2 := depth_mem hd
  have e : PyData.depth (.list ds) = PyData.depthAll ds + 1 := by simp only [PyData.depth]
  omega
theorem cr_sortD (hu : X.A.units + 100 < cLine) : CallR X (.builtin "sorted") (rSortD X.K) := by
  intro pns st sg hp xs us Q inv r h
  obtain ⟨a, ws, ds, rfl, hs, hd, al, so, ok, hz, q⟩ := h
  obtain ⟨its, rv, pl, hL⟩ := inv.list hs
  rw [Vals.ref1 r]
  refine sorted_data (R := Rk ws ds) (enc := id) pl.isList (each_rk (DpAll.len hd) rv) (each_reads inv hd rv) (alikes_of al) (sortable_of so) (sz_ok hz) (fun b hb => ?_) fun out hl he => ?_
  · have := deep_item ok hb
    show X.A.units + 2 + b.depth < cLine
    omega
  · obtain ⟨ys, h1, h2⟩ := back_rk he
    obtain ⟨ep, he'⟩ := PyProof.Rows.sortedAll_at st.heap its (List.toArray out)
    have hlen : ys.length ≤ sizeLine := by
      rw [h1.length, hl]; exact sz_ok hz
    exact ⟨.ref _, upd hp (st.heap.objs.size + 1) (.lst ys), inv.laid (t' := st.toks) (fun _ _ => PyProof.Rows.sortedAll_old) (Nat.le_succ _) ⟨hlen, out, ep, h1, he'⟩, rfl, q ys _ h2 (inv.hok.fresh (Nat.le_succ _))⟩
theorem each_isAll {K : Frag} {B : Hp} {xs : List V} {es : List D} (h : IsAll K B xs es) : ∀ {ys : List V} {ds : List D}, EachIs (fun v d => ∃ i : Nat, xs[i]? = some v ∧ es[i]? = some d) ys ds → IsAll K B ys ds
  | _, _, .nil => .nil
  | _, _, .cons ⟨i, h1, h2⟩ t => by
    obtain ⟨v, h3, h4⟩ := h.get h2
    rw [h1] at h3
    cases h3
    exact .cons h4 (each_isAll h t)
theorem cs_sortL {K : Frag} : CallS1 K (rSortD K) (fun x => match x with | .list ds => dSortL ds | _ => none) := by
  intro B H v x z e hv hg Q q
  cases x with
  | list ds =>
    dsimp only [dSortL] at hg
    split at hg
    · rename_i hz
      cases hg
      obtain ⟨l, vs, rfl, hl, il⟩ := hv.list e
      refine ⟨l, vs, ds, rfl, SqL.of hl, il.dp e (by simpa [PyData.plain] using ok_plain hz.2.2.1), hz.1, hz.2.1, hz.2.2.1, hz.2.2.2, fun ys p hy hp => ?_⟩
      have g := Grow.new (o := .lst ys) e hp
      exact q _ _ _ g (.lst upd_same ((each_isAll il hy).up g.b))
    · cases hg
  | _ => cases hg

/-- behind the collecting: a new list of the items, sorted -/
theorem sort_tail {s : Shared} (I : Inv X pins σ H s) {us : List Value} {xs : List V} {ds : List D} {A : Around} {E : Value → Shared → Prop} {Q : VK} (hA : A.units + 60 < cLine) (rv : Vals xs us) (hd : DpAll X.K H xs ds) (al : alikes ds = true) (so : sortable ds = true) (ok : okD (.list ds) = true) (hz : ds.length ≤ 1000000)
    (q : ∀ (ys : List V) (p : Addr), EachIs (fun v d => ∃ i : Nat, xs[i]? = some v ∧ ds[i]? = some d) ys (sortD ds) → H p = none → Q (.ref p) (upd H p (.lst ys))) :
    wpAny (model X.prog X.w) A (Builtin.«list.sort» ⟨[.ref s.heap.objs.size], []⟩) (fun f s' => f = .done (.ret .none) ∧ EP X pins σ Q (.ref s.heap.objs.size) s') E { s with heap := s.heap.push (PyProof.Rows.seqObj "list" us.toArray 0) } := by
  have hL : us.length ≤ sizeLine := by rw [← rv.length, DpAll.len hd]; exact sz_ok hz
  have ho : (s.heap.push (PyProof.Rows.seqObj "list" us.toArray 0)).get? s.heap.objs.size = some (PyProof.Rows.seqObj "list" us.toArray 0) := Heap.get?_push_size _ rfl
  have kp : ∀ b o, s.heap.get? b = some o → (sortingHeap (s.heap.push (PyProof.Rows.seqObj "list" us.toArray 0)) s.heap.objs.size us).get? b = some o := fun b o e => by
    have hb : b < s.heap.objs.size := Heap.lt_size e
    exact sortingHeap_old (Nat.ne_of_lt hb) (Heap.get?_push_of_some _ e)
  have er : EachIs (fun v d => ∃ as, Reads (sortingHeap (s.heap.push (PyProof.Rows.seqObj "list" us.toArray 0)) s.heap.objs.size us) v d as) us ds := (each_reads I hd rv).mono fun _ _ ⟨as, r⟩ => ⟨as, PyProof.Rows.Reads.keeps kp r⟩
  refine list_sort_vals (κ := dataKind (sortingHeap (s.heap.push (PyProof.Rows.seqObj "list" us.toArray 0)) s.heap.objs.size us) (ds.map id)) ho
    (SortsAt.data (s := { s with heap := sortingHeap (s.heap.push (PyProof.Rows.seqObj "list" us.toArray 0)) s.heap.objs.size us }) (each_map (R := fun v d => ∃ as, Reads (sortingHeap (s.heap.push (PyProof.Rows.seqObj "list" us.toArray 0)) s.heap.objs.size us) v d as) id er) (alikes_of al) (sortable_of so) (bound_map fun b hb => ?_)) hL ⟨rfl, ?_⟩
  · have := deep_item ok hb
    show A.units + b.depth < cLine
    omega
  · have he := sortVals_data (R := Rk xs ds) (enc := id) false (each_rk (DpAll.len hd) rv) er (alikes_of al)
    obtain ⟨ys, h1, h2⟩ := back_rk he
    obtain ⟨ep, he'⟩ := PyProof.Rows.sortedHeap_at (vs := us) (out := (sortVals (dataKind (sortingHeap (s.heap.push (PyProof.Rows.seqObj "list" us.toArray 0)) s.heap.objs.size us) (ds.map id)) false us us).toArray) ho
    have hlen : ys.length ≤ sizeLine := by
      rw [h1.length, he.length, List.length_mergeSort]
      exact sz_ok hz
    refine ⟨.ref s.heap.objs.size, upd H s.heap.objs.size (.lst ys), I.laid (t' := s.toks) (fun b o e => ?_) (Nat.le_refl _) ⟨hlen, _, ep, h1, he'⟩, rfl, q ys _ h2 I.fresh⟩
    have hb : b < s.heap.objs.size := Heap.lt_size e
    rw [PyProof.Rows.sortedHeap_old (Nat.ne_of_lt hb) (by rw [PyProof.Rows.size_push']; exact Nat.lt_succ_of_lt hb)]
    exact Heap.get?_push_of_some _ e

/-! ### sorted(d): the keys -/
theorem tree_sorted (I : Inv X pins σ H s) {a : Addr} {n : Nat} {P : Nat → Value → Prop} {OK : Heap → Prop} {Q : VK} {ds : List D} {xs : List V} (hu : X.A.units + 100 < cLine) (hc : X.calm = true) (K : KdlSrc X.prog X.w "dict" a a n P OK) (hok : OK s.heap) (hn : n ≤ sizeLine)
    (hd : DpAll X.K H xs ds) (hP : ∀ acc : Array Value, ItemsOf P acc n → Vals xs acc.toList) (al : alikes ds = true) (so : sortable ds = true) (ok : okD (.list ds) = true) (hz : ds.length ≤ 1000000)
    (q : ∀ (ys : List V) (p : Addr), EachIs (fun v d => ∃ i : Nat, xs[i]? = some v ∧ ds[i]? = some d) ys (sortD ds) → H p = none → Q (.ref p) (upd H p (.lst ys))) :
    wpAny (model X.prog X.w) X.A (PySem.call (.builtin "sorted") [.ref a]) (EP X pins σ Q) X.xe s := by
  refine Calls.call_function_entry PyProof.Rows.kind_sorted PyProof.Rows.plain_sorted PyProof.Rows.entry_sorted (PyProof.Rows.args_sorted1 _) ?_
  unfold Builtin.«sorted»
  refine wpAny_bind (m := checkCount "sorted" 1 1 _) (wpAny_pure ?_)
  refine wpAny_bind (kdu_collect (A := X.A.in1) K (I.ok.hd hc) hok hn fun h2 tk acc hk hacc => ?_)
  have rv := hP acc hacc
  have I1 : Inv X pins σ H { s with heap := h2, toks := tk } := I.kept hk
  have hL : acc.toList.length ≤ sizeLine := by rw [← rv.length, DpAll.len hd]; exact sz_ok hz
  refine wpAny_bind (wpAny_newList ?_ hL)
  refine wpAny_bind (wpAny_holding (wpAny_call_entry PyProof.Rows.slot_list_sort ⟨_, Heap.get?_push_size _ rfl, rfl⟩ PyProof.Rows.entry_list_sort
    (wpAny_mono (sort_tail (s := { s with heap := h2, toks := tk }) I1 (A := X.A.in1.in1) (by show X.A.units + 1 + 1 + 60 < cLine; omega) rv hd al so ok hz q) (fun f s3 hf => ?_) fun _ _ z => z) (PyProof.Rows.args_list_sort _)))
  obtain ⟨e1, e2⟩ := hf
  exact ⟨_, e1, wpAny_pure ⟨_, rfl, e2⟩⟩
end
end GL
/-! sorted of dicts; kinds of values. -/
namespace GL
open PySem L2 PySem.W

section
variable {X : Cx}
def okSort (ds : List D) : Prop := alikes ds = true ∧ sortable ds = true ∧ okD (.list ds) = true ∧ ds.length ≤ 1000000
def AfterSort (xs : List V) (ds : List D) (H : Hp) (Q : VK) : Prop := ∀ (ys : List V) (p : Addr), EachIs (fun v d => ∃ i : Nat, xs[i]? = some v ∧ ds[i]? = some d) ys (sortD ds) → H p = none → Q (.ref p) (upd H p (.lst ys))
def rSortK (K : Frag) : List V → Hp → VK → Prop := fun vs H Q => ∃ (a : Addr) (kvs : List (Key × V)) (ds : List D), vs = [V.ref a] ∧ Rd H a (.dK kvs) ∧ DpAll K H (kvs.map fun p => kV p.1) ds ∧ okSort ds ∧ AfterSort (kvs.map fun p => kV p.1) ds H Q
def rSortT (K : Frag) : List V → Hp → VK → Prop := fun vs H Q => ∃ (a : Addr) (kvs : List (List Key × V)), vs = [V.ref a] ∧ H a = some (.dT kvs) ∧ ∀ bs, IsKeys H kvs bs → ∃ ds, DpAll K H (bs.map V.ref) ds ∧ okSort ds ∧ AfterSort (bs.map V.ref) ds H Q
theorem rd_of {P : Program} {w : World} {H : Hp} {h : Heap} {a : Addr} {kvs : List (Key × V)} (hok : HOk P w H h) (ha : Rd H a (.dK kvs)) : kvs.length ≤ sizeLine ∧ (a == sysModules) = false ∧ ∃ vs, KV kvs vs ∧ Heap.DictOf (mixKind P w) h a vs := by
  rcases ha with ha | ⟨o, ha⟩
  · exact dk_of hok ha
  · exact (show ObjOk P w H h a (.frz o (.dK kvs)) from hok a _ ha).2
theorem cr_sortK (hu : X.A.units + 100 < cLine) (hc : X.calm = true) : CallR X (.builtin "sorted") (rSortK X.K) := by
  intro pns st sg hp xs us Q inv r h
  obtain ⟨a, kvs, ds, rfl, ha, hd, ⟨al, so, ok, hz⟩, q⟩ := h
  rw [Vals.ref1 r]
  obtain ⟨z, lo, vs, rel, dd⟩ := rd_of inv.hok ha
  obtain ⟨ep, hat⟩ := dd.dictAt
  refine tree_sorted (n := vs.length) inv hu hc (kdl_dict (knd := mixKind X.prog X.w) (kvs := vs) (ep := ep) lo) hat (by rw [← rel.length]; exact z) hd (fun acc hacc => ?_) al so ok hz q
  have ek : (kvs.map fun p => kV p.1) = vs.map fun p => kV p.1 := by
    have e := congrArg (List.map kV) rel.keys
    rw [List.map_map, List.map_map] at e
    exact e
  rw [ek]
  exact keys_at (by rw [Array.length_toList]; exact hacc.1) fun j v e => hacc.2 j v (by rw [← Array.getElem?_toList]; exact e)
theorem cr_sortT' (hu : X.A.units + 100 < cLine) (hc : X.calm = true) : CallR X (.builtin "sorted") (rSortT X.K) := by
  intro pns st sg hp xs us Q inv r h
  obtain ⟨a, kvs, rfl, ha, q⟩ := h
  rw [Vals.ref1 r]
  obtain ⟨z, lo, ks, pr, o, es, ep, ho, hx, hdt, he, hn⟩ := (show ObjOk X.prog X.w hp st.heap a (.dT kvs) from inv.hok a _ ha)
  obtain ⟨ds, hd, ⟨al, so, ok, hz⟩, q⟩ := q _ (isKeys_of pr)
  have l1 : es.size = ks.length := by rw [← Array.length_toList, he, List.length_map]
  have l2 : kvs.length = ks.length := Paired.length pr
  refine tree_sorted (n := es.size) inv hu hc (kdl_raw lo hx hdt) ho (by omega) hd (fun acc hacc => ?_) al so ok hz q
  refine vals_of_at (by rw [List.length_map, List.length_map, ← l1, ← hacc.1]; exact Array.length_toList.symm) fun j x u hx hu => ?_
  obtain ⟨en, hen, hv⟩ := hacc.2 j u (by rw [← Array.getElem?_toList]; exact hu)
  rw [List.getElem?_map, List.getElem?_map] at hx
  have qe : es.toList[j]? = (ks.map (entryOfKey (tupleKind (mixKind X.prog X.w))))[j]? := by rw [he]
  rw [Array.getElem?_toList, hen, List.getElem?_map] at qe
  cases hb : ks[j]? with
  | none => rw [hb] at qe; cases qe
  | some b =>
    rw [hb] at qe hx
    cases hx
    have e2 := Option.some.inj qe
    rw [hv, e2]
    rfl
def dSortedG : D → Option D
  | .list ds => dSortL ds
  | .dict ds => dSortL (ds.map (·.1))
  | _ => none
def rSortG (K : Frag) : List V → Hp → VK → Prop := fun vs H Q => rSortD K vs H Q ∨ rSortK K vs H Q
theorem cr_sortG (hu : X.A.units + 100 < cLine) (hc : X.calm = true) : CallR X (.builtin "sorted") (rSortG X.K) := (cr_sortD hu).or (cr_sortK hu hc)
theorem cs_sortG {K : Frag} : CallS1 K (rSortG K) dSortedG := by
  intro B H v x z e hv hg Q q
  cases x with
  | list ds => exact .inl (cs_sortL B H v (.list ds) z e hv hg Q q)
  | dict ds =>
    dsimp only [dSortedG, dSortL] at hg
    split at hg
    · rename_i hz
      cases hg
      obtain ⟨l, ws, rfl, hl, il⟩ := hv.dict e
      refine .inr ⟨l, ws, ds.map (fun p : D × D => p.1), rfl, hl, IsAll.dp e (by simpa [PyData.plain] using ok_plain hz.2.2.1) il.keys, hz, fun ys p hy hp => ?_⟩
      have g := Grow.new (o := .lst ys) e hp
      exact q _ _ _ g (.lst upd_same ((each_isAll il.keys hy).up g.b))
    · cases hg
  | _ => cases hg

/-! ### sorted of an own dict with tuple keys -/
theorem keys_isAll {K : Frag} {B : Hp} : ∀ k : List Key, IsAll K B (k.map kV) (k.map keyD)
  | [] => .nil
  | .inl i :: r => .cons (.int i) (keys_isAll r)
  | .inr x :: r => .cons (.str x) (keys_isAll r)
/-- the key tuples are taken for known -/
theorem freeze_keys {K : Frag} {H : Hp} : ∀ {kvs : List (List Key × V)} {bs : List Addr} {B : Hp}, Same B H → IsKeys H kvs bs → ∃ B', Grow B H B' H ∧ IsAll K B' (bs.map V.ref) (kvs.map fun p => keysD p.1)
  | _, _, B, e, .nil => ⟨B, .refl e, .nil⟩
  | _, _, B, e, .cons (a := p) (b := b) h t => by
    have g := Grow.tup e h
    obtain ⟨B2, g2, i2⟩ := freeze_keys (K := K) g.bh t
    exact ⟨B2, g.trans g2, .cons (.tup (.of (g2.b _ _ upd_same) (hasN_keys _)) (keys_isAll p.1)) i2⟩
theorem OpK.keysEq {K : Frag} {B : Hp} {κ : Type} {vs : List (κ × V)} {ds : List (κ × D)} (h : OpK K B vs ds) : vs.map (·.1) = ds.map (·.1) := by
  induction h with
  | nil => rfl
  | cons h _ ih => simp [ih]
def tKeys (kvs : List (List Key × D)) : List D := kvs.map fun p => keysD p.1
def fSortDT (i : Nat) : Sem := fun env => match env[i]? with
  | some (.dt kvs) => (dSortL (tKeys kvs)).map fun d => (d, env)
  | _ => none
theorem ge_sortDT {e : Expr} {i : Nat} {p pos : Pos} (hu : X.A.units + 100 < cLine) (hc : X.calm = true) (hm : X.mg "sorted" = none) (h : PE X e (tVar i)) (hg : Gl X "sorted" := by rfl)
    (he : starEach [e] X.env = (false, eval e X.env) :: starEach [] X.env := by rfl) (hpl : (backTo pos (starEach [] X.env)).any (·.1) = false := by rfl) : GE X (.Call (.Name "sorted" p) [e] [] pos) (tCB (rSortT X.K) (tCons (tVar i) tNil)) (fSortDT i) :=
  ⟨pe_callB (cr_sortT' hu hc) hg hm (by decide +kernel) (pa_cons h pa_nil he) (by decide) (by decide) he hpl, fun P B0 F B H env σ d env' E hf Q q => by
    unfold fSortDT at hf
    split at hf
    · rename_i kvs hi
      obtain ⟨d', h1, h2⟩ := Option.map_eq_some_iff.mp hf
      cases h2
      unfold dSortL at h1
      split at h1
      · rename_i hz
        cases h1
        obtain ⟨l, ws, e1, hl, iv⟩ := E.at_ i _ hi
        refine ⟨_, e1, l, ws, rfl, hl, fun bs hb => ?_⟩
        obtain ⟨B2, g2, i2⟩ := freeze_keys (K := X.K) E.bh hb
        have ek : (ws.map fun p => keysD p.1) = tKeys kvs := by
          have z := congrArg (List.map keysD) iv.keysEq
          rw [List.map_map, List.map_map] at z
          exact z
        rw [ek] at i2
        refine ⟨tKeys kvs, i2.dp g2.bh (by simpa [PyData.plain] using ok_plain hz.2.2.1), hz, fun ys p hy hp => ?_⟩
        have g := Grow.new (o := .lst ys) g2.bh hp
        exact q _ _ _ (E.grow (g2.trans g)) (g2.b.trans g.b) (.lst upd_same ((each_isAll i2 hy).up g.b))
      · cases h1
    · cases hf⟩

/-! ### isinstance -/
def tyD : D → String
  | .none => "NoneType"
  | .bool _ => "bool"
  | .int _ => "int"
  | .str _ => "str"
  | .list _ => "list"
  | .tuple _ => "tuple"
  | .dict _ => "dict"
def isaB (d T : String) : Option Bool := kitB d T
theorem Pk.ty {K : Frag} {B H : Hp} {v : V} {d : D} (e : Same B H) (h : Pk K B H v d) : TyX K H v (.type (tyD d)) := by
  cases h with
  | fz h =>
    cases h with
    | non => exact .base .non
    | bl b => exact .base (.bl b)
    | int i => exact .base (.int i)
    | str i => exact .base (.str i)
    | lst h t => exact .base (.lst (e _ _ h))
    | tup h t => exact (h.up e).rd.elim (fun z => .base (.tup z)) fun ⟨o, z⟩ => .fTuple z
    | dk h t =>
      rcases rd_up e h with h | ⟨o, h⟩
      · exact .base (.dK h)
      · exact .fDict h
  | ol h t => exact .base (.lst h)
  | dk h t => exact .base (.dK h)
def dIsa (T : String) (d : D) : Option D := (kitB (tyD d) T).map .bool
theorem ge_isa {e : Expr} {T : Str} {n : String} {ta : TE} {fa : Sem} {p p2 pos : Pos} (hm : X.mg "isinstance" = none) (ha : GP X e ta fa) (hT : PE X (.Name T p2) (tC (.ty n))) (hg : Gl X "isinstance" := by rfl)
    (he : starEach [e, .Name T p2] X.env = (false, eval e X.env) :: starEach [.Name T p2] X.env := by rfl) (he2 : starEach [.Name T p2] X.env = (false, eval (.Name T p2) X.env) :: starEach [] X.env := by rfl) (hpl : (backTo pos (starEach [.Name T p2] X.env)).any (·.1) = false := by rfl) :
    GE X (.Call (.Name "isinstance" p) [e, .Name T p2] [] pos) (tCB (rIsi X.K) (tCons ta (tCons (tC (.ty n)) tNil))) (fOp1 (dIsa n) fa) :=
  ⟨pe_callB call_isi hg hm (by decide +kernel) (pa_cons ha.pe (pa_cons hT pa_nil he2) he) (by decide) (by decide) he hpl, fun P B0 F B H env σ d env' E hf Q q => by
    obtain ⟨⟨y, e1⟩, h1, h2⟩ := Option.bind_eq_some_iff.mp hf
    obtain ⟨z, h3, h4⟩ := Option.map_eq_some_iff.mp h2
    cases h4
    obtain ⟨b, h5, h6⟩ := Option.map_eq_some_iff.mp h3
    subst h6
    refine ha.ge P B0 F B H env σ y _ E h1 _ fun v B1 H1 E1 s1 i1 => ?_
    exact ⟨v, .ty n, _, _, b, rfl, .ty n, i1.ty E1.bh, kit_ty h5, q _ B1 H1 E1 s1 (.bl b)⟩⟩
/-- isinstance(x, (tuple, list)) -/
def dIsa2 (S T : String) (d : D) : Option D := (kitB (tyD d) S).bind fun a => (kitB (tyD d) T).map fun b => .bool (a || b)
theorem ge_isa2 {e : Expr} {es : List Expr} {m n : String} {ta : TE} {fa : Sem} {p p2 pos : Pos} {x1} (hm : X.mg "isinstance" = none) (ha : GP X e ta fa) (hT : PA X es (tCons (tC (.ty m)) (tCons (tC (.ty n)) tNil))) (hg : Gl X "isinstance" := by rfl)
    (he : starEach [e, .Tuple es x1 p2] X.env = (false, eval e X.env) :: starEach [.Tuple es x1 p2] X.env := by rfl) (he2 : starEach [.Tuple es x1 p2] X.env = (false, eval (.Tuple es x1 p2) X.env) :: starEach [] X.env := by rfl)
    (hpl : (backTo pos (starEach [.Tuple es x1 p2] X.env)).any (·.1) = false := by rfl) :
    GE X (.Call (.Name "isinstance" p) [e, .Tuple es x1 p2] [] pos) (tCB (rIsiT X.K) (tCons ta (tCons (tTup (tCons (tC (.ty m)) (tCons (tC (.ty n)) tNil))) tNil))) (fOp1 (dIsa2 m n) fa) :=
  ⟨pe_callB call_isiT hg hm (by decide +kernel) (pa_cons ha.pe (pa_cons (pe_tup hT) pa_nil he2) he) (by decide) (by decide) he hpl, fun P B0 F B H env σ d env' E hf Q q => by
    obtain ⟨⟨y, e1⟩, h1, h2⟩ := Option.bind_eq_some_iff.mp hf
    obtain ⟨z, h3, h4⟩ := Option.map_eq_some_iff.mp h2
    cases h4
    obtain ⟨b, h5, h6⟩ := Option.bind_eq_some_iff.mp h3
    obtain ⟨c, h7, h8⟩ := Option.map_eq_some_iff.mp h6
    subst h8
    refine ha.ge P B0 F B H env σ y _ E h1 _ fun v B1 H1 E1 s1 i1 => ⟨sz_ok (by simp), fun tp htp => ?_⟩
    have g := Grow.open (o := .tup [.ty m, .ty n]) E1.bh htp
    refine ⟨v, tp, _, _, _, b || c, rfl, upd_same, .cons (.ty m) (.cons (.ty n) .nil), (?_ : TyX X.K _ v (.type (tyD y))), kitAny_cons (kit_ty h5) (fun hb => kitAny_cons (kit_ty h7) (fun hc => by rw [hb, hc]; exact kitAny_nil) (fun hc => by rw [hc, Bool.or_true])) (fun hb => by rw [hb, Bool.true_or]), q _ B1 _ (E1.grow g) s1 (.bl _)⟩
    have i2 : Pk X.K B1 (upd H1 tp (.tup [.ty m, .ty n])) v y := by
      cases i1 with
      | fz i => exact .fz i
      | ol h t => exact .ol (g.h _ _ h) t
      | dk h t => exact .dk (g.h _ _ h) t
    exact i2.ty g.bh⟩
theorem pe_tyname {T : Str} {n : String} {p : Pos} (hm : X.mg T = none) (hg : Gl X T := by rfl) (hv : bootBuiltins T = some (.type n) := by decide +kernel) (hn : T ≠ "__name__" := by decide) (hd : (T == ("__debug__" : Str)) = false := by decide) : PE X (.Name T p) (tC (.ty n)) :=
  pe_bltn hg hm hv rfl hn hd
end
end GL
/-! Statements. -/
namespace GL
open PySem L2

inductive Fl where
  | nx (e : LEnv)
  | rt (d : D) (e : LEnv)
  | bk (e : LEnv)
  | ct (e : LEnv)
abbrev SemS := LEnv → Option Fl
def FlOk (K : PySem.W.Frag) (P : List (Nat × Addr)) (B0 F : Hp) (Z : Ends) : Fl → Prop
  | .nx e => ∀ σ B H, EnvOk K P B0 F B H e σ → Z.nx σ H
  | .rt d e => ∀ v σ B H, EnvOk K P B0 F B H e σ → Is K B v d → Z.rt v H
  | .bk e => ∀ σ B H, EnvOk K P B0 F B H e σ → Z.bk σ H
  | .ct e => ∀ σ B H, EnvOk K P B0 F B H e σ → Z.ct σ H
def Gs (K : PySem.W.Frag) (ts : TS) (f : SemS) : Prop := ∀ (P : List (Nat × Addr)) (B0 F B H : Hp) (env : LEnv) (σ : L2.St) (r : Fl), EnvOk K P B0 F B H env σ → f env = some r →
  ∀ Z : Ends, FlOk K P B0 F Z r → ts Z σ H
structure GS (X : Cx) (st : Stmt) (ts : TS) (f : SemS) : Prop where
  ps : PS X st ts
  gs : Gs X.K ts f
structure GSs (X : Cx) (st : List Stmt) (ts : TS) (f : SemS) : Prop where
  ps : PSs X st ts
  gs : Gs X.K ts f

/-! ### meanings -/
def noRow (env : LEnv) (i : Nat) : Bool := match env[i]? with
  | some (.row _) => false
  | some (.ln _) => false
  | none => false
  | _ => true
def sNext : SemS := fun env => some (.nx env)
def sSeq (f g : SemS) : SemS := fun env => (f env).bind fun r => match r with
  | .nx e => g e
  | r => some r
def sRet (f : Sem) : SemS := fun env => (f env).map fun p => .rt p.1 p.2
def sRetN : SemS := fun env => some (.rt .none env)
def sExpr (f : Sem) : SemS := fun env => (f env).map fun p => .nx p.2
def sAsg (i : Nat) (f : Sem) : SemS := fun env => (f env).bind fun p => if noRow p.2 i = true then some (.nx (p.2.set i (.val p.1))) else none
def sIf (t : SemB) (f g : SemS) : SemS := fun env => (t env).bind fun p => if p.1 = true then f p.2 else g p.2
def sNever : SemS := fun _ => none

theorem noRow_ne {env : LEnv} {i : Nat} (h : noRow env i = true) : ∀ st, env[i]? = some st → isLent st = false := fun st e => by
  unfold noRow at h
  rw [e] at h
  cases st <;> first | rfl | cases h
section
variable {X : Cx}
theorem gss_nil : GSs X [] tNext sNext := ⟨pss_nil, fun P B0 F B H env σ r E hf Z q => by
  cases hf
  exact q σ B H E⟩
theorem Gs.seq {K : PySem.W.Frag} {t u : TS} {f g : SemS} (h : Gs K t f) (h' : Gs K u g) : Gs K (tSeq t u) (sSeq f g) := fun P B0 F B H env σ r E hf Z q => by
  obtain ⟨r1, h1, h2⟩ := Option.bind_eq_some_iff.mp hf
  refine h P B0 F B H env σ r1 E h1 _ ?_
  cases r1 with
  | nx e => exact fun σ' B' H' E' => h' P B0 F B' H' e σ' r E' h2 Z q
  | rt d e => cases h2; exact q
  | bk e => cases h2; exact q
  | ct e => cases h2; exact q
theorem gss_cons {st : Stmt} {rest : List Stmt} {t u : TS} {f g : SemS} (h : GS X st t f) (h' : GSs X rest u g) : GSs X (st :: rest) (tSeq t u) (sSeq f g) := ⟨pss_cons h.ps h'.ps, Gs.seq h.gs h'.gs⟩
theorem gss_one {st : Stmt} {t : TS} {f : SemS} (h : GS X st t f) : GSs X [st] t f := ⟨pss_one h.ps, h.gs⟩
theorem gs_ret {e : Expr} {pos : Pos} {te : TE} {f : Sem} (h : GE X e te f) : GS X (.Return (some e) pos) (tRet te) (sRet f) := ⟨ps_ret h.pe, fun P B0 F B H env σ r E hf Z q => by
  obtain ⟨⟨d, e1⟩, h1, h2⟩ := Option.map_eq_some_iff.mp hf
  subst h2
  exact h.ge P B0 F B H env σ d e1 E h1 _ fun v B' H' E' s i => q v σ B' H' E' i⟩
theorem gs_retN {pos : Pos} : GS X (.Return none pos) tRetN sRetN := ⟨ps_retN, fun P B0 F B H env σ r E hf Z q => by
  cases hf
  exact q .non σ B H E .non⟩
theorem gs_expr {e : Expr} {pos : Pos} {te : TE} {f : Sem} (h : GE X e te f) (hs : swapsWith e none pos.line X.env = pure false := by rfl) : GS X (.Expr e pos) (tDrop te) (sExpr f) := ⟨ps_expr h.pe hs, fun P B0 F B H env σ r E hf Z q => by
  obtain ⟨⟨d, e1⟩, h1, h2⟩ := Option.map_eq_some_iff.mp hf
  subst h2
  exact h.ge P B0 F B H env σ d e1 E h1 _ fun v B' H' E' s i => q σ B' H' E'⟩
theorem gs_doc {x j pos pos'} : GS X (.Expr (.Constant (.str x) j pos) pos') tNext sNext := ⟨ps_doc, gss_nil.gs⟩
theorem gs_never {st : Stmt} : GS X st tNever sNever := ⟨ps_never, fun _ _ _ _ _ _ _ _ _ hf => nomatch hf⟩
theorem Gs.asg {K : PySem.W.Frag} {i : Nat} {te : TE} {f : Sem} (h : Ge K te f) : Gs K (tAsg te (gName i)) (sAsg i f) := fun P B0 F B H env σ r E hf Z q => by
  obtain ⟨⟨d, e1⟩, h1, h2⟩ := Option.bind_eq_some_iff.mp hf
  dsimp only at h2
  split at h2
  · rename_i hz
    cases h2
    exact h P B0 F B H env σ d e1 E h1 _ fun v B' H' E' s iv => q _ B' H' (E'.setV iv (noRow_ne hz))
  · cases h2
theorem gs_set {i : Nat} {x : Str} {e : Expr} {pos pos' : Pos} {te : TE} {f : Sem} (hN : X.N.Nodup) (h : GE X e te f) (hi : X.N[i]? = some x := by rfl) (hx : Loc X.env.scope x := by first | exact .inl rfl | exact .inr rfl) (hs : swapsWith e (some (.Name x pos')) pos.line X.env = pure false := by rfl)
    (hf : X.fn x = true ∨ X.env.scope.names.lookup x = some .local := by first | exact .inl rfl | exact .inr rfl) : GS X (.Assign [.Name x pos'] e pos) (tAsg te (gName i)) (sAsg i f) := ⟨ps_set hN hi hx h.pe hs hf, Gs.asg h.ge⟩
theorem gs_if {c : Expr} {a b : List Stmt} {pos : Pos} {t : TT} {u w : TS} {f : SemB} {g k : SemS} (hc : GT X c t f) (ha : GSs X a u g) (hb : GSs X b w k) : GS X (.If c a b pos) (tIfS t u w) (sIf f g k) := ⟨ps_if hc.pt ha.ps hb.ps, fun P B0 F B H env σ r E hf Z q => by
  obtain ⟨⟨x, e1⟩, h1, h2⟩ := Option.bind_eq_some_iff.mp hf
  refine hc.gt P B0 F B H env σ x e1 E h1 _ fun B' H' E' s' => ?_
  cases x with
  | true => exact iteT (ha.gs P B0 F B' H' e1 σ r E' h2 Z q)
  | false => exact iteF (hb.gs P B0 F B' H' e1 σ r E' h2 Z q)⟩
theorem gs_pass {pos : Pos} : GS X (.Pass pos) tNext sNext := ⟨ps_pass, gss_nil.gs⟩

/-! ### targets -/
abbrev SemG := D → LEnv → Option LEnv
/-- the slots but ws are as they were -/
def Off (ws : List Nat) (σ σ' : L2.St) : Prop := σ'.length = σ.length ∧ ∀ j : Nat, j ∉ ws → σ'[j]? = σ[j]?
def Gg (K : PySem.W.Frag) (g : TG) (f : SemG) (ws : List Nat) : Prop := ∀ (P : List (Nat × Addr)) (B0 F B H : Hp) (env : LEnv) (σ : L2.St) (v : V) (d : D) (env' : LEnv), EnvOk K P B0 F B H env σ → Is K B v d → f d env = some env' →
  ∀ Q : L2.St → Hp → Prop, (∀ σ', EnvOk K P B0 F B H env' σ' → Off ws σ σ' → Q σ' H) → g v σ H Q
def tgName (i : Nat) : SemG := fun d env => if noRow env i = true then some (env.set i (.val d)) else none
structure GG (X : Cx) (e : Expr) (g : TG) (f : SemG) (ws : List Nat) : Prop where
  pg : PG X e g
  gg : Gg X.K g f ws
theorem Gg.name {K : PySem.W.Frag} {i : Nat} : Gg K (gName i) (tgName i) [i] := fun P B0 F B H env σ v d env' E iv hf Q q => by
  unfold tgName at hf
  split at hf
  · rename_i hz
    cases hf
    exact q _ (E.setV iv (noRow_ne hz)) ⟨List.length_set .., fun j hj => List.getElem?_set_ne (fun e => hj (by rw [e]; exact List.mem_singleton.mpr rfl))⟩
  · cases hf
theorem gg_name {i : Nat} {x : Str} {pos : Pos} (hN : X.N.Nodup) (hi : X.N[i]? = some x := by rfl) (hx : Loc X.env.scope x := by first | exact .inl rfl | exact .inr rfl) (hf : X.fn x = true ∨ X.env.scope.names.lookup x = some .local := by first | exact .inl rfl | exact .inr rfl) :
    GG X (.Name x pos) (gName i) (tgName i) [i] := ⟨pg_name hN hi hx hf, Gg.name⟩
abbrev SemGs := List D → LEnv → Option LEnv
def Ggs (K : PySem.W.Frag) (g : TGs) (f : SemGs) (ws : List Nat) : Prop := ∀ (P : List (Nat × Addr)) (B0 F B H : Hp) (env : LEnv) (σ : L2.St) (vs : List V) (ds : List D) (env' : LEnv), EnvOk K P B0 F B H env σ → IsAll K B vs ds → f ds env = some env' →
  ∀ Q : L2.St → Hp → Prop, (∀ σ', EnvOk K P B0 F B H env' σ' → Off ws σ σ' → Q σ' H) → g vs σ H Q
structure GGs (X : Cx) (es : List Expr) (g : TGs) (f : SemGs) (ws : List Nat) : Prop where
  pg : PGs X es g
  gg : Ggs X.K g f ws
def tgNil : SemGs := fun ds env => match ds with
  | [] => some env
  | _ => none
def tgCons (f : SemG) (r : SemGs) : SemGs := fun ds env => match ds with
  | [] => none
  | d :: ds => (f d env).bind fun e => r ds e
theorem ggs_nil : GGs X [] gNil tgNil [] := ⟨pgs_nil, fun P B0 F B H env σ vs ds env' E iv hf Q q => by
  cases ds with
  | nil => cases iv; cases hf; exact ⟨rfl, q σ E ⟨rfl, fun _ _ => rfl⟩⟩
  | cons _ _ => cases hf⟩
theorem ggs_cons {e : Expr} {es : List Expr} {t : TG} {u : TGs} {f : SemG} {r : SemGs} {ws zs : List Nat} (h : GG X e t f ws) (h' : GGs X es u r zs) (hs : (assignEach (e :: es) X.env).map (·.2) = assign e X.env :: (assignEach es X.env).map (·.2) := by rfl) : GGs X (e :: es) (gCons t u) (tgCons f r) (ws ++ zs) := ⟨pgs_cons h.pg h'.pg hs, fun P B0 F B H env σ vs ds env' E iv hf Q q => by
  cases ds with
  | nil => cases hf
  | cons d ds =>
    cases iv with
    | cons i1 i2 =>
      obtain ⟨e1, h1, h2⟩ := Option.bind_eq_some_iff.mp hf
      exact ⟨_, _, rfl, h.gg P B0 F B H env σ _ d e1 E i1 h1 _ fun σ' E' o1 => h'.gg P B0 F B H e1 σ' _ ds env' E' i2 h2 Q fun σ2 E2 o2 => q σ2 E2 ⟨o2.1.trans o1.1, fun j hj => (o2.2 j fun m => hj (List.mem_append_right _ m)).trans (o1.2 j fun m => hj (List.mem_append_left _ m))⟩⟩⟩
def tgTup (n : Nat) (r : SemGs) : SemG := fun d env => match d with
  | .tuple ds => if ds.length = n then r ds env else none
  | _ => none
def tgUnl (n : Nat) (r : SemGs) : SemG := fun d env => match d with
  | .list ds => if ds.length = n then r ds env else none
  | _ => none
theorem Gg.tup {K : PySem.W.Frag} {n : Nat} {t : TGs} {r : SemGs} {ws : List Nat} (h : Ggs K t r ws) : Gg K (gTup K n t) (tgTup n r) ws := fun P B0 F B H env σ v d env' E iv hf Q q => by
  cases d with
  | tuple ds =>
    dsimp only [tgTup] at hf
    split at hf
    · rename_i hz
      cases iv with
      | tup ha hl => exact ⟨_, _, rfl, ha.sq E.bh, by rw [hl.len]; exact hz, h P B0 F B H env σ _ ds env' E hl hf Q q⟩
    · cases hf
  | _ => cases hf
theorem Gg.unl {K : PySem.W.Frag} {n : Nat} {t : TGs} {r : SemGs} {ws : List Nat} (h : Ggs K t r ws) : Gg K (gUnl K n t) (tgUnl n r) ws := fun P B0 F B H env σ v d env' E iv hf Q q => by
  cases d with
  | list ds =>
    dsimp only [tgUnl] at hf
    split at hf
    · rename_i hz
      cases iv with
      | lst ha hl => exact ⟨_, _, rfl, SqL.of (E.bh _ _ ha), by rw [hl.len]; exact hz, h P B0 F B H env σ _ ds env' E hl hf Q q⟩
    · cases hf
  | _ => cases hf
theorem gg_tup {es : List Expr} {k : Nat} {t : TGs} {n : Nat} {pos : Pos} {r : SemGs} {ws : List Nat} (hc : X.calm = true) (h : GGs X es t r ws) (hn : (assignEach es X.env).length = n := by rfl) (hst : (assignEach es X.env).findIdx? (·.1) = none := by rfl) : GG X (.Tuple es k pos) (gTup X.K n t) (tgTup n r) ws :=
  ⟨pg_tup hc h.pg hn hst, Gg.tup h.gg⟩
theorem gg_unl {es : List Expr} {k : Nat} {t : TGs} {n : Nat} {pos : Pos} {r : SemGs} {ws : List Nat} (hc : X.calm = true) (h : GGs X es t r ws) (hn : (assignEach es X.env).length = n := by rfl) (hst : (assignEach es X.env).findIdx? (·.1) = none := by rfl) : GG X (.Tuple es k pos) (gUnl X.K n t) (tgUnl n r) ws :=
  ⟨pg_unl hc h.pg hn hst, Gg.unl h.gg⟩
def sTarget (f : Sem) (g : SemG) : SemS := fun env => (f env).bind fun p => (g p.1 p.2).map .nx
theorem gs_asg {tg e : Expr} {pos : Pos} {te : TE} {g : TG} {f : Sem} {fg : SemG} {ws : List Nat} (he : GE X e te f) (hg : GG X tg g fg ws) (hs : swapsWithSole [tg] e pos.line X.env = pure false := by rfl) (hw : swappedStores [tg] e X.env = pure none := by rfl) (h1 : (assignEach [tg] X.env).map (·.2) = [assign tg X.env] := by rfl) : GS X (.Assign [tg] e pos) (tAsg te g) (sTarget f fg) :=
  ⟨ps_asg he.pe hg.pg hs hw h1, fun P B0 F B H env σ r E hf Z q => by
    obtain ⟨⟨d, e1⟩, h1, h2⟩ := Option.bind_eq_some_iff.mp hf
    obtain ⟨e2, h3, h4⟩ := Option.map_eq_some_iff.mp h2
    subst h4
    exact he.ge P B0 F B H env σ d e1 E h1 _ fun v B' H' E' s iv => hg.gg P B0 F B' H' e1 σ v d e2 E' iv h3 _ fun σ' E2 _ => q σ' B' H' E2⟩

/-! ### while -/
def sWhile (c : SemB) (b : SemS) : Nat → SemS
  | 0 => fun _ => none
  | n + 1 => fun env => (c env).bind fun p => if p.1 = true then (b p.2).bind fun r => match r with
      | .nx e => sWhile c b n e
      | .ct e => sWhile c b n e
      | .bk e => some (.nx e)
      | .rt d e => some (.rt d e)
    else some (.nx p.2)
theorem Gs.while_ {K : PySem.W.Frag} {t : TT} {u : TS} {c : SemB} {b : SemS} (hc : Gt K t c) (hb : Gs K u b) (n : Nat) : Gs K (tWhile t u) (sWhile c b n) := fun P B0 F B H env σ r E hf Z q => by
  refine ⟨fun m σ H => ∃ B env, EnvOk K P B0 F B H env σ ∧ sWhile c b m env = some r, ⟨n, B, env, E, hf⟩, ?_⟩
  rintro m σ' H' ⟨B', env', E', hf'⟩
  cases m with
  | zero => cases hf'
  | succ m =>
    obtain ⟨⟨x, e1⟩, h1, h2⟩ := Option.bind_eq_some_iff.mp hf'
    refine hc P B0 F B' H' env' σ' x e1 E' h1 _ fun B2 H2 E2 s2 => ?_
    cases x with
    | false =>
      cases h2
      exact q _ _ _ E2
    | true =>
      obtain ⟨r1, h3, h4⟩ := Option.bind_eq_some_iff.mp h2
      refine ⟨fun σ3 H3 => ∃ m', m' < m + 1 ∧ ∃ B env, EnvOk K P B0 F B H3 env σ3 ∧ sWhile c b m' env = some r, fun σ3 H3 h => h, hb P B0 F B2 H2 e1 σ' r1 E2 h3 _ ?_⟩
      cases r1 with
      | nx e => exact fun σ3 B3 H3 E3 => ⟨m, Nat.lt_succ_self _, B3, e, E3, h4⟩
      | ct e => exact fun σ3 B3 H3 E3 => ⟨m, Nat.lt_succ_self _, B3, e, E3, h4⟩
      | bk e => cases h4; exact q
      | rt d e => cases h4; exact q
theorem gs_while {c : Expr} {body : List Stmt} {pos : Pos} {t : TT} {u : TS} {f : SemB} {b : SemS} (n : Nat) (hp : PassesOwn (model X.prog X.w) X.A X.env X.xe) (hc : GT X c t f) (hb : GSs X body u b) : GS X (.While c body [] pos) (tWhile t u) (sWhile f b n) :=
  ⟨ps_while hp hc.pt hb.ps, Gs.while_ hc.gt hb.gs n⟩
end
end GL
/-! What is walked: for, comprehensions. -/
namespace GL
open PySem L2 RZ

theorem EnvOk.rebase {K : PySem.W.Frag} {P : List (Nat × Addr)} {B0 F B H : Hp} {env : LEnv} {σ : L2.St} (E : EnvOk K P B0 F B H env σ) : EnvOk K P B F B H env σ := { E with b0 := Same.refl _ }
theorem EnvOk.back {K : PySem.W.Frag} {P : List (Nat × Addr)} {B0 B1 F B H : Hp} {env : LEnv} {σ : L2.St} (E : EnvOk K P B1 F B H env σ) (e : Same B0 B1) : EnvOk K P B0 F B H env σ := { E with b0 := e.trans E.b0 }
structure ItOk (K : PySem.W.Frag) (J : It) (ds : List D) (B : Hp) : Prop where
  go : ∀ (i : Nat) (B' H' : Hp), Same B B' → Same B' H' → i < ds.length → J.go i H'
  stop : ∀ (i : Nat) (B' H' : Hp), Same B B' → Same B' H' → ds.length ≤ i → J.stop i H'
  yld : ∀ (i : Nat) (B' H' H2 : Hp) (x : V) (d : D), Same B B' → Same B' H' → ds[i]? = some d → J.yld i H' x H2 → ∃ B2, Grow B' H' B2 H2 ∧ Is K B2 x d
theorem ItOk.up {K : PySem.W.Frag} {J : It} {ds : List D} {B B1 : Hp} (h : ItOk K J ds B) (e : Same B B1) : ItOk K J ds B1 :=
  ⟨fun i B' H' a b l => h.go i B' H' (e.trans a) b l, fun i B' H' a b l => h.stop i B' H' (e.trans a) b l, fun i B' H' H2 x d a b l y => h.yld i B' H' H2 x d (e.trans a) b l y⟩
def Gi (K : PySem.W.Frag) (wi : TI) (f : SemL) : Prop := ∀ (P : List (Nat × Addr)) (B0 F B H : Hp) (env : LEnv) (σ : L2.St) (ds : List D) (env' : LEnv), EnvOk K P B0 F B H env σ → f env = some (ds, env') →
  ∀ R : It → Hp → Prop, (∀ J B' H', EnvOk K P B0 F B' H' env' σ → Same B B' → ItOk K J ds B' → R J H') → wi σ H R
structure GI (X : Cx) (tg it : Expr) (wi : TI) (f : SemL) : Prop where
  pi : PI X tg it wi
  gi : Gi X.K wi f
theorem it_list {K : PySem.W.Frag} {a : Addr} {vs : List V} {ds : List D} {B : Hp} (h : B a = some (.lst vs)) (hl : IsAll K B vs ds) : ItOk K (Itl K a) ds B where
  go := fun i B' H' e1 e2 hi => ⟨vs, vs[i]'(by rw [hl.len]; exact hi), SqL.of (e2 _ _ (e1 _ _ h)), List.getElem?_eq_getElem _⟩
  stop := fun i B' H' e1 e2 hi => ⟨vs, SqL.of (e2 _ _ (e1 _ _ h)), by rw [hl.len]; exact hi⟩
  yld := fun i B' H' H2 x d e1 e2 hd y => by
    obtain ⟨e, y⟩ := y
    subst e
    obtain ⟨v, h1, h2⟩ := hl.get hd
    have e := y vs (SqL.of (e2 _ _ (e1 _ _ h)))
    rw [h1] at e
    cases e
    exact ⟨B', .refl e2, h2.up e1⟩
theorem it_tup {K : PySem.W.Frag} {a : Addr} {vs : List V} {ds : List D} {B : Hp} (h : TupAt B a vs) (hl : IsAll K B vs ds) : ItOk K (Itt K a) ds B where
  go := fun i B' H' e1 e2 hi => ⟨vs, vs[i]'(by rw [hl.len]; exact hi), (h.up e1).sq e2, List.getElem?_eq_getElem _⟩
  stop := fun i B' H' e1 e2 hi => ⟨vs, (h.up e1).sq e2, by rw [hl.len]; exact hi⟩
  yld := fun i B' H' H2 x d e1 e2 hd y => by
    obtain ⟨e, y⟩ := y
    subst e
    obtain ⟨v, h1, h2⟩ := hl.get hd
    have e := y vs ((h.up e1).sq e2)
    rw [h1] at e
    cases e
    exact ⟨B', .refl e2, h2.up e1⟩
def rangeD (lo : Int) (n : Nat) : List D := (List.range n).map fun i => .int (lo + (i : Nat))
theorem it_range {K : PySem.W.Frag} {lo : Int} {n : Nat} {B : Hp} : ItOk K (Itr lo n) (rangeD lo n) B where
  go := fun i B' H' e1 e2 hi => by
    show i < n
    simpa [rangeD] using hi
  stop := fun i B' H' e1 e2 hi => by
    show n ≤ i
    simpa [rangeD] using hi
  yld := fun i B' H' H2 x d e1 e2 hd y => by
    obtain ⟨e, y⟩ := y
    subst e y
    unfold rangeD at hd
    rw [List.getElem?_map] at hd
    obtain ⟨j, h1, h2⟩ := Option.map_eq_some_iff.mp hd
    have h3 : j = i := by
      have := List.getElem?_eq_some_iff.mp h1
      obtain ⟨hh, q⟩ := this
      rw [List.getElem_range] at q
      exact q.symm
    subst h3 h2
    exact ⟨B', .refl e2, .int _⟩

/-! ### a list or a tuple -/
def iSeq (K : PySem.W.Frag) (tl : TE) : TI := fun σ H R => tl σ H fun x H1 => ∃ a, x = .ref a ∧ (((∃ xs, SqL K H1 a xs) ∧ R (Itl K a) H1) ∨ ((∃ xs, SqT K H1 a xs) ∧ R (Itt K a) H1))
def itemsD : D → Option (List D)
  | .list ds => some ds
  | .tuple ds => some ds
  | _ => none
def fItems (f : Sem) : SemL := fun env => (f env).bind fun p => (itemsD p.1).map fun ds => (ds, p.2)
section
variable {X : Cx} {tg : Expr}
theorem pi_seq {l : Expr} {tl : TE} (hl : PE X l tl) : PI X tg l (iSeq X.K tl) := by
  refine ⟨fun pn st sg hp R inv hw => ?_⟩
  refine thn (hl.run pn st sg hp _ inv hw) fun v s1 ⟨x, H1, I1, r1, q1⟩ => ?_
  obtain ⟨a, ex, q1⟩ := q1
  subst ex
  cases r1
  have ff : ∀ b, b ∈ [s1.heap.objs.size] → FpOk X pn H1 b := fun b hb => by
    rw [List.mem_singleton.mp hb]
    exact I1.fpOk (Nat.le_refl _) (I1.hok.fresh (Nat.le_refl _))
  rcases q1 with ⟨⟨xs, hq⟩, q⟩ | ⟨⟨xs, hq⟩, q⟩
  · obtain ⟨its, _, p, _⟩ := I1.list hq
    exact wpAny_pyIter_list p.isList ⟨_, [_], _, _, H1, rfl, I1.kept (t' := s1.toks) fun b o z => Heap.get?_push_of_some _ z, turn_list a _, ⟨_, Heap.get?_push_size _ rfl, rfl, rfl⟩, ff, q⟩
  · obtain ⟨its, _, p, _⟩ := I1.tuple hq
    exact wpAny_pyIter_tuple (show s1.heap.IsTuple a its.toArray from p) ⟨_, [_], _, _, H1, rfl, I1.kept (t' := s1.toks) fun b o z => Heap.get?_push_of_some _ z, turn_tuple a _, ⟨_, Heap.get?_push_size _ rfl, rfl, rfl⟩, ff, q⟩
theorem gi_seq {l : Expr} {tl : TE} {f : Sem} (h : GE X l tl f) : GI X tg l (iSeq X.K tl) (fItems f) := ⟨pi_seq h.pe, fun P B0 F B H env σ ds env' E hf R q => by
  obtain ⟨⟨d, e1⟩, h1, h2⟩ := Option.bind_eq_some_iff.mp hf
  obtain ⟨ds', h3, h4⟩ := Option.map_eq_some_iff.mp h2
  cases h4
  refine h.ge P B0 F B H env σ d _ E h1 _ fun v B' H' E' s iv => ?_
  cases d with
  | list es =>
    cases h3
    cases iv with
    | lst ha hl => exact ⟨_, rfl, .inl ⟨⟨_, SqL.of (E'.bh _ _ ha)⟩, q _ B' H' E' s (it_list ha hl)⟩⟩
  | tuple es =>
    cases h3
    cases iv with
    | tup ha hl => exact ⟨_, rfl, .inr ⟨⟨_, ha.sq E'.bh⟩, q _ B' H' E' s (it_tup ha hl)⟩⟩
  | _ => cases h3⟩
/-! ### ranges -/
def fRange1 (a : Sem) : SemL := fun env => (a env).bind fun p => match p.1 with
  | .int n => if -1000000 ≤ n ∧ n ≤ 1000000 then some (rangeD 0 n.toNat, p.2) else none
  | _ => none
def fRange2 (a b : Sem) : SemL := fun env => (a env).bind fun p => (b p.2).bind fun q => match p.1, q.1 with
  | .int m, .int n => if -1000000 ≤ m ∧ m ≤ 1000000 ∧ -1000000 ≤ n ∧ n ≤ 1000000 then some (rangeD m (n - m).toNat, q.2) else none
  | _, _ => none
theorem gi_range1 {a : Expr} {ta : TE} {fa : Sem} {p pos : Pos} (hm : X.mg "range" = none) (ha : GE X a ta fa) (hg : Gl X "range" := by rfl) (hs : starEach [a] X.env = [(false, eval a X.env)] := by rfl) (hs' : starEach [a] X.env = (false, eval a X.env) :: starEach [] X.env := by rfl) :
    GI X tg (.Call (.Name "range" p) [a] [] pos) (iRng1 (tCons ta tNil)) (fRange1 fa) := ⟨pi_range1 hg hm (pa_cons ha.pe pa_nil hs') hs, fun P B0 F B H env σ ds env' E hf R q => by
  obtain ⟨⟨d, e1⟩, h1, h2⟩ := Option.bind_eq_some_iff.mp hf
  cases d with
  | int n =>
    dsimp only at h2
    split at h2
    · rename_i hz
      cases h2
      refine ha.ge P B0 F B H env σ _ _ E h1 _ fun v B' H' E' s iv => ?_
      cases iv
      exact ⟨n, rfl, by omega, by omega, q _ B' H' E' s it_range⟩
    · cases h2
  | _ => cases h2⟩
theorem gi_range2 {a b : Expr} {ta tb : TE} {fa fb : Sem} {p pos : Pos} (hm : X.mg "range" = none) (ha : GE X a ta fa) (hb : GE X b tb fb) (hg : Gl X "range" := by rfl) (hs : starEach [a, b] X.env = [(false, eval a X.env), (false, eval b X.env)] := by rfl) (hs2 : starEach [b] X.env = [(false, eval b X.env)] := by rfl)
    (hs' : starEach [a, b] X.env = (false, eval a X.env) :: starEach [b] X.env := by rfl) (hs'' : starEach [b] X.env = (false, eval b X.env) :: starEach [] X.env := by rfl) :
    GI X tg (.Call (.Name "range" p) [a, b] [] pos) (iRng2 (tCons ta (tCons tb tNil))) (fRange2 fa fb) := ⟨pi_range2 hg hm (pa_cons ha.pe (pa_cons hb.pe pa_nil hs'') hs') hs hs2, fun P B0 F B H env σ ds env' E hf R q => by
  obtain ⟨⟨d, e1⟩, h1, h2⟩ := Option.bind_eq_some_iff.mp hf
  obtain ⟨⟨d2, e2⟩, h3, h4⟩ := Option.bind_eq_some_iff.mp h2
  cases d with
  | int m =>
    cases d2 with
    | int n =>
      dsimp only at h4
      split at h4
      · rename_i hz
        cases h4
        refine ha.ge P B0 F B H env σ _ _ E h1 _ fun v B' H' E' s iv => ?_
        cases iv
        refine hb.ge P B0 F B' H' e1 σ _ _ E' h3 _ fun v B2 H2 E2 s2 iv2 => ?_
        cases iv2
        exact ⟨m, n, rfl, ⟨by omega, by omega, by omega, by omega⟩, q _ B2 H2 E2 (s.trans s2) it_range⟩
      · cases h4
    | _ => cases h4
  | _ => cases h4⟩
/-! ### zip of two tuples or two lists -/
def zipD (xs ys : List D) : List D := (xs.zip ys).map fun p => .tuple [p.1, p.2]
def fZip (a b : Sem) : SemL := fun env => (a env).bind fun p => (b p.2).bind fun q => match p.1, q.1 with
  | .tuple xs, .tuple ys => if hasNd xs = false ∧ hasNd ys = false then some (zipD xs ys, q.2) else none
  | _, _ => none
theorem zip_get {xs ys : List D} {i : Nat} {d : D} (h : (zipD xs ys)[i]? = some d) : ∃ x y, xs[i]? = some x ∧ ys[i]? = some y ∧ d = .tuple [x, y] := by
  unfold zipD at h
  rw [List.getElem?_map] at h
  obtain ⟨p, h1, h2⟩ := Option.map_eq_some_iff.mp h
  rw [List.getElem?_zip_eq_some] at h1
  exact ⟨p.1, p.2, h1.1, h1.2, h2.symm⟩
theorem zip_len (xs ys : List D) : (zipD xs ys).length = min xs.length ys.length := by simp [zipD]
theorem it_zip {K : PySem.W.Frag} {a b : Addr} {vs ws : List V} {xs ys : List D} {B : Hp} (ha : TupAt B a vs) (hb : TupAt B b ws) (il : IsAll K B vs xs) (im : IsAll K B ws ys) (nx : hasNd xs = false) (ny : hasNd ys = false) : ItOk K (ItzT K a b) (zipD xs ys) B where
  go := fun i B' H' e1 e2 hi => by
    rw [zip_len] at hi
    exact ⟨vs, ws, vs[i]'(by rw [il.len]; omega), ws[i]'(by rw [im.len]; omega), (ha.up e1).sq e2, (hb.up e1).sq e2, List.getElem?_eq_getElem _, List.getElem?_eq_getElem _⟩
  stop := fun i B' H' e1 e2 hi => by
    rw [zip_len] at hi
    refine ⟨vs, ws, (ha.up e1).sq e2, (hb.up e1).sq e2, ?_⟩
    rw [il.len, im.len]
    omega
  yld := fun i B' H' H2 x d e1 e2 hd y => by
    obtain ⟨T, x1, y1, ex, hT, eH, y2, y3⟩ := y
    subst ex eH
    obtain ⟨p, q, h1, h2, h3⟩ := zip_get hd
    subst h3
    obtain ⟨v, g1, g2⟩ := il.get h1
    obtain ⟨w, g3, g4⟩ := im.get h2
    have z1 := y2 vs ((ha.up e1).sq e2)
    have z2 := y3 ws ((hb.up e1).sq e2)
    rw [g1] at z1
    rw [g3] at z2
    cases z1
    cases z2
    have g := Grow.new (o := .tup [x1, y1]) e2 hT
    exact ⟨_, g, .tup (.of upd_same (hasN_two (hasN_get (by rw [il.hasN]; exact nx) g1) (hasN_get (by rw [im.hasN]; exact ny) g3))) (.cons ((g2.up e1).up g.b) (.cons ((g4.up e1).up g.b) .nil))⟩
theorem gi_zip {a b : Expr} {ta tb : TE} {fa fb : Sem} {p pos tpos : Pos} {elts : List Expr} {kk : Nat} (hm : X.mg "zip" = none) (ha : GE X a ta fa) (hb : GE X b tb fb) (hg : Gl X "zip" := by rfl) (hs : starEach [a, b] X.env = (false, eval a X.env) :: starEach [b] X.env := by rfl)
    (hs2 : starEach [b] X.env = (false, eval b X.env) :: starEach [] X.env := by rfl) (hpl : (backTo pos (starEach [b] X.env)).any (·.1) = false := by rfl) :
    GI X (.Tuple elts kk tpos) (.Call (.Name "zip" p) [a, b] [] pos) (iZipA X.K (tCons ta (tCons tb tNil))) (fZip fa fb) := ⟨pi_zipA hg hm (pa_cons ha.pe (pa_cons hb.pe pa_nil hs2) hs) hs hpl, fun P B0 F B H env σ ds env' E hf R q => by
  obtain ⟨⟨d, e1⟩, h1, h2⟩ := Option.bind_eq_some_iff.mp hf
  obtain ⟨⟨d2, e2⟩, h3, h4⟩ := Option.bind_eq_some_iff.mp h2
  cases d with
  | tuple xs =>
    cases d2 with
    | tuple ys =>
      dsimp only at h4
      split at h4
      case isFalse => cases h4
      rename_i hn
      cases h4
      refine ha.ge P B0 F B H env σ _ _ E h1 _ fun v B' H' E' s iv => ?_
      cases iv with
      | @tup a' vs _ ha' hl =>
        refine hb.ge P B0 F B' H' e1 σ _ _ E' h3 _ fun v B2 H2 E2 s2 iv2 => ?_
        cases iv2 with
        | @tup b' ws _ hb' hl' =>
          exact ⟨a', b', vs, ws, rfl, .inr ⟨(ha'.up s2).sq E2.bh, hb'.sq E2.bh, q _ B2 H2 E2 (s.trans s2) (it_zip (ha'.up s2) hb' (hl.up s2) hl' hn.1 hn.2)⟩⟩
    | _ => cases h4
  | _ => cases h4⟩
end

/-! ### for -/
def sForL (g : SemG) (b : SemS) : List D → SemS
  | [] => fun env => some (.nx env)
  | d :: ds => fun env => (g d env).bind fun e1 => (b e1).bind fun r => match r with
    | .nx e => sForL g b ds e
    | .ct e => sForL g b ds e
    | .bk e => some (.nx e)
    | .rt d e => some (.rt d e)
def sFor (fi : SemL) (g : SemG) (b : SemS) : SemS := fun env => (fi env).bind fun p => sForL g b p.1 p.2
theorem Gs.for_ {K : PySem.W.Frag} {wi : TI} {g : TG} {tb : TS} {fi : SemL} {fg : SemG} {b : SemS} {ws : List Nat} (hi : Gi K wi fi) (hg : Gg K g fg ws) (hb : Gs K tb b) : Gs K (tFor wi g tb) (sFor fi fg b) := fun P B0 F B H env σ r E hf Z q => by
  obtain ⟨⟨ds, e1⟩, h1, h2⟩ := Option.bind_eq_some_iff.mp hf
  refine hi P B0 F B H env σ ds e1 E h1 _ fun J Bj H' E' s hJ => ?_
  refine ⟨fun i m σ H => m = ds.length - i ∧ i ≤ ds.length ∧ ∃ B env, EnvOk K P B0 F B H env σ ∧ Same Bj B ∧ sForL fg b (ds.drop i) env = some r, ⟨_, rfl, Nat.zero_le _, Bj, e1, E', Same.refl _, h2⟩, ?_⟩
  rintro i m σ1 H1 ⟨rfl, hle, B1, env1, E1, sB, hf1⟩
  by_cases hlt : i < ds.length
  · refine .inr ⟨hJ.go i B1 H1 sB E1.bh hlt, fun σ2 H2 => ∃ m', m' < ds.length - i ∧ (m' = ds.length - (i + 1) ∧ i + 1 ≤ ds.length ∧ ∃ B env, EnvOk K P B0 F B H2 env σ2 ∧ Same Bj B ∧ sForL fg b (ds.drop (i + 1)) env = some r), fun σ2 H2 h => h, fun x H2 hy => ?_⟩
    have hd : ds[i]? = some ds[i] := List.getElem?_eq_getElem hlt
    obtain ⟨B2, gr, ix⟩ := hJ.yld i B1 H1 H2 x _ sB E1.bh hd hy
    rw [List.drop_eq_getElem_cons hlt] at hf1
    obtain ⟨e2, h3, h4⟩ := Option.bind_eq_some_iff.mp hf1
    obtain ⟨r1, h5, h6⟩ := Option.bind_eq_some_iff.mp h4
    refine hg P B0 F B2 H2 env1 σ1 x _ e2 (E1.grow gr) ix h3 _ fun σ3 E3 _ => ?_
    have kb : Same B0 B2 := E3.b0
    have sj : Same Bj B2 := sB.trans gr.b
    have next : ∀ (e : LEnv), sForL fg b (ds.drop (i + 1)) e = some r → ∀ σ4 B4 H4, EnvOk K P B2 F B4 H4 e σ4 → ∃ m', m' < ds.length - i ∧ (m' = ds.length - (i + 1) ∧ i + 1 ≤ ds.length ∧ ∃ B env, EnvOk K P B0 F B H4 env σ4 ∧ Same Bj B ∧ sForL fg b (ds.drop (i + 1)) env = some r) :=
      fun e he σ4 B4 H4 E4 => ⟨_, by omega, rfl, hlt, B4, e, E4.back kb, sj.trans E4.b0, he⟩
    refine hb P B2 F B2 H2 e2 σ3 r1 E3.rebase h5 _ ?_
    cases r1 with
    | nx e => exact fun σ4 B4 H4 E4 => next e h6 σ4 B4 H4 E4
    | ct e => exact fun σ4 B4 H4 E4 => next e h6 σ4 B4 H4 E4
    | bk e => cases h6; exact fun σ4 B4 H4 E4 => q σ4 B4 H4 (E4.back kb)
    | rt d e => cases h6; exact fun v σ4 B4 H4 E4 i4 => q v σ4 B4 H4 (E4.back kb) i4
  · have e : i = ds.length := by omega
    subst e
    rw [List.drop_length] at hf1
    cases hf1
    exact .inl ⟨hJ.stop _ B1 H1 sB E1.bh (Nat.le_refl _), q _ _ _ E1⟩

/-! ### comprehensions -/
def wipeE (env : LEnv) : List Nat → LEnv
  | [] => env
  | v :: vs => (wipeE env vs).set v .un
def notOwn (env : LEnv) (vs : List Nat) : Bool := vs.all fun v => match env[v]? with
  | some s => !owns s
  | none => false
/-- the block's own slots as they were ahead -/
def putBack (env env' : LEnv) : List Nat → LEnv
  | [] => env'
  | v :: vs => (putBack env env' vs).set v (env[v]?.getD .un)
def cLoop (g : SemG) (t : SemB) (e : Sem) (vs : List Nat) : List D → List D → LEnv → Option (List D × LEnv)
  | [], acc, env => some (acc, env)
  | d :: ds, acc, env => if notOwn env vs = true then (g d (wipeE env vs)).bind fun e1 => (t e1).bind fun p =>
    if p.1 = true then (e p.2).bind fun q => if acc.length < 1000000 then cLoop g t e vs ds (acc ++ [q.1]) q.2 else none
    else cLoop g t e vs ds acc p.2
    else none
def fLc (fi : SemL) (g : SemG) (t : SemB) (e : Sem) (vs : List Nat) : SemL := fun env => (fi env).bind fun p => if notOwn p.2 vs = true then (cLoop g t e vs p.1 [] p.2).bind fun q => if notOwn q.2 vs = true then some (q.1, putBack p.2 q.2 vs) else none else none
section
variable {K : PySem.W.Frag} {P : List (Nat × Addr)} {B0 F B H : Hp} {env : LEnv} {σ : L2.St}
theorem notOwn_row {vs : List Nat} {v : Nat} (h : notOwn env (v :: vs) = true) : ∀ st, env[v]? = some st → isLent st = false := fun st e => by
  have := (List.all_eq_true.mp h) v List.mem_cons_self
  rw [e] at this
  cases st <;> first | rfl | cases this
theorem wipeE_get : ∀ {vs : List Nat} {j : Nat} {s : Slot}, (wipeE env vs)[j]? = some s → (j ∈ vs ∧ s = .un) ∨ (j ∉ vs ∧ env[j]? = some s)
  | [], j, s, h => .inr ⟨by simp, h⟩
  | v :: vs, j, s, h => by
    rcases set_get h with ⟨rfl, rfl⟩ | ⟨n, h⟩
    · exact .inl ⟨List.mem_cons_self, rfl⟩
    · rcases wipeE_get h with ⟨a, b⟩ | ⟨a, b⟩
      · exact .inl ⟨List.mem_cons_of_mem _ a, b⟩
      · exact .inr ⟨by simp only [List.mem_cons, not_or]; exact ⟨fun e => n e.symm, a⟩, b⟩
theorem wipeE_len : ∀ vs : List Nat, (wipeE env vs).length = env.length
  | [] => rfl
  | v :: vs => by unfold wipeE; rw [List.length_set, wipeE_len vs]
/-- from a frame and values that agree off vs, the slots at vs forgotten -/
theorem EnvOk.wiped (E : EnvOk K P B0 F B H env σ) {vs : List Nat} (hv : ∀ v ∈ vs, ∀ st, env[v]? = some st → isLent st = false) {σ' : L2.St} (ho : Off vs σ σ') : EnvOk K P B0 F B H (wipeE env vs) σ' where
  b0 := E.b0
  bh := E.bh
  fr := E.fr
  len := by rw [wipeE_len, ho.1]; exact E.len
  at_ := fun j s e => by
    rcases wipeE_get e with ⟨_, rfl⟩ | ⟨n, e⟩
    · trivial
    · rw [ho.2 j n]; exact E.at_ j s e
  own := fun j s a e oa => by
    rcases wipeE_get e with ⟨_, rfl⟩ | ⟨n, e⟩
    · cases oa.1
    · rw [ho.2 j n] at oa; exact E.own j s a e oa
  sep := fun i j s t a n e1 e2 o1 o2 => by
    rcases wipeE_get e1 with ⟨_, rfl⟩ | ⟨n1, f1⟩
    · cases o1.1
    · rcases wipeE_get e2 with ⟨_, rfl⟩ | ⟨n2, f2⟩
      · cases o2.1
      · rw [ho.2 i n1] at o1; rw [ho.2 j n2] at o2
        exact E.sep i j s t a n f1 f2 o1 o2
  pin := fun p hp => by
    obtain ⟨e, st, q, ql⟩ := E.pin p hp
    have n : p.1 ∉ vs := fun m => by have := hv _ m st q; rw [ql] at this; cases this
    refine ⟨by rw [ho.2 _ n]; exact e, st, ?_, ql⟩
    have hl : p.1 < (wipeE env vs).length := by rw [wipeE_len]; exact (List.getElem?_eq_some_iff.mp q).1
    have g := wipeE_get (env := env) (vs := vs) (j := p.1) (List.getElem?_eq_getElem hl)
    rcases g with ⟨m, _⟩ | ⟨_, g⟩
    · exact absurd m n
    · rw [List.getElem?_eq_getElem hl, ← g]; exact q
theorem off_wipe (σ : L2.St) : ∀ vs : List Nat, Off vs σ (wipe σ vs) := fun vs => ⟨wipe_length σ vs, fun j hj => wipe_out hj⟩
theorem wipe_eq {σ σ' : L2.St} : ∀ {vs : List Nat}, Off vs σ σ' → wipe σ' vs = wipe σ vs := fun {vs} ho => by
  apply List.ext_getElem?
  intro j
  by_cases m : j ∈ vs
  · have at_ : ∀ (τ : L2.St) (vs : List Nat), j ∈ vs → (wipe τ vs)[j]? = if j < τ.length then some none else none := by
      intro τ vs
      induction vs with
      | nil => intro h; cases h
      | cons v vs ih =>
        intro h
        unfold wipe
        by_cases e : v = j
        · subst e
          rw [List.getElem?_set]
          simp only [if_true, wipe_length]
        · rw [List.getElem?_set_ne e]
          exact ih ((List.mem_cons.mp h).resolve_left fun z => e z.symm)
    rw [at_ _ _ m, at_ _ _ m, ho.1]
  · rw [wipe_out m, wipe_out m]
    exact ho.2 j m
theorem Off.mono {vs ws : List Nat} {σ σ' : L2.St} (h : Off ws σ σ') (hs : ∀ i ∈ ws, i ∈ vs) : Off vs σ σ' := ⟨h.1, fun j hj => h.2 j fun m => hj (hs j m)⟩
theorem Off.trans {vs : List Nat} {σ σ1 σ2 : L2.St} (a : Off vs σ σ1) (b : Off vs σ1 σ2) : Off vs σ σ2 := ⟨b.1.trans a.1, fun j hj => (b.2 j hj).trans (a.2 j hj)⟩
theorem Off.symm {vs : List Nat} {σ σ1 : L2.St} (a : Off vs σ σ1) : Off vs σ1 σ := ⟨a.1.symm, fun j hj => (a.2 j hj).symm⟩
theorem putBack_get {env' : LEnv} : ∀ {vs : List Nat} {j : Nat} {s : Slot}, (putBack env env' vs)[j]? = some s → (j ∈ vs ∧ s = env[j]?.getD .un) ∨ (j ∉ vs ∧ env'[j]? = some s)
  | [], j, s, h => .inr ⟨by simp, h⟩
  | v :: vs, j, s, h => by
    rcases set_get h with ⟨rfl, rfl⟩ | ⟨n, h⟩
    · exact .inl ⟨List.mem_cons_self, rfl⟩
    · rcases putBack_get h with ⟨a, b⟩ | ⟨a, b⟩
      · exact .inl ⟨List.mem_cons_of_mem _ a, b⟩
      · exact .inr ⟨by simp only [List.mem_cons, not_or]; exact ⟨fun e => n e.symm, a⟩, b⟩
theorem putBack_len {env' : LEnv} : ∀ vs : List Nat, (putBack env env' vs).length = env'.length
  | [] => rfl
  | v :: vs => by unfold putBack; rw [List.length_set, putBack_len vs]
theorem notOwn_at {vs : List Nat} (h : notOwn env vs = true) {v : Nat} (hv : v ∈ vs) : ∃ s, env[v]? = some s ∧ owns s = false := by
  have := (List.all_eq_true.mp h) v hv
  cases e : env[v]? with
  | none => rw [e] at this; cases this
  | some s => rw [e] at this; exact ⟨s, rfl, by simpa using this⟩
theorem EnvOk.putBack' {B1 H1 F' : Hp} {env' : LEnv} {σ' : L2.St} {vs : List Nat} (E : EnvOk K P B0 F' B H env σ) (E' : EnvOk K P B0 F B1 H1 env' σ') (sB : Same B B1) (h : notOwn env vs = true) (h' : notOwn env' vs = true) (ho : Off vs σ σ') : EnvOk K P B0 F B1 H1 (putBack env env' vs) σ where
  b0 := E'.b0
  bh := E'.bh
  fr := E'.fr
  len := by rw [putBack_len, E'.len, ho.1]
  at_ := fun j s e => by
    rcases putBack_get e with ⟨m, rfl⟩ | ⟨n, e⟩
    · obtain ⟨s, hs, no⟩ := notOwn_at h m
      rw [hs]
      exact (E.at_ j s hs).up sB fun a o oa _ => by rw [oa.1] at no; cases no
    · rw [← ho.2 j n]; exact E'.at_ j s e
  own := fun j s a e oa => by
    rcases putBack_get e with ⟨m, rfl⟩ | ⟨n, e⟩
    · obtain ⟨s, hs, no⟩ := notOwn_at h m
      rw [hs] at oa
      have := oa.1
      rw [show (some s).getD .un = s from rfl] at this
      rw [no] at this; cases this
    · rw [← ho.2 j n] at oa; exact E'.own j s a e oa
  sep := fun i j s t a n e1 e2 o1 o2 => by
    have nope : ∀ {j : Nat} {a : Addr} {x : Option (Option V)}, j ∈ vs → OwnA (env[j]?.getD .un) x a → False := fun {j a x} m oa => by
      obtain ⟨s, hs, no⟩ := notOwn_at h m
      rw [hs] at oa
      have := oa.1
      rw [show (some s).getD .un = s from rfl] at this
      rw [no] at this; cases this
    rcases putBack_get e1 with ⟨m1, rfl⟩ | ⟨n1, f1⟩
    · exact nope m1 o1
    · rcases putBack_get e2 with ⟨m2, rfl⟩ | ⟨n2, f2⟩
      · exact nope m2 o2
      · rw [← ho.2 i n1] at o1; rw [← ho.2 j n2] at o2
        exact E'.sep i j s t a n f1 f2 o1 o2
  pin := fun p hp => by
    obtain ⟨e, st, q, ql⟩ := E'.pin p hp
    have n : p.1 ∉ vs := fun m => by
      obtain ⟨s, hs, no⟩ := notOwn_at h' m
      rw [q] at hs; cases hs
      rw [lent_owns ql] at no; cases no
    refine ⟨by rw [← ho.2 _ n]; exact e, st, ?_, ql⟩
    have hl : p.1 < (putBack env env' vs).length := by rw [putBack_len]; exact (List.getElem?_eq_some_iff.mp q).1
    rcases putBack_get (env := env) (env' := env') (vs := vs) (j := p.1) (List.getElem?_eq_getElem hl) with ⟨m, _⟩ | ⟨_, g⟩
    · exact absurd m n
    · rw [List.getElem?_eq_getElem hl, ← g]; exact q
end
/-- a new list that nobody else holds -/
def Gn (K : PySem.W.Frag) (te : TE) (f : SemL) : Prop := ∀ (P : List (Nat × Addr)) (B0 F B H : Hp) (env : LEnv) (σ : L2.St) (ds : List D) (env' : LEnv), EnvOk K P B0 F B H env σ → f env = some (ds, env') →
  ∀ Q : VK, (∀ p vs B' H', EnvOk K P B0 F B' H' env' σ → Same B B' → IsAll K B' vs ds → B' p = none → F p = none → (∀ (j : Nat) (t : Slot), env'[j]? = some t → ¬ OwnA t σ[j]? p) → H' p = some (.lst vs) → Q (.ref p) H') → te σ H Q
/-- the addresses F and one more are others' -/
def withF (F : Hp) (p : Addr) (o : HO) : Hp := upd F p o
theorem EnvOk.addF {K : PySem.W.Frag} {P : List (Nat × Addr)} {B0 F B H : Hp} {env : LEnv} {σ : L2.St} {p : Addr} {o : HO} (E : EnvOk K P B0 F B H env σ) (hH : H p = some o) (hb : B p = none) (hn : ∀ (j : Nat) (t : Slot), env[j]? = some t → ¬ OwnA t σ[j]? p) : EnvOk K P B0 (upd F p o) B H env σ :=
  { E with
    fr := fun a u h => by
      by_cases e : a = p
      · subst e; rw [upd_same] at h; cases h; exact ⟨hH, .inl hb⟩
      · rw [upd_ne e] at h; exact E.fr a u h
    own := fun i s a e oa => by
      have n : a ≠ p := fun z => hn i s e (by rw [← z]; exact oa)
      rw [upd_ne n]; exact E.own i s a e oa }
theorem EnvOk.dropF {K : PySem.W.Frag} {P : List (Nat × Addr)} {B0 F B H : Hp} {env : LEnv} {σ : L2.St} {p : Addr} {o : HO} (E : EnvOk K P B0 (upd F p o) B H env σ) (hf : F p = none) : EnvOk K P B0 F B H env σ :=
  { E with
    fr := fun a u h => E.fr a u (by rw [upd_ne (fun z => by rw [z, hf] at h; cases h)]; exact h)
    own := fun i s a e oa => by
      obtain ⟨h1, h2⟩ := E.own i s a e oa
      by_cases z : a = p
      · subst z; rw [upd_same] at h2; cases h2
      · rw [upd_ne z] at h2; exact ⟨h1, h2⟩ }
theorem EnvOk.openF {K : PySem.W.Frag} {P : List (Nat × Addr)} {B0 F B H : Hp} {env : LEnv} {σ : L2.St} {p : Addr} {o : HO} (E : EnvOk K P B0 (upd F p o) B H env σ) (nt : isTupO o = false) : H p = some o ∧ B p = none ∧ ∀ (j : Nat) (t : Slot), env[j]? = some t → ¬ OwnA t σ[j]? p := by
  obtain ⟨h1, h2⟩ := E.fr p o upd_same
  refine ⟨h1, h2.resolve_right (fun z => by rw [nt] at z; cases z), fun j t e oa => ?_⟩
  have := (E.own j t p e oa).2
  rw [upd_same] at this
  cases this
theorem EnvOk.fresh {K : PySem.W.Frag} {P : List (Nat × Addr)} {B0 F B H : Hp} {env : LEnv} {σ : L2.St} {p : Addr} (E : EnvOk K P B0 F B H env σ) (hp : H p = none) : B p = none ∧ F p = none ∧ ∀ (j : Nat) (t : Slot), env[j]? = some t → ¬ OwnA t σ[j]? p :=
  ⟨E.bh.free hp, (by
    cases q : F p with
    | none => rfl
    | some o =>
      have z := (E.fr p o q).1
      rw [hp] at z
      cases z), (fun j t e oa => by
    obtain ⟨u, hu, _⟩ := (E.at_ j t e).there oa
    rw [hp] at hu; cases hu)⟩
/-- the object at p, others' so far, is written -/
theorem EnvOk.writeF {K : PySem.W.Frag} {P : List (Nat × Addr)} {B0 F B H : Hp} {env : LEnv} {σ : L2.St} {p : Addr} {o o' : HO} (E : EnvOk K P B0 (upd F p o) B H env σ) (nt : isTupO o = false) : EnvOk K P B0 (upd F p o') B (upd H p o') env σ := by
  obtain ⟨h1, h2, h3⟩ := E.openF nt
  exact { E with
    bh := fun a u h => by rw [upd_ne (fun z => by rw [z, h2] at h; cases h)]; exact E.bh a u h
    fr := fun a u h => by
      by_cases z : a = p
      · subst z; rw [upd_same] at h ⊢; cases h; exact ⟨rfl, .inl h2⟩
      · rw [upd_ne z] at h ⊢; exact E.fr a u (by rw [upd_ne z]; exact h)
    at_ := fun i s e => (E.at_ i s e).up (Same.refl _) fun a u oa hu => by
      have z : a ≠ p := fun z => h3 i s e (by rw [← z]; exact oa)
      rw [upd_ne z]; exact hu
    own := fun i s a e oa => by
      have z : a ≠ p := fun z => h3 i s e (by rw [← z]; exact oa)
      obtain ⟨g1, g2⟩ := E.own i s a e oa
      rw [upd_ne z] at g2 ⊢
      exact ⟨g1, g2⟩ }
theorem lcAt {K : PySem.W.Frag} {P : List (Nat × Addr)} {B0 F B H : Hp} {σ : L2.St} {wi : TI} {g : TG} {tt : TT} {te : TE} {vs ws : List Nat} {fg : SemG} {ft : SemB} {fe : Sem} {xs ds : List D} {e1 e2 : LEnv}
    (hi : ∀ R : It → Hp → Prop, (∀ J B' H', EnvOk K P B0 F B' H' e1 σ → Same B B' → ItOk K J xs B' → R J H') → wi σ H R) (hg : Gg K g fg ws) (ht : Gt K tt ft) (he : Ge K te fe) (hw : ∀ i ∈ ws, i ∈ vs) (hno : notOwn e1 vs = true) (h3 : cLoop fg ft fe vs xs [] e1 = some (ds, e2)) (hno2 : notOwn e2 vs = true) (Q : VK)
    (q : ∀ p us B' H', EnvOk K P B0 F B' H' (putBack e1 e2 vs) σ → Same B B' → IsAll K B' us ds → B' p = none → F p = none → (∀ (j : Nat) (t : Slot), (putBack e1 e2 vs)[j]? = some t → ¬ OwnA t σ[j]? p) → H' p = some (.lst us) → Q (.ref p) H') : tLc wi g tt te vs σ H Q := by
  refine hi _ fun J Bj H' E' s hJ p hp => ?_
  obtain ⟨fb, ff, fo⟩ := E'.fresh hp
  have gr0 := Grow.open (o := .lst []) E'.bh hp
  have E0 : EnvOk K P B0 (upd F p (.lst [])) Bj (upd H' p (.lst [])) e1 σ := (E'.grow gr0).addF upd_same fb fo
  refine ⟨fun i m H => m = xs.length - i ∧ i ≤ xs.length ∧ ∃ B env1 σ1 acc us, EnvOk K P B0 (upd F p (.lst us)) B H env1 σ1 ∧ Off vs σ σ1 ∧ Same Bj B ∧ IsAll K B us acc ∧ cLoop fg ft fe vs (xs.drop i) acc env1 = some (ds, e2), ⟨_, rfl, Nat.zero_le _, Bj, e1, σ, [], [], E0, ⟨rfl, fun _ _ => rfl⟩, Same.refl _, .nil, h3⟩, ?_⟩
  rintro i m H1 ⟨rfl, hle, B1, env1, σ1, acc, us, E1, o1, sB, ia, hc⟩
  by_cases hlt : i < xs.length
  · refine .inr ⟨hJ.go i B1 H1 sB E1.bh hlt, fun H2 => ∃ m', m' < xs.length - i ∧ (m' = xs.length - (i + 1) ∧ i + 1 ≤ xs.length ∧ ∃ B env1 σ1 acc us, EnvOk K P B0 (upd F p (.lst us)) B H2 env1 σ1 ∧ Off vs σ σ1 ∧ Same Bj B ∧ IsAll K B us acc ∧ cLoop fg ft fe vs (xs.drop (i + 1)) acc env1 = some (ds, e2)), fun H2 h => h, fun x H2 hy => ?_⟩
    have hd : xs[i]? = some xs[i] := List.getElem?_eq_getElem hlt
    obtain ⟨B2, gr, ix⟩ := hJ.yld i B1 H1 H2 x _ sB E1.bh hd hy
    rw [List.drop_eq_getElem_cons hlt] at hc
    unfold cLoop at hc
    split at hc
    case isFalse => cases hc
    case isTrue hn1 =>
    obtain ⟨e3, h5, hc⟩ := Option.bind_eq_some_iff.mp hc
    obtain ⟨⟨b, e4⟩, h6, hc⟩ := Option.bind_eq_some_iff.mp hc
    have ow : Off vs σ1 (wipe σ vs) := o1.symm.trans (off_wipe σ vs)
    have E2 := (E1.grow gr).wiped (vs := vs) (fun v hv st q => by
      obtain ⟨s', hs', no⟩ := notOwn_at hn1 hv
      rw [q] at hs'; cases hs'
      cases ql : isLent st with
      | false => rfl
      | true => rw [lent_owns ql] at no; cases no) ow
    refine hg P B0 _ B2 H2 _ _ x _ e3 E2 ix h5 _ fun σ3 E3 o3 => ?_
    have o4 : Off vs σ σ3 := (off_wipe σ vs).trans (o3.mono hw)
    refine ⟨wipe_eq o4, ?_⟩
    refine ht P B0 _ B2 H2 e3 σ3 b e4 E3 h6 _ fun B4 H4 E4 s4 => ?_
    cases b with
    | true =>
      dsimp only at hc
      rw [if_pos rfl] at hc
      obtain ⟨⟨d, e5⟩, h7, hc⟩ := Option.bind_eq_some_iff.mp hc
      split at hc
      case isFalse => cases hc
      case isTrue hz =>
      refine iteT (he P B0 _ B4 H4 e4 σ3 d e5 E4 h7 _ fun v B5 H5 E5 s5 iv => ⟨us, (E5.openF rfl).1, ?_, _, by omega, rfl, hlt, B5, e5, σ3, acc ++ [d], us ++ [v], E5.writeF rfl, o4, ((sB.trans gr.b).trans s4).trans s5, (ia.up ((gr.b.trans s4).trans s5)).snoc iv, hc⟩)
      rw [ia.len]
      exact Nat.lt_of_lt_of_le hz (sz_ok (Nat.le_refl _))
    | false =>
      dsimp only at hc
      rw [if_neg Bool.false_ne_true] at hc
      exact iteF ⟨_, by omega, rfl, hlt, B4, e4, σ3, acc, us, E4, o4, (sB.trans gr.b).trans s4, ia.up (gr.b.trans s4), hc⟩
  · have e : i = xs.length := by omega
    subst e
    rw [List.drop_length] at hc
    cases hc
    have E2 := EnvOk.putBack' (vs := vs) E' E1 sB hno hno2 o1
    obtain ⟨g1, g2, g3⟩ := E2.openF rfl
    exact .inl ⟨hJ.stop _ B1 H1 sB E1.bh (Nat.le_refl _), q p us B1 H1 (E2.dropF ff) (s.trans sB) ia g2 ff g3 g1⟩
theorem Gn.lc {K : PySem.W.Frag} {wi : TI} {g : TG} {tt : TT} {te : TE} {vs ws : List Nat} {fi : SemL} {fg : SemG} {ft : SemB} {fe : Sem} (hi : Gi K wi fi) (hg : Gg K g fg ws) (ht : Gt K tt ft) (he : Ge K te fe) (hw : ∀ i ∈ ws, i ∈ vs) : Gn K (tLc wi g tt te vs) (fLc fi fg ft fe vs) := fun P B0 F B H env σ ds env' E hf Q q => by
  obtain ⟨⟨xs, e1⟩, h1, h2⟩ := Option.bind_eq_some_iff.mp hf
  dsimp only at h2
  split at h2
  case isFalse => cases h2
  case isTrue hno =>
  obtain ⟨⟨ys, e2⟩, h3, h4⟩ := Option.bind_eq_some_iff.mp h2
  dsimp only at h4
  split at h4
  case isFalse => cases h4
  case isTrue hno2 =>
  cases h4
  exact lcAt (hi P B0 F B H env σ xs e1 E h1) hg ht he hw hno h3 hno2 Q q
end GL
/-! Lists and dicts of a frame's own; comprehensions as values. -/
namespace GL
open PySem L2

section
variable {K : PySem.W.Frag} {P : List (Nat × Addr)} {B0 F B H : Hp} {env : LEnv} {σ : L2.St}
/-- an object that nobody holds will not change any more -/
theorem EnvOk.take {p : Addr} {o : HO} (E : EnvOk K P B0 F B H env σ) (hH : H p = some o) (hb : B p = none) (hf : F p = none) (hn : ∀ (j : Nat) (t : Slot), env[j]? = some t → ¬ OwnA t σ[j]? p) :
    EnvOk K P B0 F (upd B p o) H env σ ∧ Same B (upd B p o) := by
  have up : Same B (upd B p o) := fun a u h => by rw [upd_ne (ne_of_none h hb)]; exact h
  refine ⟨{ E with b0 := E.b0.trans up, bh := fun a u h => ?_, fr := fun a u h => ?_, at_ := fun i s e => (E.at_ i s e).up up fun a u _ q => q, own := fun i s a e oa => ?_ }, up⟩
  · by_cases z : a = p
    · subst z; rw [upd_same] at h; rw [hH]; exact h
    · rw [upd_ne z] at h; exact E.bh _ _ h
  · have z : a ≠ p := fun z => by rw [z, hf] at h; cases h
    rw [upd_ne z]; exact E.fr a u h
  · have z : a ≠ p := fun z => hn i s e (by rw [← z]; exact oa)
    rw [upd_ne z]; exact E.own i s a e oa
end
def asList (f : SemL) : Sem := fun env => (f env).map fun p => (.list p.1, p.2)
theorem Gn.ge {K : PySem.W.Frag} {te : TE} {f : SemL} (h : Gn K te f) : Ge K te (asList f) := fun P B0 F B H env σ d env' E hf Q q => by
  obtain ⟨⟨ds, e1⟩, h1, h2⟩ := Option.map_eq_some_iff.mp hf
  cases h2
  refine h P B0 F B H env σ ds _ E h1 _ fun p vs B' H' E' s ia hb hF hn hl => ?_
  obtain ⟨E2, up⟩ := E'.take hl hb hF hn
  exact q _ _ H' E2 (s.trans up) (.lst upd_same (ia.up up))
def sAsgO (i : Nat) (f : SemL) : SemS := fun env => (f env).bind fun p => if noRow p.2 i = true then some (.nx (p.2.set i (.ol p.1))) else none
theorem Gs.asgO {K : PySem.W.Frag} {i : Nat} {te : TE} {f : SemL} (h : Gn K te f) : Gs K (tAsg te (gName i)) (sAsgO i f) := fun P B0 F B H env σ r E hf Z q => by
  obtain ⟨⟨ds, e1⟩, h1, h2⟩ := Option.bind_eq_some_iff.mp hf
  dsimp only at h2
  split at h2
  · rename_i hz
    cases h2
    exact h P B0 F B H env σ ds e1 E h1 _ fun p vs B' H' E' s ia hb hF hn hl => q _ B' H' (E'.setO rfl ⟨p, vs, rfl, hl, ia⟩ hb hF hn (noRow_ne hz))
  · cases h2
structure GN (X : Cx) (e : Expr) (te : TE) (f : SemL) : Prop where
  pe : PE X e te
  gn : Gn X.K te f
structure GTs (X : Cx) (ifs : List Expr) (tt : TT) (f : SemB) : Prop where
  pt : PTs X ifs tt
  gt : Gt X.K tt f
def fYes : SemB := fun env => some (true, env)
section
variable {X : Cx}
theorem GN.ge {e : Expr} {te : TE} {f : SemL} (h : GN X e te f) : GE X e te (asList f) := ⟨h.pe, h.gn.ge⟩
theorem gts_nil : GTs X [] tYes fYes := ⟨pts_nil, fun P B0 F B H env σ b env' E hf Q q => by cases hf; exact q B H E (Same.refl _)⟩
theorem gts_one {c : Expr} {t : TT} {f : SemB} (h : GT X c t f) : GTs X [c] t f := ⟨pts_one h.pt, h.gt⟩
/-! ### new lists -/
def fLst' (r : SemL) : SemL := fun env => (r env).bind fun q => if q.1.length ≤ 1000000 then some q else none
theorem gn_lst {es : List Expr} {pos : Pos} {t : TA} {r : SemL} (h : GA X es t r) : GN X (.List es pos) (tLst t) (fLst' r) := ⟨by exact pe_lst h.pa, fun P B0 F B H env σ ds env' E hf Q q => by
  obtain ⟨⟨ds, e1⟩, h1, h2⟩ := Option.bind_eq_some_iff.mp hf
  dsimp only at h2
  split at h2
  · rename_i hz
    cases h2
    refine h.ga P B0 F B H env σ _ _ E h1 _ fun vs B1 H1 E1 s1 i1 => ⟨by rw [i1.len]; exact sz_ok hz, fun p hp => ?_⟩
    obtain ⟨a, b, c⟩ := E1.fresh hp
    exact q p vs B1 _ (E1.grow (Grow.open E1.bh hp)) s1 i1 a b c upd_same
  · cases h2⟩
/-- a + b, a new list -/
def fAddL (a b : Sem) : SemL := fun env => (a env).bind fun p => (b p.2).bind fun q => match p.1, q.1 with
  | .list xs, .list ys => if xs.length + ys.length ≤ 1000000 then some (xs ++ ys, q.2) else none
  | _, _ => none
theorem gn_add {a b : Expr} {pos : Pos} {ta tb : TE} {fa fb : Sem} (ha : GE X a ta fa) (hb : GP X b tb fb) : GN X (.BinOp a .Add b pos) (tOp rCat ta tb) (fAddL fa fb) := ⟨pe_op op_cat ha.pe hb.pe, fun P B0 F B H env σ ds env' E hf Q q => by
  obtain ⟨⟨x, e1⟩, h1, h2⟩ := Option.bind_eq_some_iff.mp hf
  obtain ⟨⟨y, e2⟩, h3, h4⟩ := Option.bind_eq_some_iff.mp h2
  refine ha.ge P B0 F B H env σ x e1 E h1 _ fun v B1 H1 E1 s1 i1 => ?_
  refine hb.ge P B0 F B1 H1 e1 σ y e2 E1 h3 _ fun u B2 H2 E2 s2 i2 => ?_
  cases x with
  | list xs =>
    cases y with
    | list ys =>
      dsimp only at h4
      split at h4
      · rename_i hz
        cases h4
        obtain ⟨l, vs, rfl, hl, il⟩ := (Pk.fz (H := H2) (i1.up s2)).list E2.bh
        obtain ⟨m, ws, rfl, hm, im⟩ := i2.list E2.bh
        refine ⟨l, m, vs, ws, rfl, rfl, hl, hm, by rw [il.len, im.len]; exact sz_ok hz, fun p hp => ?_⟩
        obtain ⟨a, b, c⟩ := E2.fresh hp
        exact q p _ B2 _ (E2.grow (Grow.open E2.bh hp)) (s1.trans s2) (il.app im) a b c upd_same
      · cases h4
    | _ => cases h4
  | _ => cases h4⟩
/-- [None] * n and the like -/
def fRepL (a b : Sem) : SemL := fun env => (a env).bind fun p => (b p.2).bind fun q => match p.1, q.1 with
  | .list xs, .int n => if 0 ≤ n ∧ n ≤ 1000000 ∧ xs.length * n.toNat ≤ 1000000 then some ((List.replicate n.toNat xs).flatten, q.2) else none
  | _, _ => none
theorem IsAll.rep {K : PySem.W.Frag} {B : Hp} {vs : List V} {ds : List D} (h : IsAll K B vs ds) : ∀ n : Nat, IsAll K B (List.replicate n vs).flatten (List.replicate n ds).flatten
  | 0 => .nil
  | n + 1 => by
    rw [List.replicate_succ, List.replicate_succ, List.flatten_cons, List.flatten_cons]
    exact h.app (h.rep n)
theorem gn_rep {a b : Expr} {pos : Pos} {ta tb : TE} {fa fb : Sem} (ha : GE X a ta fa) (hb : GE X b tb fb) : GN X (.BinOp a .Mult b pos) (tOp rRep ta tb) (fRepL fa fb) := ⟨pe_op op_rep ha.pe hb.pe, fun P B0 F B H env σ ds env' E hf Q q => by
  obtain ⟨⟨x, e1⟩, h1, h2⟩ := Option.bind_eq_some_iff.mp hf
  obtain ⟨⟨y, e2⟩, h3, h4⟩ := Option.bind_eq_some_iff.mp h2
  refine ha.ge P B0 F B H env σ x e1 E h1 _ fun v B1 H1 E1 s1 i1 => ?_
  refine hb.ge P B0 F B1 H1 e1 σ y e2 E1 h3 _ fun u B2 H2 E2 s2 i2 => ?_
  cases x with
  | list xs =>
    cases y with
    | int n =>
      dsimp only at h4
      split at h4
      · rename_i hz
        cases h4
        cases i2
        obtain ⟨l, vs, rfl, hl, il⟩ := (Pk.fz (H := H2) (i1.up s2)).list E2.bh
        refine ⟨l, n, vs, rfl, rfl, hl, by omega, by omega, by rw [il.len]; exact sz_ok hz.2.2, fun p hp => ?_⟩
        obtain ⟨a, b, c⟩ := E2.fresh hp
        exact q p _ B2 _ (E2.grow (Grow.open E2.bh hp)) (s1.trans s2) (il.rep _) a b c upd_same
      · cases h4
    | _ => cases h4
  | _ => cases h4⟩
/-- list(x), a new list -/
def fListN (a : Sem) : SemL := fun env => (a env).bind fun p => match p.1 with
  | .list ds => some (ds, p.2)
  | .tuple ds => some (ds, p.2)
  | _ => none
theorem gn_list {e : Expr} {p pos : Pos} {ta : TE} {fa : Sem} (hm : X.mg "list" = none) (ha : GP X e ta fa) (hg : Gl X "list" := by rfl) (he : starEach [e] X.env = (false, eval e X.env) :: starEach [] X.env := by rfl) (hpl : (backTo pos (starEach [] X.env)).any (·.1) = false := by rfl) :
    GN X (.Call (.Name "list" p) [e] [] pos) (tCB (fun xs H Q => ∃ p ys, xs = [.ref p] ∧ (SqL X.K H p ys ∨ SqT X.K H p ys) ∧ ∀ l, H l = none → Q (.ref l) (upd H l (.lst ys))) (tCons ta tNil)) (fListN fa) := ⟨pe_callTy call_list_of hg hm (by decide +kernel) (pa_cons ha.pe pa_nil he) (by decide) (by decide) he hpl, fun P B0 F B H env σ ds env' E hf Q q => by
  obtain ⟨⟨x, e1⟩, h1, h2⟩ := Option.bind_eq_some_iff.mp hf
  refine ha.ge P B0 F B H env σ x e1 E h1 _ fun v B1 H1 E1 s1 i1 => ?_
  cases x with
  | list xs =>
    cases h2
    obtain ⟨l, vs, rfl, hl, il⟩ := i1.list E1.bh
    refine ⟨l, vs, rfl, .inl (SqL.of hl), fun p hp => ?_⟩
    obtain ⟨a, b, c⟩ := E1.fresh hp
    exact q p _ B1 _ (E1.grow (Grow.open E1.bh hp)) s1 il a b c upd_same
  | tuple xs =>
    cases h2
    obtain ⟨l, vs, rfl, hl, il⟩ := i1.tup E1.bh
    refine ⟨l, vs, rfl, .inr (hl.sq E1.bh), fun p hp => ?_⟩
    obtain ⟨a, b, c⟩ := E1.fresh hp
    exact q p _ B1 _ (E1.grow (Grow.open E1.bh hp)) s1 il a b c upd_same
  | _ => cases h2⟩
theorem gs_setN {i : Nat} {x : Str} {e : Expr} {pos pos' : Pos} {te : TE} {f : SemL} (hN : X.N.Nodup) (h : GN X e te f) (hi : X.N[i]? = some x := by rfl) (hx : Loc X.env.scope x := by first | exact .inl rfl | exact .inr rfl) (hs : swapsWith e (some (.Name x pos')) pos.line X.env = pure false := by rfl)
    (hf : X.fn x = true ∨ X.env.scope.names.lookup x = some .local := by first | exact .inl rfl | exact .inr rfl) : GS X (.Assign [.Name x pos'] e pos) (tAsg te (gName i)) (sAsgO i f) := ⟨ps_set hN hi hx h.pe hs hf, Gs.asgO h.gn⟩

/-! ### comprehensions -/
theorem gn_lc {elt tg iter : Expr} {ifs : List Expr} {scope : Scope} {own : List (Str × Nat)} {pos : Pos} {wi : TI} {g : TG} {tt : TT} {te : TE} {fi : SemL} {fg : SemG} {ft : SemB} {fe : Sem} {ws : List Nat} (hc : X.calm = true) (hN : X.N.Nodup) (hi : GI X tg iter wi fi) (ok : BlkOk X.N X.env.scope scope own)
    (hg : ∀ (s : Shared) (H : Hp) (C : Addr) (cl : List (Str × Addr)) (fp : List Addr), GG (X.blk s H scope (compEnvC scope cl C X.env) fp) tg g fg ws) (ht : ∀ (s : Shared) (H : Hp) (C : Addr) (cl : List (Str × Addr)) (fp : List Addr), GTs (X.blk s H scope (compEnvC scope cl C X.env) fp) ifs tt ft)
    (he : ∀ (s : Shared) (H : Hp) (C : Addr) (cl : List (Str × Addr)) (fp : List Addr), GE (X.blk s H scope (compEnvC scope cl C X.env) fp) elt te fe) (hw : ∀ i ∈ ws, i ∈ own.map (·.2) := by decide) (hs : ∀ x, foldedSetIterable iter X.env x = pure x := by intro _; rfl) :
    GN X (.ListComp elt [⟨tg, iter, ifs, 0⟩] scope pos) (tLc wi g tt te (own.map (·.2))) (fLc fi fg ft fe (own.map (·.2))) :=
  ⟨pe_lc hc hN hi.pi ok (fun a b c d e => (hg a b c d e).pg) (fun a b c d e => (ht a b c d e).pt) (fun a b c d e => (he a b c d e).pe) hs,
    Gn.lc hi.gi (hg X.s_0 X.H_0 0 [] []).gg (ht X.s_0 X.H_0 0 [] []).gt (he X.s_0 X.H_0 0 [] []).ge hw⟩
end
end GL
/-! for, and the methods of own lists and dicts. -/
namespace GL
open PySem L2

section
variable {K : PySem.W.Frag} {P : List (Nat × Addr)} {B0 F B H : Hp} {env : LEnv} {σ : L2.St}
/-- one more, one less in the list that slot i holds -/
def sAppend (i : Nat) (f : Sem) : Sem := fun env => match env[i]? with
  | some (.ol _) => (f env).bind fun p => match p.2[i]? with
    | some (.ol ds) => if ds.length < 1000000 then some (.none, p.2.set i (.ol (ds ++ [p.1]))) else none
    | _ => none
  | _ => none
def fPop (i : Nat) : Sem := fun env => match env[i]? with
  | some (.ol ds) => match ds.getLast? with
    | some d => some (d, env.set i (.ol ds.dropLast))
    | none => none
  | _ => none
def sExtend (i : Nat) (f : Sem) : Sem := fun env => match env[i]? with
  | some (.ol _) => (f env).bind fun p => match p.2[i]?, p.1 with
    | some (.ol ds), .list es => if ds.length + es.length ≤ 1000000 then some (.none, p.2.set i (.ol (ds ++ es))) else none
    | _, _ => none
  | _ => none
theorem EnvOk.ol_at {i : Nat} {ds : List D} (E : EnvOk K P B0 F B H env σ) (h : env[i]? = some (.ol ds)) : ∃ l vs, σ[i]? = some (some (.ref l)) ∧ H l = some (.lst vs) ∧ IsAll K B vs ds ∧ OwnA (.ol ds) σ[i]? l := by
  obtain ⟨l, vs, e, q, ia⟩ := E.at_ i _ h
  exact ⟨l, vs, e, q, ia, rfl, e⟩
theorem Ge.append {i : Nat} {te : TE} {f : Sem} (h : Ge K te f) : Ge K (tBM K "list" rAppend (tVar i) (tCons te tNil)) (sAppend i f) := fun P B0 F B H env σ d env' E hf Q q => by
  unfold sAppend at hf
  split at hf
  case h_2 => cases hf
  rename_i ds0 e0
  obtain ⟨⟨x, e1⟩, h1, h2⟩ := Option.bind_eq_some_iff.mp hf
  dsimp only at h2
  split at h2
  case h_2 => cases h2
  rename_i ds e2
  split at h2
  case isFalse => cases h2
  rename_i hz
  cases h2
  obtain ⟨l, vs0, g1, g2, _, _⟩ := E.ol_at e0
  refine ⟨_, g1, .inl ⟨rfl, _, SqL.of g2⟩, ?_⟩
  refine h P B0 F B H env σ x e1 E h1 _ fun v B' H' E' s iv => ?_
  obtain ⟨l', vs, k1, k2, ia, ow⟩ := E'.ol_at e2
  rw [g1] at k1
  cases k1
  refine ⟨l, vs, v, rfl, rfl, k2, ?_, ?_⟩
  · rw [ia.len]; exact Nat.lt_of_lt_of_le hz (sz_ok (Nat.le_refl _))
  · exact q .non B' _ (E'.mut e2 ow rfl ⟨l, _, rfl, upd_same, ia.snoc iv⟩ fun z => by first | cases z | exact z) s .non
theorem Ge.extend {i : Nat} {te : TE} {f : Sem} (h : Ge K te f) : Ge K (tBM K "list" rExtend (tVar i) (tCons te tNil)) (sExtend i f) := fun P B0 F B H env σ d env' E hf Q q => by
  unfold sExtend at hf
  split at hf
  case h_2 => cases hf
  rename_i ds0 e0
  obtain ⟨⟨x, e1⟩, h1, h2⟩ := Option.bind_eq_some_iff.mp hf
  dsimp only at h2
  split at h2
  case h_2 => cases h2
  rename_i ds es e2
  split at h2
  case isFalse => cases h2
  rename_i hz
  cases h2
  obtain ⟨l, vs0, g1, g2, _, _⟩ := E.ol_at e0
  refine ⟨_, g1, .inl ⟨rfl, _, SqL.of g2⟩, ?_⟩
  refine h P B0 F B H env σ _ e1 E h1 _ fun v B' H' E' s iv => ?_
  obtain ⟨l', vs, k1, k2, ia, ow⟩ := E'.ol_at e2
  rw [g1] at k1
  cases k1
  cases iv with
  | lst hb ib =>
    refine ⟨l, _, vs, _, rfl, rfl, k2, E'.bh _ _ hb, by rw [ia.len, ib.len]; exact sz_ok hz, ?_⟩
    exact q .non B' _ (E'.mut e2 ow rfl ⟨l, _, rfl, upd_same, ia.app ib⟩ fun z => by first | cases z | exact z) s .non
theorem IsAll.last {vs : List V} {ds : List D} {d : D} (h : IsAll K B vs ds) (e : ds.getLast? = some d) : ∃ v, vs[vs.length - 1]? = some v ∧ Is K B v d ∧ IsAll K B vs.dropLast ds.dropLast := by
  rw [List.getLast?_eq_getElem?] at e
  obtain ⟨v, h1, h2⟩ := h.get e
  refine ⟨v, by rw [h.len]; exact h1, h2, ?_⟩
  rw [List.dropLast_eq_take, List.dropLast_eq_take, h.len]
  exact h.take _
theorem Ge.pop {i : Nat} : Ge K (tBM0 K "list" rPop (tVar i)) (fPop i) := fun P B0 F B H env σ d env' E hf Q q => by
  unfold fPop at hf
  split at hf
  case h_2 => cases hf
  rename_i ds e0
  split at hf
  case h_2 => cases hf
  rename_i d' e1
  cases hf
  obtain ⟨l, vs, g1, g2, ia, ow⟩ := E.ol_at e0
  obtain ⟨v, k1, k2, k3⟩ := ia.last e1
  refine ⟨_, g1, .inl ⟨rfl, _, SqL.of g2⟩, l, vs, v, rfl, rfl, g2, k1, ?_⟩
  exact q v B _ (E.mut e0 ow rfl ⟨l, _, rfl, upd_same, k3⟩ fun z => by first | cases z | exact z) (Same.refl _) k2
end
section
variable {X : Cx}
theorem gs_for {tg iter : Expr} {body : List Stmt} {wi : TI} {g : TG} {tb : TS} {pos : Pos} {fi : SemL} {fg : SemG} {b : SemS} {ws : List Nat} (hp : PassesOwn (model X.prog X.w) X.A X.env X.xe) (hc : X.calm = true) (hi : GI X tg iter wi fi) (hg : GG X tg g fg ws) (hb : GSs X body tb b) (hf : ∀ x, foldedSetIterable iter X.env x = pure x := by intro _; rfl) :
    GS X (.For tg iter body [] pos) (tFor wi g tb) (sFor fi fg b) := ⟨ps_for hp hc hi.pi hg.pg hb.ps hf, Gs.for_ hi.gi hg.gg hb.gs⟩
section
variable {o e : Expr} {i : Nat} {te : TE} {f : Sem} {apos cpos : Pos}
theorem ge_append (ho : PE X o (tVar i)) (he : GE X e te f) (ha : attributeBase o "append" X.env (eval o X.env) = eval o X.env := by rfl)
    (hp : ((backTo cpos (starEach [e] X.env)).all (fun x => !x.1) && (backToKw cpos (keywordEach [] X.env)).all (fun x => x.1.isSome) && decide (([e] : List Expr).length + ([] : List Keyword).length + (if ([] : List Keyword).isEmpty = true then 0 else 1) < 30)) = true := by rfl) (hl : (apos.endLine == cpos.line) = true := by rfl)
    (hs : starEach [e] X.env = (false, eval e X.env) :: starEach [] X.env := by rfl) (h5 : (backTo cpos (starEach [] X.env)).any (·.1) = false := by rfl) :
    GE X (.Call (.Attribute o "append" apos) [e] [] cpos) (tBM X.K "list" rAppend (tVar i) (tCons te tNil)) (sAppend i f) :=
  ⟨pe_bm PySem.F.plainAttrs_list PySem.F.slot_list_append PySem.F.type_list_append mt_append ho (pa_cons he.pe pa_nil hs) ha hp hl hs h5, Ge.append he.ge⟩
theorem ge_extend (ho : PE X o (tVar i)) (he : GE X e te f) (ha : attributeBase o "extend" X.env (eval o X.env) = eval o X.env := by rfl)
    (hp : ((backTo cpos (starEach [e] X.env)).all (fun x => !x.1) && (backToKw cpos (keywordEach [] X.env)).all (fun x => x.1.isSome) && decide (([e] : List Expr).length + ([] : List Keyword).length + (if ([] : List Keyword).isEmpty = true then 0 else 1) < 30)) = true := by rfl) (hl : (apos.endLine == cpos.line) = true := by rfl)
    (hs : starEach [e] X.env = (false, eval e X.env) :: starEach [] X.env := by rfl) (h5 : (backTo cpos (starEach [] X.env)).any (·.1) = false := by rfl) :
    GE X (.Call (.Attribute o "extend" apos) [e] [] cpos) (tBM X.K "list" rExtend (tVar i) (tCons te tNil)) (sExtend i f) :=
  ⟨pe_bm PySem.F.plainAttrs_list PySem.F.slot_list_extend PySem.F.type_list_extend mt_extend ho (pa_cons he.pe pa_nil hs) ha hp hl hs h5, Ge.extend he.ge⟩
theorem ge_pop (ho : PE X o (tVar i)) (ha : attributeBase o "pop" X.env (eval o X.env) = eval o X.env := by rfl) (hl : (apos.endLine == cpos.line) = true := by rfl) :
    GE X (.Call (.Attribute o "pop" apos) [] [] cpos) (tBM0 X.K "list" rPop (tVar i)) (fPop i) :=
  ⟨pe_bm0 PySem.F.plainAttrs_list PySem.F.slot_list_pop PySem.F.type_list_pop mt_pop ho ha hl, Ge.pop⟩
end
end
end GL
/-! Own dicts: displays, stores, in. -/
namespace GL
open PySem L2

/-- a tuple of numbers and texts, as a key -/
def keysOfL : List D → Option (List Key)
  | [] => some []
  | d :: ds => (keyOf d).bind fun k => (keysOfL ds).map fun ks => k :: ks
def keysOf : D → Option (List Key)
  | .tuple ds => keysOfL ds
  | _ => none
theorem keysOfL_some : ∀ {ds : List D} {ks : List Key}, keysOfL ds = some ks → ds = ks.map keyD
  | [], _, h => by cases h; rfl
  | d :: ds, ks, h => by
    obtain ⟨k, h1, h2⟩ := Option.bind_eq_some_iff.mp h
    obtain ⟨r, h3, h4⟩ := Option.map_eq_some_iff.mp h2
    subst h4
    rw [keyOf_some h1, keysOfL_some h3]
    rfl
theorem keysOfL_keys : ∀ ks : List Key, keysOfL (ks.map keyD) = some ks
  | [] => rfl
  | k :: ks => by
    rw [List.map_cons]
    unfold keysOfL
    rw [keyOf_keyD, keysOfL_keys ks]
    rfl
theorem keysOf_some {d : D} {ks : List Key} (h : keysOf d = some ks) : d = keysD ks := by
  cases d with
  | tuple ds => rw [keysOfL_some h]; rfl
  | _ => cases h
theorem keysOf_keysD (ks : List Key) : keysOf (keysD ks) = some ks := keysOfL_keys ks
theorem IsAll.keys {K : PySem.W.Frag} {B : Hp} : ∀ {ks : List Key} {vs : List V}, IsAll K B vs (ks.map keyD) → vs = ks.map kV
  | [], _, h => by cases h; rfl
  | k :: ks, _, h => by
    cases h with
    | cons a b =>
      rw [IsAll.keys b]
      cases k with
      | inl i => cases a; rfl
      | inr x => cases a; rfl
theorem Is.keys {K : PySem.W.Frag} {B : Hp} {v : V} {d : D} {ks : List Key} (h : Is K B v d) (e : keysOf d = some ks) : ∃ b, v = .ref b ∧ B b = some (.tup (ks.map kV)) := by
  have e := keysOf_some e
  subst e
  cases h with
  | tup ha hl => rw [hl.keys] at ha; exact ⟨_, rfl, ha.no (hasN_keys _)⟩
def lookO {κ : Type} [DecidableEq κ] (kvs : List (κ × D)) (k : κ) : Option D := (kvs.find? fun p => decide (p.1 = k)).map (·.2)
def putO {κ : Type} [DecidableEq κ] (kvs : List (κ × D)) (k : κ) (d : D) : List (κ × D) := if (kvs.any fun p => decide (p.1 = k)) = true then kvs.map fun p => if p.1 = k then (p.1, d) else p else kvs ++ [(k, d)]
section
variable {K : PySem.W.Frag} {B : Hp} {κ : Type} [DecidableEq κ]
theorem OpK.look {ws : List (κ × V)} {kvs : List (κ × D)} (h : OpK K B ws kvs) (k : κ) : (lookO kvs k = none ∧ valV ws k = none) ∨ ∃ v d, lookO kvs k = some d ∧ valV ws k = some v ∧ Is K B v d := by
  induction h with
  | nil => exact .inl ⟨rfl, rfl⟩
  | @cons a v d ws ds h _ ih =>
    by_cases q : a = k
    · subst q
      exact .inr ⟨v, d, by unfold lookO; rw [List.find?_cons_of_pos (by simp)]; rfl, valV_pos rfl, h⟩
    · rw [valV_neg (p := (a, v)) q]
      rw [show lookO ((a, d) :: ds) k = lookO ds k from by unfold lookO; rw [List.find?_cons_of_neg (by simpa using q)]]
      exact ih
theorem OpK.any {ws : List (κ × V)} {kvs : List (κ × D)} (h : OpK K B ws kvs) (k : κ) : (ws.any fun p => decide (p.1 = k)) = (kvs.any fun p => decide (p.1 = k)) := by
  induction h with
  | nil => rfl
  | cons h _ ih => simp only [List.any_cons, ih]
theorem OpK.snoc {ws : List (κ × V)} {kvs : List (κ × D)} {k : κ} {v : V} {d : D} (h : OpK K B ws kvs) (i : Is K B v d) : OpK K B (ws ++ [(k, v)]) (kvs ++ [(k, d)]) := by
  induction h with
  | nil => exact .cons i .nil
  | cons h _ ih => exact .cons h ih
theorem OpK.over {ws : List (κ × V)} {kvs : List (κ × D)} {k : κ} {v : V} {d : D} (h : OpK K B ws kvs) (i : Is K B v d) : OpK K B (ws.map fun p => if p.1 = k then (p.1, v) else p) (kvs.map fun p => if p.1 = k then (p.1, d) else p) := by
  induction h with
  | nil => exact .nil
  | @cons a v' d' ws ds h _ ih =>
    rw [List.map_cons, List.map_cons]
    by_cases q : a = k
    · rw [if_pos q, if_pos q]; exact .cons i ih
    · rw [if_neg q, if_neg q]; exact .cons h ih
theorem OpK.put {ws : List (κ × V)} {kvs : List (κ × D)} {k : κ} {v : V} {d : D} (h : OpK K B ws kvs) (i : Is K B v d) : OpK K B (L2.putK ws k v) (putO kvs k d) := by
  unfold L2.putK putO
  rw [h.any k]
  split
  · exact h.over i
  · exact h.snoc i
end

section
variable {K : PySem.W.Frag} {P : List (Nat × Addr)} {B0 F B H : Hp} {env : LEnv} {σ : L2.St}
theorem EnvOk.dk_at {i : Nat} {ds : List (Key × D)} (E : EnvOk K P B0 F B H env σ) (h : env[i]? = some (.dk ds)) : ∃ l vs, σ[i]? = some (some (.ref l)) ∧ H l = some (.dK vs) ∧ OpK K B vs ds ∧ OwnA (.dk ds) σ[i]? l := by
  obtain ⟨l, vs, e, q, ia⟩ := E.at_ i _ h
  exact ⟨l, vs, e, q, ia, rfl, e⟩
theorem EnvOk.dt_at {i : Nat} {ds : List (List Key × D)} (E : EnvOk K P B0 F B H env σ) (h : env[i]? = some (.dt ds)) : ∃ l vs, σ[i]? = some (some (.ref l)) ∧ H l = some (.dT vs) ∧ OpK K B vs ds ∧ OwnA (.dt ds) σ[i]? l := by
  obtain ⟨l, vs, e, q, ia⟩ := E.at_ i _ h
  exact ⟨l, vs, e, q, ia, rfl, e⟩

/-! ### d[k] = v -/
def sPutK (i : Nat) (fk fv : Sem) : SemS := fun env => (fv env).bind fun p => match p.2[i]? with
  | some (.dk _) => (fk p.2).bind fun q => match q.2[i]?, keyOf q.1 with
    | some (.dk kvs), some k => if kvs.length < 1000000 then some (.nx (q.2.set i (.dk (putO kvs k p.1)))) else none
    | _, _ => none
  | _ => none
def sPutT (i : Nat) (fk fv : Sem) : SemS := fun env => (fv env).bind fun p => match p.2[i]? with
  | some (.dt _) => (fk p.2).bind fun q => match q.2[i]?, keysOf q.1 with
    | some (.dt kvs), some k => if kvs.length < 1000000 then some (.nx (q.2.set i (.dt (putO kvs k p.1)))) else none
    | _, _ => none
  | _ => none
theorem lt_sz {n m : Nat} (e : n = m) (h : m < 1000000) : n < sizeLine := by rw [e]; exact Nat.lt_of_lt_of_le h (sz_ok (Nat.le_refl _))
theorem Gs.putK {i : Nat} {tk tv : TE} {fk fv : Sem} (hk : Ge K tk fk) (hv : Ge K tv fv) : Gs K (sDPut (tVar i) tk tv) (sPutK i fk fv) := fun P B0 F B H env σ r E hf Z q => by
  obtain ⟨⟨x, e1⟩, h1, h2⟩ := Option.bind_eq_some_iff.mp hf
  dsimp only at h2
  split at h2
  case h_2 => cases h2
  rename_i ds0 e0
  obtain ⟨⟨y, e2⟩, h3, h4⟩ := Option.bind_eq_some_iff.mp h2
  dsimp only at h4
  split at h4
  case h_2 => cases h4
  rename_i kvs k g1 g2
  split at h4
  case isFalse => cases h4
  rename_i hz
  cases h4
  refine hv P B0 F B H env σ x e1 E h1 _ fun v B' H' E' s iv => ?_
  obtain ⟨l, ws, k1, k2, ia, ow⟩ := E'.dk_at e0
  refine ⟨_, k1, hk P B0 F B' H' e1 σ y e2 E' h3 _ fun u B2 H2 E2 s2 iu => ?_⟩
  obtain ⟨l', ws', m1, m2, ib, ow'⟩ := E2.dk_at g1
  rw [k1] at m1
  cases m1
  refine ⟨l, _, rfl, .inl ⟨ws', k, m2, keyV (.fz (H := H2) iu) g2, lt_sz ib.len hz, rfl⟩, ?_⟩
  exact q σ B2 _ (E2.mut g1 ow' rfl ⟨l, _, rfl, upd_same, ib.put (iv.up s2)⟩ fun z => by first | cases z | exact z)
theorem Gs.putT {i : Nat} {tk tv : TE} {fk fv : Sem} (hk : Ge K tk fk) (hv : Ge K tv fv) : Gs K (sDPut (tVar i) tk tv) (sPutT i fk fv) := fun P B0 F B H env σ r E hf Z q => by
  obtain ⟨⟨x, e1⟩, h1, h2⟩ := Option.bind_eq_some_iff.mp hf
  dsimp only at h2
  split at h2
  case h_2 => cases h2
  rename_i ds0 e0
  obtain ⟨⟨y, e2⟩, h3, h4⟩ := Option.bind_eq_some_iff.mp h2
  dsimp only at h4
  split at h4
  case h_2 => cases h4
  rename_i kvs k g1 g2
  split at h4
  case isFalse => cases h4
  rename_i hz
  cases h4
  refine hv P B0 F B H env σ x e1 E h1 _ fun v B' H' E' s iv => ?_
  obtain ⟨l, ws, k1, k2, ia, ow⟩ := E'.dt_at e0
  refine ⟨_, k1, hk P B0 F B' H' e1 σ y e2 E' h3 _ fun u B2 H2 E2 s2 iu => ?_⟩
  obtain ⟨l', ws', m1, m2, ib, ow'⟩ := E2.dt_at g1
  rw [k1] at m1
  cases m1
  obtain ⟨b, rfl, hb⟩ := iu.keys g2
  refine ⟨l, _, rfl, .inr ⟨ws', k, b, m2, rfl, E2.bh _ _ hb, lt_sz ib.len hz, rfl⟩, ?_⟩
  exact q σ B2 _ (E2.mut g1 ow' rfl ⟨l, _, rfl, upd_same, ib.put (iv.up s2)⟩ fun z => by first | cases z | exact z)

/-! ### k in d, the keys being tuples -/
def fInT (neg : Bool) (i : Nat) (a : Sem) : Sem := fun env => (a env).bind fun p => match p.2[i]?, keysOf p.1 with
  | some (.dt kvs), some k => some (.bool (if neg then !(lookO kvs k).isSome else (lookO kvs k).isSome), p.2)
  | _, _ => none
theorem Ge.inT {neg : Bool} {i : Nat} {ta : TE} {fa : Sem} (ha : Ge K ta fa) : Ge K (tOp (rInP K neg) ta (tVar i)) (fInT neg i fa) := fun P B0 F B H env σ d env' E hf Q q => by
  obtain ⟨⟨x, e1⟩, h1, h2⟩ := Option.bind_eq_some_iff.mp hf
  dsimp only at h2
  split at h2
  case h_2 => cases h2
  rename_i kvs k g1 g2
  cases h2
  refine ha P B0 F B H env σ x _ E h1 _ fun v B' H' E' s iv => ?_
  obtain ⟨l, ws, k1, k2, ia, ow⟩ := E'.dt_at g1
  obtain ⟨b, rfl, hb⟩ := iv.keys g2
  refine ⟨_, k1, .inr (.inr ⟨l, _, rfl, DGet.t k2 (E'.bh _ _ hb), ?_⟩)⟩
  have eb : (valV ws k).isSome = (lookO kvs k).isSome := by
    rcases ia.look k with ⟨a1, a2⟩ | ⟨v', d', a1, a2, _⟩
    · rw [a1, a2] <;> rfl
    · rw [a1, a2] <;> rfl
  rw [eb]
  exact q _ B' H' E' s (.bl _)
end
section
variable {X : Cx}
theorem gs_putK {o i value : Expr} {pos pos' : Pos} {n : Nat} {tk tv : TE} {fk fv : Sem} (hu : X.A.units + 100 < cLine) (ho : PE X o (tVar n)) (hk : GE X i tk fk) (hv : GE X value tv fv) (hs : swapsWith value (some (.Subscript o i pos')) pos.line X.env = pure false := by rfl) :
    GS X (.Assign [.Subscript o i pos'] value pos) (sDPut (tVar n) tk tv) (sPutK n fk fv) := ⟨ps_dput (by omega) ho hk.pe hv.pe hs, Gs.putK hk.ge hv.ge⟩
theorem gs_putT {o i value : Expr} {pos pos' : Pos} {n : Nat} {tk tv : TE} {fk fv : Sem} (hu : X.A.units + 100 < cLine) (ho : PE X o (tVar n)) (hk : GE X i tk fk) (hv : GE X value tv fv) (hs : swapsWith value (some (.Subscript o i pos')) pos.line X.env = pure false := by rfl) :
    GS X (.Assign [.Subscript o i pos'] value pos) (sDPut (tVar n) tk tv) (sPutT n fk fv) := ⟨ps_dput (by omega) ho hk.pe hv.pe hs, Gs.putT hk.ge hv.ge⟩
theorem ge_inT {a b : Expr} {pos : Pos} {i : Nat} {ta : TE} {fa : Sem} (hu : X.A.units + 100 < cLine) (ha : GE X a ta fa) (hb : PE X b (tVar i)) (hm : behindInMarks .In b = false) : GE X (.Compare a [.In] [b] pos) (tOp (rInP X.K false) ta (tVar i)) (fInT false i fa) := ⟨pe_cmpR (op_inP hu) ha.pe hb hm, Ge.inT ha.ge⟩
theorem ge_notInT {a b : Expr} {pos : Pos} {i : Nat} {ta : TE} {fa : Sem} (hu : X.A.units + 100 < cLine) (ha : GE X a ta fa) (hb : PE X b (tVar i)) (hm : behindInMarks .NotIn b = false) : GE X (.Compare a [.NotIn] [b] pos) (tOp (rInP X.K true) ta (tVar i)) (fInT true i fa) := ⟨pe_cmpR (op_notInP hu) ha.pe hb hm, Ge.inT ha.ge⟩
theorem gt_inT {a b : Expr} {pos : Pos} {i : Nat} {ta : TE} {fa : Sem} (hu : X.A.units + 100 < cLine) (ha : GE X a ta fa) (hb : PE X b (tVar i)) (hm : behindInMarks .In b = false) : GT X (.Compare a [.In] [b] pos) (tTest (tOp (rInP X.K false) ta (tVar i))) (fTest (fInT false i fa)) := ⟨pt_cmpR (op_inP hu) ha.pe hb hm, Gt.test (Ge.inT ha.ge)⟩
theorem gt_notInT {a b : Expr} {pos : Pos} {i : Nat} {ta : TE} {fa : Sem} (hu : X.A.units + 100 < cLine) (ha : GE X a ta fa) (hb : PE X b (tVar i)) (hm : behindInMarks .NotIn b = false) : GT X (.Compare a [.NotIn] [b] pos) (tTest (tOp (rInP X.K true) ta (tVar i))) (fTest (fInT true i fa)) := ⟨pt_cmpR (op_notInP hu) ha.pe hb hm, Gt.test (Ge.inT ha.ge)⟩
end

/-! ### new dicts, which nobody else holds -/
/-- a new object nobody else holds; s is the slot it makes -/
def Gw (K : PySem.W.Frag) (te : TE) (f : LEnv → Option (Slot × LEnv)) : Prop := ∀ (P : List (Nat × Addr)) (B0 F B H : Hp) (env : LEnv) (σ : L2.St) (s : Slot) (env' : LEnv), EnvOk K P B0 F B H env σ → f env = some (s, env') →
  ∀ Q : VK, (∀ p B' H', EnvOk K P B0 F B' H' env' σ → Same B B' → owns s = true → SlotOk K B' H' s (some (some (.ref p))) → B' p = none → F p = none → (∀ (j : Nat) (t : Slot), env'[j]? = some t → ¬ OwnA t σ[j]? p) → Q (.ref p) H') → te σ H Q
structure GW1 (X : Cx) (e : Expr) (te : TE) (f : LEnv → Option (Slot × LEnv)) : Prop where
  pe : PE X e te
  gw : Gw X.K te f
def sAsgW (i : Nat) (f : LEnv → Option (Slot × LEnv)) : SemS := fun env => (f env).bind fun p => if noRow p.2 i = true then some (.nx (p.2.set i p.1)) else none
theorem Gs.asgW {K : PySem.W.Frag} {i : Nat} {te : TE} {f : LEnv → Option (Slot × LEnv)} (h : Gw K te f) : Gs K (tAsg te (gName i)) (sAsgW i f) := fun P B0 F B H env σ r E hf Z q => by
  obtain ⟨⟨s, e1⟩, h1, h2⟩ := Option.bind_eq_some_iff.mp hf
  dsimp only at h2
  split at h2
  · rename_i hz
    cases h2
    exact h P B0 F B H env σ s e1 E h1 _ fun p B' H' E' s ho hs hb hF hn => q _ B' H' (E'.setO ho hs hb hF hn (noRow_ne hz))
  · cases h2
def fNewK : LEnv → Option (Slot × LEnv) := fun env => some (.dk [], env)
def fNewT : LEnv → Option (Slot × LEnv) := fun env => some (.dt [], env)
/-- {k: v} -/
def fOneK (fk fv : Sem) : LEnv → Option (Slot × LEnv) := fun env => (fk env).bind fun p => (fv p.2).bind fun q => (keyOf p.1).map fun k => (.dk [(k, q.1)], q.2)
def fOneT (fk fv : Sem) : LEnv → Option (Slot × LEnv) := fun env => (fk env).bind fun p => (fv p.2).bind fun q => (keysOf p.1).map fun k => (.dt [(k, q.1)], q.2)
/-- {k: v}, the key a tuple -/
def tOneT (tk tv : TE) : TE := fun σ H Q => ∀ p, H p = none → tPairs [(tk, tv)] σ (upd H p (.dT [])) fun ps H2 => H2 p = some (.dT []) ∧ ∃ k b v, ps = [(.ref b, v)] ∧ H2 b = some (.tup (k.map kV)) ∧ Q (.ref p) (upd H2 p (.dT [(k, v)]))
section
variable {X : Cx}
theorem gs_setW {i : Nat} {x : Str} {e : Expr} {pos pos' : Pos} {te : TE} {f : LEnv → Option (Slot × LEnv)} (hN : X.N.Nodup) (h : GW1 X e te f) (hi : X.N[i]? = some x := by rfl) (hx : Loc X.env.scope x := by first | exact .inl rfl | exact .inr rfl) (hs : swapsWith e (some (.Name x pos')) pos.line X.env = pure false := by rfl)
    (hf : X.fn x = true ∨ X.env.scope.names.lookup x = some .local := by first | exact .inl rfl | exact .inr rfl) : GS X (.Assign [.Name x pos'] e pos) (tAsg te (gName i)) (sAsgW i f) := ⟨ps_set hN hi hx h.pe hs hf, Gs.asgW h.gw⟩
theorem gw_newK {pos : Pos} : GW1 X (.Dict [] [] pos) tDNewK fNewK := ⟨pe_dnewK, fun P B0 F B H env σ s env' E hf Q q => by
  cases hf
  intro p hp
  obtain ⟨a, b, c⟩ := E.fresh hp
  exact q p B _ (E.grow (Grow.open E.bh hp)) (Same.refl _) rfl ⟨p, [], rfl, upd_same, .nil⟩ a b c⟩
theorem gw_newT {pos : Pos} : GW1 X (.Dict [] [] pos) tDNewT fNewT := ⟨pe_dnewT, fun P B0 F B H env σ s env' E hf Q q => by
  cases hf
  intro p hp
  obtain ⟨a, b, c⟩ := E.fresh hp
  exact q p B _ (E.grow (Grow.open E.bh hp)) (Same.refl _) rfl ⟨p, [], rfl, upd_same, .nil⟩ a b c⟩
theorem gw_oneK {k v : Expr} {pos : Pos} {tk tv : TE} {fk fv : Sem} (hk : GE X k tk fk) (hv : GE X v tv fv) : GW1 X (.Dict [some k] [v] pos) (tDisp [(tk, tv)]) (fOneK fk fv) := ⟨pe_disp (pps_cons hk.pe hv.pe pps_nil) rfl rfl (fun z => nomatch z) (Nat.le_add_left 1 14), fun P B0 F B H env σ s env' E hf Q q => by
  obtain ⟨⟨x, e1⟩, h1, h2⟩ := Option.bind_eq_some_iff.mp hf
  obtain ⟨⟨y, e2⟩, h3, h4⟩ := Option.bind_eq_some_iff.mp h2
  obtain ⟨kk, h5, h6⟩ := Option.map_eq_some_iff.mp h4
  cases h6
  intro p hp
  obtain ⟨fb, ff, fo⟩ := E.fresh hp
  have E0 : EnvOk X.K P B0 (upd F p (.dK [])) B (upd H p (.dK [])) env σ := (E.grow (Grow.open E.bh hp)).addF upd_same fb fo
  refine hk.ge P B0 _ B _ env σ x e1 E0 h1 _ fun u B1 H1 E1 s1 i1 => ?_
  refine hv.ge P B0 _ B1 H1 e1 σ y e2 E1 h3 _ fun w B2 H2 E2 s2 i2 => ?_
  obtain ⟨g1, g2, g3⟩ := E2.openF rfl
  have E3 := E2.writeF (o' := .dK [(kk, w)]) rfl
  obtain ⟨m1, m2, m3⟩ := E3.openF rfl
  refine ⟨g1, [(kk, w)], ?_, Nat.le_add_left 1 14, ?_⟩
  · rw [keyV (.fz (H := H1) i1) h5]; rfl
  · exact q p B2 _ (E3.dropF ff) (s1.trans s2) rfl ⟨p, _, rfl, upd_same, .cons i2 .nil⟩ m2 ff m3⟩
theorem vv_one {p q : V} {vs : List (Value × Value)} (h : VV [(p, q)] vs) : ∃ a b, vs = [(a, b)] ∧ RelV p a ∧ RelV q b := by
  cases h with
  | cons r t =>
    cases t
    exact ⟨_, _, rfl, r.1, r.2⟩
theorem pe_oneT {k v : Expr} {pos : Pos} {tk tv : TE} (hu : X.A.units + 100 < cLine) (hk : PE X k tk) (hv : PE X v tv) : PE X (.Dict [some k] [v] pos) (tOneT tk tv) := by
  refine ⟨fun pns st sg hp Q inv q => ?_⟩
  have hn := HOk.fresh inv.hok (Nat.le_refl st.heap.objs.size)
  have I1 := Inv.laid (t' := st.toks) inv (fun b o z => Heap.get?_push_of_some { cls := Value.type "dict", data := Data.dict #[] } z) (Nat.le_refl st.heap.objs.size) (dt_empty st.heap inv.big)
  rw [arm_eval_Dict, zip_pairTrees [some k] [v] X.env pos rfl rfl, dictDisplay_pairs _ (by simp [pairTrees]) (by simp [pairTrees])]
  refine wpAny_bind (wpAny_standAt (wpAny_bind (wpAny_subDictH (knd := tupleKind (mixKind X.prog X.w)) (show X.A.units < cLine by omega) (by simp [pairTrees]) ?_)))
  refine thn ((pps_cons hk hv pps_nil).run pns _ sg _ (fun ps H2 => H2 st.heap.objs.size = some (.dT []) ∧ ∃ k b v, ps = [(.ref b, v)] ∧ H2 b = some (.tup (k.map kV)) ∧ Q (.ref st.heap.objs.size) (upd H2 st.heap.objs.size (.dT [(k, v)]))) I1 (q _ hn)) fun vs s2 ⟨ps, H2, I2, rv, e1, kk, b, v, ep, hb, q2⟩ => ?_
  · subst ep
    obtain ⟨z1, z2, xs, z3, z4⟩ := dt_of I2.hok e1
    cases z3
    obtain ⟨b1, b2, rfl, r1', r2⟩ := vv_one rv
    have ek := key_of I2.hok hb
    cases r1'
    refine ⟨[(kk, b, b2)], ⟨rfl, rfl, ek, trivial⟩, z4, fun h' tk' dd hs => wpAny_pure ⟨.ref _, upd H2 st.heap.objs.size (.dT [(kk, v)]), ?_, rfl, q2⟩⟩
    have dd' : Heap.DictOfH (tupleKind (mixKind X.prog X.w)) h' st.heap.objs.size (storedH [] kk b b2) := dd
    obtain ⟨qo, es, ep, hq, h2, h3, h4, h5⟩ := id dd'
    refine d_write I2 (by rw [e1]; trivial) hs ⟨_, hq⟩ ⟨?_, z2, _, KT.keeps (KT.put (kvs := []) .nil kk hb r2) (fun c ys ec => ?_), qo, es, ep, hq, h2, h3, h4, h5.2⟩
    · exact Nat.le_trans (Nat.le_add_left 1 999999) (sz_ok (Nat.le_refl _))
    · rw [upd_ne (ne_of ec e1 fun z => nomatch z)]; exact ec
theorem gw_oneT {k v : Expr} {pos : Pos} {tk tv : TE} {fk fv : Sem} (hu : X.A.units + 100 < cLine) (hk : GE X k tk fk) (hv : GE X v tv fv) : GW1 X (.Dict [some k] [v] pos) (tOneT tk tv) (fOneT fk fv) := ⟨pe_oneT hu hk.pe hv.pe, fun P B0 F B H env σ s env' E hf Q q => by
  obtain ⟨⟨x, e1⟩, h1, h2⟩ := Option.bind_eq_some_iff.mp hf
  obtain ⟨⟨y, e2⟩, h3, h4⟩ := Option.bind_eq_some_iff.mp h2
  obtain ⟨kk, h5, h6⟩ := Option.map_eq_some_iff.mp h4
  cases h6
  intro p hp
  obtain ⟨fb, ff, fo⟩ := E.fresh hp
  have E0 : EnvOk X.K P B0 (upd F p (.dT [])) B (upd H p (.dT [])) env σ := (E.grow (Grow.open E.bh hp)).addF upd_same fb fo
  refine hk.ge P B0 _ B _ env σ x e1 E0 h1 _ fun u B1 H1 E1 s1 i1 => ?_
  refine hv.ge P B0 _ B1 H1 e1 σ y e2 E1 h3 _ fun w B2 H2 E2 s2 i2 => ?_
  obtain ⟨g1, g2, g3⟩ := E2.openF rfl
  have E3 := E2.writeF (o' := .dT [(kk, w)]) rfl
  obtain ⟨m1, m2, m3⟩ := E3.openF rfl
  obtain ⟨b, rfl, hb⟩ := i1.keys h5
  refine ⟨g1, kk, b, w, rfl, E2.bh _ _ (s2 _ _ hb), ?_⟩
  exact q p B2 _ (E3.dropF ff) (s1.trans s2) rfl ⟨p, _, rfl, upd_same, .cons i2 .nil⟩ m2 ff m3⟩
end
end GL
/-! Calls of the text's own defs. -/
namespace GL
open PySem L2

/-- what a def's body makes of its arguments (m names) -/
def startE (m : Nat) (ds : List D) : LEnv := ds.map Slot.val ++ List.replicate (m - ds.length) .un
def runF (m : Nat) (fb : SemS) (ds : List D) : Option D := (fb (startE m ds)).bind fun r => match r with
  | .rt d _ => some d
  | .nx _ => some .none
  | _ => none
def rowAt (env : LEnv) (i : Nat) : Option Row := match env[i]? with
  | some (.row st) => some st
  | _ => none
def runR (m : Nat) (fb : SemS) (st : Row) (ds : List D) : Option (D × Row) := (fb (.row st :: startE (m - 1) ds)).bind fun r => match r with
  | .rt d e => (rowAt e 0).map fun z => (d, z)
  | .nx e => (rowAt e 0).map fun z => (.none, z)
  | _ => none
/-- a def on data -/
def spD (K : PySem.W.Frag) (n : Nat) (fn : List D → Option D) : Sp := fun vs H Q _ => ∃ B ds d, vs.length = n ∧ Same B H ∧ IsAll K B vs ds ∧ fn ds = some d ∧ ∀ v B' H', Grow B H B' H' → Is K B' v d → Q v H'
/-- all but the row at l stands -/
structure GrowR (l : Addr) (B H B' H' : Hp) : Prop where
  b : Same B B'
  h : ∀ a o, a ≠ l → H a = some o → H' a = some o
  bh : Same B' H'
  n : ∀ a o, a ≠ l → H a = some o → B a = none → B' a = none ∨ isTupO o = true
  l : B' l = none
/-- a def to which the row is lent, ahead of data -/
def spR (K : PySem.W.Frag) (n : Nat) (fn : Row → List D → Option (D × Row)) : Sp := fun vs H Q _ => ∃ B l st us ds d st', vs = .ref l :: us ∧ us.length = n ∧ Same B H ∧ B l = none ∧ SlotOk K B H (.row st) (some (some (.ref l))) ∧ IsAll K B us ds ∧ fn st ds = some (d, st') ∧
  ∀ v B' H', GrowR l B H B' H' → SlotOk K B' H' (.row st') (some (some (.ref l))) → Is K B' v d → Q v H'
def fCall (n : Nat) (fn : List D → Option D) (r : SemL) : Sem := fun env => (r env).bind fun q => if q.1.length = n then (fn q.1).map fun d => (d, q.2) else none
def fCallR (i n : Nat) (fn : Row → List D → Option (D × Row)) (r : SemL) : Sem := fun env => match env[i]? with
  | some (.row _) => (r env).bind fun q => if q.1.length = n then match q.2[i]? with
    | some (.row st) => (fn st q.1).map fun p => (p.1, q.2.set i (.row p.2))
    | _ => none
    else none
  | _ => none
section
variable {K : PySem.W.Frag} {P : List (Nat × Addr)} {B0 F B H : Hp} {env : LEnv} {σ : L2.St}
theorem Ge.call {n : Nat} {fn : List D → Option D} {E : XK} {t : TA} {r : SemL} (h : Ga K t r) : Ge K (tCall (spD K n fn) [] E t) (fCall n fn r) := fun P B0 F B H env σ d env' E hf Q q => by
  obtain ⟨⟨ds, e1⟩, h1, h2⟩ := Option.bind_eq_some_iff.mp hf
  dsimp only at h2
  split at h2
  case isFalse => cases h2
  rename_i hn
  obtain ⟨d', h3, h4⟩ := Option.map_eq_some_iff.mp h2
  cases h4
  refine h P B0 F B H env σ ds _ E h1 _ fun vs B1 H1 E1 s1 i1 => ?_
  show spD K n fn (vs ++ []) H1 Q _
  rw [List.append_nil]
  exact ⟨B1, ds, d, by rw [i1.len]; exact hn, E1.bh, i1, h3, fun v B2 H2 g iv => q v B2 H2 (E1.grow g) (s1.trans g.b) iv⟩
theorem EnvOk.growR {B' H' : Hp} {i : Nat} {l : Addr} {st st' : Row} (E : EnvOk K P B0 F B H env σ) (he : env[i]? = some (.row st)) (hl : σ[i]? = some (some (.ref l))) (g : GrowR l B H B' H') (hs : SlotOk K B' H' (.row st') (some (some (.ref l)))) :
    EnvOk K P B0 F B' H' (env.set i (.row st')) σ := by
  have ow : OwnA (.row st) σ[i]? l := ⟨rfl, hl⟩
  obtain ⟨bl, fl⟩ := E.own i _ l he ow
  refine ⟨E.b0.trans g.b, g.bh, fun a u h => ?_, by rw [List.length_set]; exact E.len, fun j u e => ?_, fun j u a e oa => ?_, fun j k u w a n e1 e2 o1 o2 => ?_, fun p hp => ?_⟩
  · have n : a ≠ l := fun z => by rw [z, fl] at h; cases h
    exact ⟨g.h a u n (E.fr a u h).1, (E.fr a u h).2.elim (fun z => g.n a u n (E.fr a u h).1 z) .inr⟩
  · rcases set_get e with ⟨rfl, rfl⟩ | ⟨n, e⟩
    · rw [hl]; exact hs
    · refine (E.at_ j u e).up g.b fun a w oa q => ?_
      exact g.h a w (fun z => E.sep i j _ u l n he e ow (by rw [← z]; exact oa)) q
  · rcases set_get e with ⟨rfl, rfl⟩ | ⟨n, e⟩
    · have q := oa.2
      rw [hl] at q; cases q
      exact ⟨g.l, fl⟩
    · have n2 : a ≠ l := fun z => E.sep i j _ u l n he e ow (by rw [← z]; exact oa)
      obtain ⟨w, hw, nt⟩ := (E.at_ j u e).there oa
      exact ⟨(g.n a w n2 hw (E.own j u a e oa).1).elim id (fun z => by rw [nt] at z; cases z), (E.own j u a e oa).2⟩
  · rcases set_get e1 with ⟨rfl, rfl⟩ | ⟨n1, f1⟩
    · rcases set_get e2 with ⟨rfl, _⟩ | ⟨n2, f2⟩
      · exact n rfl
      · have q := o1.2
        rw [hl] at q; cases q
        exact E.sep i k _ w l n he f2 ow o2
    · rcases set_get e2 with ⟨rfl, rfl⟩ | ⟨n2, f2⟩
      · have q := o2.2
        rw [hl] at q; cases q
        exact E.sep j i u _ l n f1 he o1 ow
      · exact E.sep j k u w a n f1 f2 o1 o2
  · obtain ⟨e, ds, q, ql⟩ := E.pin p hp
    by_cases n : i = p.1
    · subst n
      exact ⟨e, _, by rw [List.getElem?_set_self (List.getElem?_eq_some_iff.mp he).1], rfl⟩
    · exact ⟨e, ds, by rw [List.getElem?_set_ne n]; exact q, ql⟩
theorem Ge.callR {i n : Nat} {fn : Row → List D → Option (D × Row)} {E : XK} {t : TA} {r : SemL} (h : Ga K t r) : Ge K (tCall (spR K n fn) [] E (tCons (tVar i) t)) (fCallR i n fn r) := fun P B0 F B H env σ d env' E hf Q q => by
  unfold fCallR at hf
  split at hf
  case h_2 => cases hf
  rename_i st0 g0
  obtain ⟨⟨ds, e1⟩, h1, h2⟩ := Option.bind_eq_some_iff.mp hf
  dsimp only at h2
  split at h2
  case isFalse => cases h2
  rename_i hn
  split at h2
  case h_2 => cases h2
  rename_i st g1
  obtain ⟨⟨d', st'⟩, h3, h4⟩ := Option.map_eq_some_iff.mp h2
  cases h4
  obtain ⟨l, a, k1, k2, k3⟩ := E.at_ i _ g0
  refine ⟨_, k1, ?_⟩
  refine h P B0 F B H env σ ds _ E h1 _ fun vs B1 H1 E1 s1 i1 => ?_
  show spR K n fn ((V.ref l :: vs) ++ []) H1 Q _
  rw [List.append_nil]
  have sl := E1.at_ i _ g1
  rw [k1] at sl
  exact ⟨B1, l, st, vs, ds, _, st', rfl, by rw [i1.len]; exact hn, E1.bh, (E1.own i _ l g1 ⟨rfl, k1⟩).1, sl, i1, h3, fun v B2 H2 g hs iv => q v B2 H2 (E1.growR g1 k1 g hs) (s1.trans g.b) iv⟩
end

/-! ### a def's promise from its body -/
theorem startE_get {m : Nat} {ds : List D} {i : Nat} {s : Slot} (h : (startE m ds)[i]? = some s) : (∃ d, ds[i]? = some d ∧ s = .val d) ∨ s = .un := by
  unfold startE at h
  rw [List.getElem?_append] at h
  split at h
  · rw [List.getElem?_map] at h
    obtain ⟨d, h1, h2⟩ := Option.map_eq_some_iff.mp h
    exact .inl ⟨d, h1, h2.symm⟩
  · rw [List.getElem?_replicate] at h
    split at h
    · cases h; exact .inr rfl
    · cases h
theorem start_get {N : List Str} {vs : List V} {i : Nat} {v : V} (h : vs[i]? = some v) : (L2.start N vs)[i]? = some (some v) := by
  unfold L2.start
  rw [List.getElem?_append_left (by rw [List.length_map]; exact (List.getElem?_eq_some_iff.mp h).1), List.getElem?_map, h]
  rfl
theorem start_len {N : List Str} {vs : List V} (h : vs.length ≤ N.length) : (L2.start N vs).length = N.length := by
  unfold L2.start
  rw [List.length_append, List.length_map, List.length_replicate]
  omega
theorem startE_len {m : Nat} {ds : List D} (h : ds.length ≤ m) : (startE m ds).length = m := by
  unfold startE
  rw [List.length_append, List.length_map, List.length_replicate]
  omega
/-- the caller's objects that aren't known for good -/
def restF (B H : Hp) (l : Option Addr) : Hp := fun a => if some a = l then none else if B a = none then H a else none
theorem restF_some {B H : Hp} {l : Option Addr} {a : Addr} {o : HO} (h : restF B H l a = some o) : some a ≠ l ∧ B a = none ∧ H a = some o := by
  unfold restF at h
  split at h
  · cases h
  · rename_i n
    split at h
    · rename_i e; exact ⟨n, e, h⟩
    · cases h
theorem restF_of {B H : Hp} {l : Option Addr} {a : Addr} {o : HO} (n : some a ≠ l) (hb : B a = none) (h : H a = some o) : restF B H l a = some o := by
  unfold restF
  rw [if_neg n, if_pos hb, h]
theorem EnvOk.start {K : PySem.W.Frag} {B H : Hp} {N : List Str} {vs : List V} {ds : List D} (e : Same B H) (ia : IsAll K B vs ds) (hl : vs.length ≤ N.length) : EnvOk K [] B (restF B H none) B H (startE N.length ds) (L2.start N vs) where
  b0 := Same.refl _
  bh := e
  fr := fun a o h => ⟨(restF_some h).2.2, .inl (restF_some h).2.1⟩
  len := by rw [start_len hl, startE_len (by rw [← ia.len]; exact hl)]
  at_ := fun i s h => by
    rcases startE_get h with ⟨d, h1, rfl⟩ | rfl
    · obtain ⟨v, h2, h3⟩ := ia.get h1
      exact ⟨v, start_get h2, h3⟩
    · trivial
  own := fun i s a h o => by
    rcases startE_get h with ⟨d, h1, rfl⟩ | rfl
    · cases o.1
    · cases o.1
  sep := fun i j s t a n h1 h2 o1 o2 => by
    rcases startE_get h1 with ⟨d, h1, rfl⟩ | rfl
    · cases o1.1
    · cases o1.1
  pin := fun p hp => by cases hp
theorem EnvOk.toGrow {K : PySem.W.Frag} {B H B' H' : Hp} {env : LEnv} {σ : L2.St} (e : Same B H) (E : EnvOk K [] B (restF B H none) B' H' env σ) : Grow B H B' H' where
  b := E.b0
  h := fun a o h => by
    cases q : B a with
    | none => exact (E.fr a o (restF_of (by simp) q h)).1
    | some u => rw [e _ _ q] at h; cases h; exact E.bh _ _ (E.b0 _ _ q)
  bh := E.bh
  n := fun a o h q => (E.fr a o (restF_of (by simp) q h)).2
theorem row_start_get {m : Nat} {ds : List D} {st : Row} {i : Nat} {s : Slot} (h : (Slot.row st :: startE m ds)[i]? = some s) : (i = 0 ∧ s = .row st) ∨ ∃ j, i = j + 1 ∧ ((∃ d, ds[j]? = some d ∧ s = .val d) ∨ s = .un) := by
  cases i with
  | zero => cases h; exact .inl ⟨rfl, rfl⟩
  | succ j => exact .inr ⟨j, rfl, startE_get h⟩
theorem EnvOk.startR {K : PySem.W.Frag} {B H : Hp} {N : List Str} {us : List V} {ds : List D} {l : Addr} {st : Row} (e : Same B H) (hb : B l = none) (hs : SlotOk K B H (.row st) (some (some (.ref l)))) (ia : IsAll K B us ds) (hl : us.length < N.length) :
    EnvOk K [(0, l)] B (restF B H (some l)) B H (.row st :: startE (N.length - 1) ds) (L2.start N (.ref l :: us)) := by
  have nope : ∀ {i : Nat} {s : Slot} {a : Addr}, (Slot.row st :: startE (N.length - 1) ds)[i]? = some s → OwnA s (L2.start N (.ref l :: us))[i]? a → i = 0 ∧ a = l := fun {i s a} h o => by
    rcases row_start_get h with ⟨rfl, rfl⟩ | ⟨j, rfl, ⟨d, h1, rfl⟩ | rfl⟩
    · have q := o.2
      rw [start_get (v := .ref l) rfl] at q
      cases q; exact ⟨rfl, rfl⟩
    · cases o.1
    · cases o.1
  exact {
    b0 := Same.refl _
    bh := e
    fr := fun a o h => ⟨(restF_some h).2.2, .inl (restF_some h).2.1⟩
    len := by rw [start_len (by simp; omega), List.length_cons, startE_len (by rw [← ia.len]; omega)]; omega
    at_ := fun i s h => by
      rcases row_start_get h with ⟨rfl, rfl⟩ | ⟨j, rfl, ⟨d, h1, rfl⟩ | rfl⟩
      · rw [start_get (v := .ref l) rfl]; exact hs
      · obtain ⟨v, h2, h3⟩ := ia.get h1
        exact ⟨v, start_get h2, h3⟩
      · trivial
    own := fun i s a h o => by
      obtain ⟨_, rfl⟩ := nope h o
      exact ⟨hb, by unfold restF; rw [if_pos rfl]⟩
    sep := fun i j s t a n h1 h2 o1 o2 => n ((nope h1 o1).1.trans (nope h2 o2).1.symm)
    pin := fun p hp => by
      rw [List.mem_singleton.mp hp]
      exact ⟨start_get rfl, _, rfl, rfl⟩ }
theorem EnvOk.toGrowR {K : PySem.W.Frag} {B H B' H' : Hp} {env : LEnv} {σ : L2.St} {l : Addr} {st' : Row} (e : Same B H) (E : EnvOk K [(0, l)] B (restF B H (some l)) B' H' env σ) (hr : rowAt env 0 = some st') : GrowR l B H B' H' ∧ SlotOk K B' H' (.row st') (some (some (.ref l))) := by
  obtain ⟨p1, s, p2, _⟩ := E.pin (0, l) (List.mem_singleton.mpr rfl)
  dsimp only at p1 p2
  unfold rowAt at hr
  rw [p2] at hr
  cases s <;> cases hr
  have sl := E.at_ 0 _ p2
  rw [p1] at sl
  refine ⟨⟨E.b0, fun a o n h => ?_, E.bh, fun a o n h q => (E.fr a o (restF_of (fun z => n (Option.some.inj z)) q h)).2, (E.own 0 _ l p2 ⟨rfl, p1⟩).1⟩, sl⟩
  cases q : B a with
  | none => exact (E.fr a o (restF_of (fun z => n (Option.some.inj z)) q h)).1
  | some u => rw [e _ _ q] at h; cases h; exact E.bh _ _ (E.b0 _ _ q)
section
variable {Pr : Program} {w : World} {K : PySem.W.Frag} {mg : Str → Option Value} {base : Heap} {x qual : Str} {st : Stmt} {f : Addr} {fd : FuncData} {N ps : List Str} {k : Nat} {fb : SemS}
/-- the frame of a def's call -/
abbrev bodyX (Pr : Program) (w : World) (K : PySem.W.Frag) (mg : Str → Option Value) (base : Heap) (N : List Str) (qual : Str) (st : Stmt) (f : Addr) (cdv : Value) (A : Around) (outer : List Env) (s : Shared) (H : Hp) (E : XK) : Cx := Cx.nox (cxOf CX0 Pr w K mg base N qual (defScope st) f cdv A outer s H E)
theorem fnOk_D (hF : Fun K x qual st f fd) (S : FnScope N ps (defScope st)) (hn : ps.length ≤ N.length)
    (hb : ∀ (cdv : Value) (A : Around) (outer : List Env) (s : Shared) (H : Hp) (E : XK), Room k (A.deeper (PyProof.Rows.envOfC qual (defScope st) s.heap.objs.size f cdv)) → ∃ t, GSs (bodyX Pr w K mg base N qual st f cdv A outer s H E) (defBody st) t fb) :
    FnOk Pr w K mg base CX0 (k + 1) f fd ps (spD K ps.length (runF N.length fb)) := by
  refine Fun.ok hF S (fun vs H Q E ⟨_, _, _, h, _⟩ => h) fun cdv A outer s H vs Q E hr ⟨B, ds, d, hl, e, ia, hf, q⟩ => ?_
  obtain ⟨t, gt⟩ := hb cdv A outer s H E hr
  refine ⟨t, gt.ps, ?_⟩
  obtain ⟨r, h1, h2⟩ := Option.bind_eq_some_iff.mp hf
  refine gt.gs [] B _ B H _ _ r (EnvOk.start (N := N) e ia (by rw [hl]; exact hn)) h1 _ ?_
  cases r with
  | nx e1 => cases h2; exact fun σ' B' H' E' => q _ B' H' (E'.toGrow e) .non
  | rt d1 e1 => cases h2; exact fun v σ' B' H' E' iv => q v B' H' (E'.toGrow e) iv
  | bk e1 => cases h2
  | ct e1 => cases h2
theorem fnOk_R (hF : Fun K x qual st f fd) (S : FnScope N ps (defScope st)) (hn : ps.length ≤ N.length) (n : Nat) (hp : ps.length = n + 1)
    (hb : ∀ (cdv : Value) (A : Around) (outer : List Env) (s : Shared) (H : Hp) (E : XK), Room k (A.deeper (PyProof.Rows.envOfC qual (defScope st) s.heap.objs.size f cdv)) → ∃ t, GSs (bodyX Pr w K mg base N qual st f cdv A outer s H E) (defBody st) t fb) :
    FnOk Pr w K mg base CX0 (k + 1) f fd ps (spR K n (runR N.length fb)) := by
  refine Fun.ok hF S (fun vs H Q E ⟨_, _, _, us, _, _, _, h, h', _⟩ => by rw [h, hp, List.length_cons, h']) fun cdv A outer s H vs Q E hr ⟨B, l, sr, us, ds, d, st', hv, hl, e, bl, hs, ia, hf, q⟩ => ?_
  subst hv
  obtain ⟨t, gt⟩ := hb cdv A outer s H E hr
  refine ⟨t, gt.ps, ?_⟩
  obtain ⟨r, h1, h2⟩ := Option.bind_eq_some_iff.mp hf
  refine gt.gs [(0, l)] B _ B H _ _ r (EnvOk.startR (N := N) e bl hs ia (by omega)) h1 _ ?_
  cases r with
  | nx e1 =>
    obtain ⟨z, h3, h4⟩ := Option.map_eq_some_iff.mp h2
    cases h4
    exact fun σ' B' H' E' => q _ B' H' (E'.toGrowR e h3).1 (E'.toGrowR e h3).2 .non
  | rt d1 e1 =>
    obtain ⟨z, h3, h4⟩ := Option.map_eq_some_iff.mp h2
    cases h4
    exact fun v σ' B' H' E' iv => q v B' H' (E'.toGrowR e h3).1 (E'.toGrowR e h3).2 iv
  | bk e1 => cases h2
  | ct e1 => cases h2
end
section
variable {X : Cx} {k n : Nat} {f : Addr} {fd : FuncData} {ps : List Str} {x : Str} {p pos : Pos} {e : Expr} {es : List Expr} {t : TA} {r : SemL}
theorem ge_call {fn : List D → Option D} (F : FnOk X.prog X.w X.K X.mg X.base CX0 k f fd ps (spD X.K n fn)) (hr : Room k X.A) (hm : X.mg x = some (.ref f)) (hk : PySem.W.keepIn X.K (.ref f) = true) (hb : Binds X.K fd ps []) (ha : GA X (e :: es) t r) (hg : Gl X x := by rfl)
    (h1 : (x == Str.ofString "__debug__") = false := by rfl) (h2 : starEach (e :: es) X.env = (false, eval e X.env) :: starEach es X.env := by rfl) (h3 : (backTo pos (starEach es X.env)).any (·.1) = false := by rfl) :
    GE X (.Call (.Name x p) (e :: es) [] pos) (tCall (spD X.K n fn) [] E0 t) (fCall n fn r) := ⟨pe_call F hr hg hm hk hb .nil pass0 ha.pa h1 h2 h3, Ge.call ha.ga⟩
theorem ge_callR {i : Nat} {fn : Row → List D → Option (D × Row)} (F : FnOk X.prog X.w X.K X.mg X.base CX0 k f fd ps (spR X.K n fn)) (hr : Room k X.A) (hm : X.mg x = some (.ref f)) (hk : PySem.W.keepIn X.K (.ref f) = true) (hb : Binds X.K fd ps []) (he : PE X e (tVar i)) (ha : GA X es t r) (hg : Gl X x := by rfl)
    (h1 : (x == Str.ofString "__debug__") = false := by rfl) (h2 : starEach (e :: es) X.env = (false, eval e X.env) :: starEach es X.env := by rfl) (h3 : (backTo pos (starEach es X.env)).any (·.1) = false := by rfl) :
    GE X (.Call (.Name x p) (e :: es) [] pos) (tCall (spR X.K n fn) [] E0 (tCons (tVar i) t)) (fCallR i n fn r) := ⟨pe_call F hr hg hm hk hb .nil pass0 (pa_cons he ha.pa h2) h1 h2 h3, Ge.callR ha.ga⟩
end
end GL
/-! Slices, tests by truth, chains, comprehensions that a name gets. -/
namespace GL
open PySem L2

/-! ### slices -/
def cutD (xs : List D) (lo hi : Option Int) : List D := (xs.drop (HT.sIx xs.length 0 lo)).take (HT.sIx xs.length xs.length hi - HT.sIx xs.length 0 lo)
def sliceD (x : D) (lo hi : Option Int) : Option D := match x with
  | .list ds => some (.list (cutD ds lo hi))
  | .tuple ds => some (.tuple (cutD ds lo hi))
  | _ => none
abbrev SemO := LEnv → Option (Option Int × LEnv)
def foNone : SemO := fun env => some (none, env)
def foSome (f : Sem) : SemO := fun env => (f env).bind fun p => match p.1 with
  | .int i => some (some i, p.2)
  | _ => none
structure GO (X : Cx) (e : Option Expr) (t : TO) (f : SemO) : Prop where
  po : PO X e t
  go : ∀ (P : List (Nat × Addr)) (B0 F B H : Hp) (env : LEnv) (σ : L2.St) (o : Option Int) (env' : LEnv), EnvOk X.K P B0 F B H env σ → f env = some (o, env') →
    ∀ Q : Option Int → Hp → Prop, (∀ B' H', EnvOk X.K P B0 F B' H' env' σ → Same B B' → Q o H') → t σ H Q
def rSlG (K : PySem.W.Frag) : V → Option Int → Option Int → Hp → VK → Prop := fun x lo hi H Q => rSlL K x lo hi H Q ∨ rSlN K x lo hi H Q
def fSl (a : Sem) (lo hi : SemO) : Sem := fun env => (a env).bind fun p => (lo p.2).bind fun l => (hi l.2).bind fun h => (sliceD p.1 l.1 h.1).map fun d => (d, h.2)
theorem IsAll.cut {K : PySem.W.Frag} {B : Hp} {vs : List V} {ds : List D} (h : IsAll K B vs ds) (lo hi : Option Int) : IsAll K B (cutV vs lo hi) (cutD ds lo hi) := by
  unfold cutV cutD
  rw [h.len]
  exact (h.drop _).take _
section
variable {X : Cx}
theorem go_none : GO X none tNoPart foNone := ⟨po_none, fun P B0 F B H env σ o env' E hf Q q => by
  cases hf
  exact q B H E (Same.refl _)⟩
theorem go_some {e : Expr} {te : TE} {f : Sem} (h : GE X e te f) : GO X (some e) (tPart te) (foSome f) := ⟨po_some h.pe, fun P B0 F B H env σ o env' E hf Q q => by
  obtain ⟨⟨d, e1⟩, h1, h2⟩ := Option.bind_eq_some_iff.mp hf
  cases d with
  | int i =>
    cases h2
    refine h.ge P B0 F B H env σ _ _ E h1 _ fun v B' H' E' s iv => ?_
    exact ⟨i, iv.int', q B' H' E' s⟩
  | _ => cases h2⟩
theorem ge_slice {e : Expr} {te : TE} {lo hi : Option Expr} {tl th : TO} {pos p2 : Pos} {f : Sem} {fl fh : SemO} (h : GE X e te f) (hl : GO X lo tl fl) (hh : GO X hi th fh) : GE X (.Subscript e (.Slice lo hi none p2) pos) (tSl (rSlG X.K) te tl th) (fSl f fl fh) :=
  ⟨pe_slice (SlR.or sl_list sl_tupN) h.pe hl.po hh.po, fun P B0 F B H env σ d env' E hf Q q => by
    obtain ⟨⟨x, e1⟩, h1, h2⟩ := Option.bind_eq_some_iff.mp hf
    obtain ⟨⟨l, e2⟩, h3, h4⟩ := Option.bind_eq_some_iff.mp h2
    obtain ⟨⟨u, e3⟩, h5, h6⟩ := Option.bind_eq_some_iff.mp h4
    obtain ⟨z, h7, h8⟩ := Option.map_eq_some_iff.mp h6
    cases h8
    refine h.ge P B0 F B H env σ x e1 E h1 _ fun v B1 H1 E1 s1 i1 => ?_
    refine hl.go P B0 F B1 H1 e1 σ l e2 E1 h3 _ fun B2 H2 E2 s2 => ?_
    refine hh.go P B0 F B2 H2 e2 σ u _ E2 h5 _ fun B3 H3 E3 s3 => ?_
    have i3 := i1.up (s2.trans s3)
    have s := (s1.trans s2).trans s3
    cases x with
    | list ds =>
      cases h7
      cases i3 with
      | @lst a vs _ ha hl =>
        refine .inl ⟨_, _, rfl, SqL.of (E3.bh _ _ ha), fun p hp => ?_⟩
        have g := Grow.new (o := .lst (cutV vs l u)) E3.bh hp
        exact q _ _ _ (E3.grow g) (s.trans g.b) (.lst upd_same ((hl.cut l u).up g.b))
    | tuple ds =>
      cases h7
      cases i3 with
      | @tup a vs _ ha hl =>
        refine .inr ⟨_, _, rfl, ha.sq E3.bh, fun hw => ?_, fun _ p o hp ho => ?_⟩
        · refine q _ _ _ E3 s (.tup ha ?_)
          have hc := hl.cut l u
          unfold cutV at hc
          rw [hw.1, hw.2, List.drop_zero, Nat.sub_zero, List.take_length] at hc
          exact hc
        · have g := Grow.new (o := mkTup (cutV vs l u) o) E3.bh hp
          exact q _ _ _ (E3.grow g) (s.trans g.b) (.tup (.new ho) ((hl.cut l u).up g.b))
    | _ => cases h7⟩

/-! ### tests by truth -/
def truD : D → Option Bool
  | .none => some false
  | .bool b => some b
  | .int i => some (i != 0)
  | .list ds => some (!ds.isEmpty)
  | .tuple ds => some (!ds.isEmpty)
  | _ => none
def fTruth (f : Sem) : SemB := fun env => (f env).bind fun p => (truD p.1).map fun b => (b, p.2)
theorem IsAll.emp {K : PySem.W.Frag} {B : Hp} {vs : List V} {ds : List D} (h : IsAll K B vs ds) : vs.isEmpty = ds.isEmpty := by cases h <;> rfl
theorem IsK.emp {K : PySem.W.Frag} {B : Hp} {vs : List (Key × V)} {ds : List (D × D)} (h : IsK K B vs ds) : vs.isEmpty = ds.isEmpty := by cases h <;> rfl
theorem gt_truth {a : Expr} {ta : TE} {f : Sem} (h : GP X a ta f) (he : ∀ whole, isTrue a X.env whole = (do let v ← whole; standAt a.pos; holding [v] (truthy v)) := by intro _; rfl) : GT X a (fun σ H Q => ta σ H fun x H' => ∃ k, TruV X.K x H' k ∧ Q k H') (fTruth f) :=
  ⟨pt_truth h.pe he, fun P B0 F B H env σ b env' E hf Q q => by
    obtain ⟨⟨d, e1⟩, h1, h2⟩ := Option.bind_eq_some_iff.mp hf
    obtain ⟨b', h3, h4⟩ := Option.map_eq_some_iff.mp h2
    cases h4
    refine h.ge P B0 F B H env σ d _ E h1 _ fun v B' H' E' s iv => ⟨b, ?_, q B' H' E' s⟩
    cases d with
    | none => cases h3; rw [iv.non]; rfl
    | bool c => cases h3; rw [iv.bl]; rfl
    | int i => cases h3; rw [iv.int]; rfl
    | list ds =>
      cases h3
      obtain ⟨l, vs, rfl, hl, il⟩ := iv.list E'.bh
      exact .inl ⟨vs, SqL.of hl, by rw [il.emp]⟩
    | tuple ds =>
      cases h3
      obtain ⟨l, vs, rfl, hl, il⟩ := iv.tup E'.bh
      exact .inr (.inl ⟨vs, hl.sq E'.bh, by rw [il.emp]⟩)
    | _ => cases h3⟩

/-! ### a < b < c -/
def fChain (g g' : D → D → Option D) (a b c : Sem) : Sem := fun env => (a env).bind fun p => (b p.2).bind fun q => (g p.1 q.1).bind fun z => match z with
  | .bool true => (c q.2).bind fun r => (g' q.1 r.1).map fun z => (z, r.2)
  | .bool false => some (.bool false, q.2)
  | _ => none
theorem Ge.chain {K : PySem.W.Frag} {r r' : R2} {g g' : D → D → Option D} {ta tb tc : TE} {fa fb fc : Sem} (h : OpS K r g) (h' : OpS K r' g') (ha : Ge K ta fa) (hb : Ge K tb fb) (hc : Gp K tc fc) : Ge K (tChain r r' ta tb tc) (fChain g g' fa fb fc) := fun P B0 F B H env σ d env' E hf Q q => by
  obtain ⟨⟨x, e1⟩, h1, h2⟩ := Option.bind_eq_some_iff.mp hf
  obtain ⟨⟨y, e2⟩, h3, h4⟩ := Option.bind_eq_some_iff.mp h2
  obtain ⟨z, h5, h6⟩ := Option.bind_eq_some_iff.mp h4
  refine ha P B0 F B H env σ x e1 E h1 _ fun v B1 H1 E1 s1 i1 => ?_
  refine hb P B0 F B1 H1 e1 σ y e2 E1 h3 _ fun u B2 H2 E2 s2 i2 => ?_
  refine h B2 H2 v u x y z E2.bh (.fz (i1.up s2)) (.fz i2) h5 _ fun w B3 H3 gr iw => ?_
  have E3 := E2.grow gr
  have s := (s1.trans s2).trans gr.b
  cases z with
  | bool b =>
    refine ⟨b, iw.bl', ?_⟩
    cases b with
    | false =>
      cases h6
      rw [if_neg Bool.false_ne_true]
      exact q _ B3 H3 E3 s (.bl _)
    | true =>
      rw [if_pos rfl]
      obtain ⟨⟨t, e3⟩, h7, h8⟩ := Option.bind_eq_some_iff.mp h6
      obtain ⟨z', h9, h10⟩ := Option.map_eq_some_iff.mp h8
      cases h10
      refine hc P B0 F B3 H3 e2 σ t _ E3 h7 _ fun w' B4 H4 E4 s4 i4 => ?_
      exact h' B4 H4 u w' y t _ E4.bh (.fz (i2.up (gr.b.trans s4))) i4 h9 _ fun w2 B5 H5 g5 i5 => q w2 B5 H5 (E4.grow g5) ((s.trans s4).trans g5.b) i5
  | _ => cases h6
theorem ge_chain {op op' : CmpOp} {r r' : R2} {g g' : D → D → Option D} {a b c : Expr} {pos : Pos} {ta tb tc : TE} {fa fb fc : Sem} (h : OpG X (compareOp op) r g) (h' : OpG X (compareOp op') r' g') (ha : GE X a ta fa) (hb : GE X b tb fb) (hc : GP X c tc fc) (hm : lastMarks [op, op'] [b, c] = false := by rfl) :
    GE X (.Compare a [op, op'] [b, c] pos) (tChain r r' ta tb tc) (fChain g g' fa fb fc) := ⟨pe_chain h.op h'.op ha.pe hb.pe hc.pe hm, Ge.chain h.sem h'.sem ha.ge hb.ge hc.ge⟩
theorem gt_chain {op op' : CmpOp} {r r' : R2} {g g' : D → D → Option D} {a b c : Expr} {pos : Pos} {ta tb tc : TE} {fa fb fc : Sem} (h : OpG X (compareOp op) r g) (h' : OpG X (compareOp op') r' g') (ha : GE X a ta fa) (hb : GE X b tb fb) (hc : GP X c tc fc) (hm : lastMarks [op, op'] [b, c] = false := by rfl) :
    GT X (.Compare a [op, op'] [b, c] pos) (tTest (tChain r r' ta tb tc)) (fTest (fChain g g' fa fb fc)) := ⟨pt_chain h.op h'.op ha.pe hb.pe hc.pe hm, Gt.test (Ge.chain h.sem h'.sem ha.ge hb.ge hc.ge)⟩

/-! ### y = [..] -/
/-- a comprehension's parts -/
structure GC (X : Cx) (elt tg iter : Expr) (ifs : List Expr) (scope : Scope) (own : List (Str × Nat)) (wi : TI) (g : TG) (tt : TT) (te : TE) (f : SemL) : Prop where
  hi : PI X tg iter wi
  ok : BlkOk X.N X.env.scope scope own
  hg : ∀ (s : Shared) (H : Hp) (C : Addr) (cl : List (Str × Addr)) (fp : List Addr), PG (X.blk s H scope (compEnvC scope cl C X.env) fp) tg g
  ht : ∀ (s : Shared) (H : Hp) (C : Addr) (cl : List (Str × Addr)) (fp : List Addr), PTs (X.blk s H scope (compEnvC scope cl C X.env) fp) ifs tt
  he : ∀ (s : Shared) (H : Hp) (C : Addr) (cl : List (Str × Addr)) (fp : List Addr), PE (X.blk s H scope (compEnvC scope cl C X.env) fp) elt te
  gn : Gn X.K (tLc wi g tt te (own.map (·.2))) f
theorem gc {elt tg iter : Expr} {ifs : List Expr} {scope : Scope} {own : List (Str × Nat)} {wi : TI} {g : TG} {tt : TT} {te : TE} {fi : SemL} {fg : SemG} {ft : SemB} {fe : Sem} {ws : List Nat} (hi : GI X tg iter wi fi) (ok : BlkOk X.N X.env.scope scope own)
    (hg : ∀ (s : Shared) (H : Hp) (C : Addr) (cl : List (Str × Addr)) (fp : List Addr), GG (X.blk s H scope (compEnvC scope cl C X.env) fp) tg g fg ws) (ht : ∀ (s : Shared) (H : Hp) (C : Addr) (cl : List (Str × Addr)) (fp : List Addr), GTs (X.blk s H scope (compEnvC scope cl C X.env) fp) ifs tt ft)
    (he : ∀ (s : Shared) (H : Hp) (C : Addr) (cl : List (Str × Addr)) (fp : List Addr), GE (X.blk s H scope (compEnvC scope cl C X.env) fp) elt te fe) (hw : ∀ i ∈ ws, i ∈ own.map (·.2) := by decide) : GC X elt tg iter ifs scope own wi g tt te (fLc fi fg ft fe (own.map (·.2))) :=
  ⟨hi.pi, ok, fun a b c d e => (hg a b c d e).pg, fun a b c d e => (ht a b c d e).pt, fun a b c d e => (he a b c d e).pe, Gn.lc hi.gi (hg X.s_0 X.H_0 0 [] []).gg (ht X.s_0 X.H_0 0 [] []).gt (he X.s_0 X.H_0 0 [] []).ge hw⟩
theorem GC.gn_ {elt tg iter : Expr} {ifs : List Expr} {scope : Scope} {own : List (Str × Nat)} {pos : Pos} {wi : TI} {g : TG} {tt : TT} {te : TE} {f : SemL} (h : GC X elt tg iter ifs scope own wi g tt te f) (hc : X.calm = true) (hN : X.N.Nodup) (hs : ∀ x, foldedSetIterable iter X.env x = pure x := by intro _; rfl) :
    GN X (.ListComp elt [⟨tg, iter, ifs, 0⟩] scope pos) (tLc wi g tt te (own.map (·.2))) f := ⟨pe_lc hc hN h.hi h.ok h.hg h.ht h.he hs, h.gn⟩
theorem gs_setLc {elt tg iter : Expr} {ifs : List Expr} {scope : Scope} {own : List (Str × Nat)} {pos spos py : Pos} {i : Nat} {y : Str} {wi : TI} {g : TG} {tt : TT} {te : TE} {f : SemL} (h : GC X elt tg iter ifs scope own wi g tt te f) (hc : X.calm = true) (hN : X.N.Nodup)
    (hsw : swapsWith (.ListComp elt [⟨tg, iter, ifs, 0⟩] scope pos) (some (.Name y py)) spos.line X.env = pure true) (hi : X.N[i]? = some y := by rfl) (hl : X.env.scope.names.lookup y = some .local := by rfl) (hs : ∀ x, foldedSetIterable iter X.env x = pure x := by intro _; rfl) :
    GS X (.Assign [.Name y py] (.ListComp elt [⟨tg, iter, ifs, 0⟩] scope pos) spos) (tAsg (tLc wi g tt te (own.map (·.2))) (gName i)) (sAsgO i f) := ⟨ps_setLc hc hN hi hl hsw h.hi h.ok h.hg h.ht h.he hs, Gs.asgO h.gn⟩
end
end GL
/-! Walks of a dict's keys: the dict is locked meanwhile. -/
namespace GL
open PySem L2

/-- the same dict of numbers and texts, locked or not -/
def Twin (o1 o2 : HO) : Prop := ∃ kvs, (o1 = .dK kvs ∨ ∃ od, o1 = .frz od (.dK kvs)) ∧ (o2 = .dK kvs ∨ ∃ od, o2 = .frz od (.dK kvs))
theorem Twin.symm {o1 o2 : HO} (h : Twin o1 o2) : Twin o2 o1 := by obtain ⟨k, a, b⟩ := h; exact ⟨k, b, a⟩
theorem Twin.tup {o1 o2 : HO} (h : Twin o1 o2) : isTupO o1 = false := by
  obtain ⟨k, a | ⟨od, a⟩, _⟩ := h
  · subst a; rfl
  · subst a; rfl
section
variable {K : PySem.W.Frag} {B : Hp} {d : Addr} {o1 o2 : HO}
theorem twin_ne {a : Addr} {o : HO} (h : B d = some o1) (t : Twin o1 o2) (e : B a = some o) (no : ∀ kvs, o ≠ .dK kvs ∧ ∀ od, o ≠ .frz od (.dK kvs)) : a ≠ d := fun z => by
  subst z
  rw [h] at e
  cases e
  obtain ⟨k, q | ⟨od, q⟩, _⟩ := t
  · exact (no k).1 q
  · exact (no k).2 od q
theorem twin_rd {a : Addr} {kvs : List (Key × V)} (h : B d = some o1) (t : Twin o1 o2) (e : Rd B a (.dK kvs)) : Rd (upd B d o2) a (.dK kvs) := by
  by_cases z : a = d
  · subst z
    obtain ⟨k, q, q2⟩ := t
    have ek : k = kvs := by
      rcases e with e | ⟨o, e⟩
      · rw [h] at e; cases e
        rcases q with q | ⟨od, q⟩
        · cases q; rfl
        · cases q
      · rw [h] at e; cases e
        rcases q with q | ⟨od, q⟩
        · cases q
        · cases q; rfl
    subst ek
    rcases q2 with q2 | ⟨od, q2⟩
    · subst q2; exact .inl upd_same
    · subst q2; exact .inr ⟨od, upd_same⟩
  · rcases e with e | ⟨o, e⟩
    · exact .inl (by rw [upd_ne z]; exact e)
    · exact .inr ⟨o, by rw [upd_ne z]; exact e⟩
theorem TupAt.twin {a : Addr} {xs : List V} (h : B d = some o1) (t : Twin o1 o2) (e : TupAt B a xs) : TupAt (upd B d o2) a xs := by
  obtain ⟨o, h1, h2⟩ := e
  refine ⟨o, h1, ?_⟩
  rw [upd_ne (twin_ne h t h2 fun k => ?_)]
  · exact h2
  · unfold mkTup
    split
    · exact ⟨(fun z => nomatch z), fun od z => nomatch z⟩
    · exact ⟨(fun z => nomatch z), fun od z => nomatch z⟩
mutual
theorem Is.twin (h : B d = some o1) (t : Twin o1 o2) : ∀ {v : V} {x : D}, Is K B v x → Is K (upd B d o2) v x
  | _, _, .non => .non
  | _, _, .bl b => .bl b
  | _, _, .int i => .int i
  | _, _, .str x => .str x
  | _, _, .lst e r => .lst (by rw [upd_ne (twin_ne h t e fun k => ⟨(fun z => nomatch z), fun od z => nomatch z⟩)]; exact e) (IsAll.twin h t r)
  | _, _, .tup e r => .tup (e.twin h t) (IsAll.twin h t r)
  | _, _, .dk e r => .dk (twin_rd h t e) (IsK.twin h t r)
theorem IsAll.twin (h : B d = some o1) (t : Twin o1 o2) : ∀ {vs : List V} {xs : List D}, IsAll K B vs xs → IsAll K (upd B d o2) vs xs
  | _, _, .nil => .nil
  | _, _, .cons e r => .cons (Is.twin h t e) (IsAll.twin h t r)
theorem IsK.twin (h : B d = some o1) (t : Twin o1 o2) : ∀ {vs : List (Key × V)} {xs : List (D × D)}, IsK K B vs xs → IsK K (upd B d o2) vs xs
  | _, _, .nil => .nil
  | _, _, .cons e r => .cons (Is.twin h t e) (IsK.twin h t r)
end
theorem OpK.twin {κ : Type} (h : B d = some o1) (t : Twin o1 o2) {vs : List (κ × V)} {xs : List (κ × D)} (i : OpK K B vs xs) : OpK K (upd B d o2) vs xs := by
  induction i with
  | nil => exact .nil
  | cons e _ ih => exact .cons (e.twin h t) ih
theorem OpN.twin (h : B d = some o1) (t : Twin o1 o2) {vs : List NEnt} {xs : List (NKey × D)} (i : OpN K B vs xs) : OpN K (upd B d o2) vs xs := by
  induction i with
  | nil => exact .nil
  | cons a b c _ ih => exact .cons a (b.twin h t) (c.twin h t) ih
theorem SqL.twin {a : Addr} {xs : List V} (h : B d = some o1) (t : Twin o1 o2) (i : SqL K B a xs) : SqL K (upd B d o2) a xs := by
  rcases i with (i | ⟨o, i⟩) | i
  · exact .inl (.inl (by rw [upd_ne (twin_ne h t i fun k => ⟨(fun z => nomatch z), fun od z => nomatch z⟩)]; exact i))
  · exact .inl (.inr ⟨o, by rw [upd_ne (twin_ne h t i fun k => ⟨(fun z => nomatch z), fun od z => nomatch z⟩)]; exact i⟩)
  · exact .inr i
end
theorem EnvOk.twin {K : PySem.W.Frag} {P : List (Nat × Addr)} {B0 F B H : Hp} {env : LEnv} {σ : L2.St} {d : Addr} {o1 o2 : HO} (E : EnvOk K P B0 F B H env σ) (h : B d = some o1) (t : Twin o1 o2) : EnvOk K P (upd B d o2) F (upd B d o2) (upd H d o2) env σ where
  b0 := Same.refl _
  bh := fun a u e => by
    by_cases z : a = d
    · subst z; rw [upd_same] at e ⊢; exact e
    · rw [upd_ne z] at e ⊢; exact E.bh _ _ e
  fr := fun a u e => by
    have z : a ≠ d := fun z => by
      subst z
      rcases (E.fr a u e).2 with q | q
      · rw [h] at q; cases q
      · have hh := (E.fr a u e).1
        rw [E.bh _ _ h] at hh
        cases hh
        rw [t.tup] at q; cases q
    rw [upd_ne z, upd_ne z]
    exact E.fr a u e
  len := E.len
  at_ := fun i s e => by
    have nd : ∀ a, OwnA s σ[i]? a → a ≠ d := fun a oa z => by
      have := (E.own i s a e oa).1
      rw [z, h] at this; cases this
    have sl := E.at_ i s e
    cases s with
    | un => trivial
    | val x => obtain ⟨v, q, i⟩ := sl; exact ⟨v, q, i.twin h t⟩
    | ol ds => obtain ⟨l, vs, e, q, i⟩ := sl; exact ⟨l, vs, e, by rw [upd_ne (nd l ⟨rfl, e⟩)]; exact q, i.twin h t⟩
    | row st => obtain ⟨l, vs, e, q, i⟩ := sl; exact ⟨l, vs, e, by rw [upd_ne (nd l ⟨rfl, e⟩)]; exact q, SqL.twin h t i⟩
    | dk ds => obtain ⟨l, vs, e, q, i⟩ := sl; exact ⟨l, vs, e, by rw [upd_ne (nd l ⟨rfl, e⟩)]; exact q, i.twin h t⟩
    | dt ds => obtain ⟨l, vs, e, q, i⟩ := sl; exact ⟨l, vs, e, by rw [upd_ne (nd l ⟨rfl, e⟩)]; exact q, i.twin h t⟩
    | dn ds => obtain ⟨l, vs, e, q, i⟩ := sl; exact ⟨l, vs, e, by rw [upd_ne (nd l ⟨rfl, e⟩)]; exact q, i.twin h t⟩
    | ln ds => obtain ⟨l, vs, e, q, i⟩ := sl; exact ⟨l, vs, e, by rw [upd_ne (nd l ⟨rfl, e⟩)]; exact q, i.twin h t⟩
  own := fun i s a e oa => by
    obtain ⟨q1, q2⟩ := E.own i s a e oa
    exact ⟨by rw [upd_ne (fun z => by rw [z, h] at q1; cases q1)]; exact q1, q2⟩
  sep := E.sep
  pin := E.pin
theorem it_keys {K : PySem.W.Frag} {d : Addr} {od : Obj} {kvs : List (Key × V)} {ds : List (D × D)} {B : Hp} (h : B d = some (.frz od (.dK kvs))) (hl : IsK K B kvs ds) : ItOk K (Itk d od kvs) (ds.map (·.1)) B where
  go := fun i B' H' e1 e2 hi => ⟨e2 _ _ (e1 _ _ h), by rw [hl.len]; simpa using hi⟩
  stop := fun i B' H' e1 e2 hi => ⟨e2 _ _ (e1 _ _ h), by rw [hl.len]; simpa using hi⟩
  yld := fun i B' H' H2 x y e1 e2 hd yl => by
    obtain ⟨e, k, v, hk, ex⟩ := yl
    subst e ex
    have hv : (kvs.map fun kv => kV kv.1)[i]? = some (kV k) := by rw [List.getElem?_map, hk]; rfl
    obtain ⟨u, h1, h2⟩ := (hl.keys).get hd
    rw [hv] at h1
    cases h1
    exact ⟨B', .refl e2, h2.up e1⟩
/-- the keys of the dict that slot i holds -/
def fKeys (i : Nat) : SemL := fun env => match env[i]? with
  | some (.val (.dict ds)) => some (ds.map (·.1), env)
  | _ => none
def tOrLock (t : TE) : TE := fun σ H Q => tLockE t σ H Q ∨ t σ H Q
theorem Gn.lcK {K : PySem.W.Frag} {g : TG} {tt : TT} {te : TE} {vs ws : List Nat} {i : Nat} {fg : SemG} {ft : SemB} {fe : Sem} (hg : Gg K g fg ws) (ht : Gt K tt ft) (he : Ge K te fe) (hw : ∀ i ∈ ws, i ∈ vs) : Gn K (tOrLock (tLc (iKeys (tVar i)) g tt te vs)) (fLc (fKeys i) fg ft fe vs) := fun P B0 F B H env σ ds env' E hf Q q => by
  obtain ⟨⟨xs, e1⟩, h1, h2⟩ := Option.bind_eq_some_iff.mp hf
  dsimp only at h2
  split at h2
  case isFalse => cases h2
  case isTrue hno =>
  obtain ⟨⟨ys, e2⟩, h3, h4⟩ := Option.bind_eq_some_iff.mp h2
  dsimp only at h4
  split at h4
  case isFalse => cases h4
  case isTrue hno2 =>
  cases h4
  unfold fKeys at h1
  split at h1
  case h_2 => cases h1
  rename_i kds hi
  cases h1
  obtain ⟨v, ev, iv⟩ := E.at_ i _ hi
  cases iv with
  | @dk a kvs _ hr hk =>
  have walk : ∀ (B0 B1 H1 : Hp) (od : Obj), EnvOk K P B0 F B1 H1 env σ → B1 a = some (.frz od (.dK kvs)) → IsK K B1 kvs kds → ∀ R : It → Hp → Prop, (∀ J B' H', EnvOk K P B0 F B' H' env σ → Same B1 B' → ItOk K J (kds.map (·.1)) B' → R J H') → iKeys (tVar i) σ H1 R :=
    fun B0 B1 H1 od E1 hb hk1 R qR => ⟨.ref a, ev, a, od, rfl, .inl ⟨kvs, E1.bh _ _ hb, qR _ B1 H1 E1 (Same.refl _) (it_keys hb hk1)⟩⟩
  rcases hr with hr | ⟨od, hr⟩
  · refine .inl ⟨a, .dK kvs, E.bh _ _ hr, trivial, fun od => ?_⟩
    have tw : Twin (.dK kvs) (.frz od (.dK kvs)) := ⟨kvs, .inl rfl, .inr ⟨od, rfl⟩⟩
    have E1 := E.twin hr tw
    refine lcAt (walk _ _ _ od E1 upd_same (hk.twin hr tw)) hg ht he hw hno h3 hno2 _ fun p us B' H' E' s ia hb hF hn hl => ?_
    have hd' : B' a = some (.frz od (.dK kvs)) := s _ _ upd_same
    refine ⟨E'.bh _ _ hd', ?_⟩
    have E2 := E'.twin hd' tw.symm
    have s2 : Same B (upd B' a (.dK kvs)) := fun c o e => by
      by_cases z : c = a
      · subst z; rw [hr] at e; cases e; rw [upd_same]
      · rw [upd_ne z]; exact s _ _ (by rw [upd_ne z]; exact e)
    have np : p ≠ a := fun z => by rw [z, hd'] at hb; cases hb
    exact q p us _ _ { E2 with b0 := E.b0.trans s2 } s2 (ia.twin hd' tw.symm) (by rw [upd_ne np]; exact hb) hF hn (by rw [upd_ne np]; exact hl)
  · exact .inr (lcAt (walk _ _ _ od E hr hk) hg ht he hw hno h3 hno2 Q q)
section
variable {X : Cx}
theorem pe_orLock {e : Expr} {t : TE} (h : PE X e t) : PE X e (tOrLock t) := ⟨fun pns st sg hp Q inv q => q.elim ((pe_lock h).run pns st sg hp Q inv) (h.run pns st sg hp Q inv)⟩
theorem gn_lcK {elt tg it : Expr} {ifs : List Expr} {scope : Scope} {own : List (Str × Nat)} {pos : Pos} {i : Nat} {g : TG} {tt : TT} {te : TE} {fg : SemG} {ft : SemB} {fe : Sem} {ws : List Nat} (hc : X.calm = true) (hN : X.N.Nodup) (hi : PE X it (tVar i)) (ok : BlkOk X.N X.env.scope scope own)
    (hg : ∀ (s : Shared) (H : Hp) (C : Addr) (cl : List (Str × Addr)) (fp : List Addr), GG (X.blk s H scope (compEnvC scope cl C X.env) fp) tg g fg ws) (ht : ∀ (s : Shared) (H : Hp) (C : Addr) (cl : List (Str × Addr)) (fp : List Addr), GTs (X.blk s H scope (compEnvC scope cl C X.env) fp) ifs tt ft)
    (he : ∀ (s : Shared) (H : Hp) (C : Addr) (cl : List (Str × Addr)) (fp : List Addr), GE (X.blk s H scope (compEnvC scope cl C X.env) fp) elt te fe) (hw : ∀ i ∈ ws, i ∈ own.map (·.2) := by decide) (hs : ∀ x, foldedSetIterable it X.env x = pure x := by intro _; rfl) :
    GN X (.ListComp elt [⟨tg, it, ifs, 0⟩] scope pos) (tOrLock (tLc (iKeys (tVar i)) g tt te (own.map (·.2)))) (fLc (fKeys i) fg ft fe (own.map (·.2))) :=
  ⟨pe_orLock (pe_lc hc hN (pi_keys hi) ok (fun a b c d e => (hg a b c d e).pg) (fun a b c d e => (ht a b c d e).pt) (fun a b c d e => (he a b c d e).pe) hs),
    Gn.lcK (hg X.s_0 X.H_0 0 [] []).gg (ht X.s_0 X.H_0 0 [] []).gt (he X.s_0 X.H_0 0 [] []).ge hw⟩
end
end GL
/-! Comprehensions whose parts are read block by block. -/
namespace GL
open PySem L2

/-- what a meaning asks, and no more -/
def cE (K : PySem.W.Frag) (f : Sem) : TE := fun σ H Q => ∃ P B0 F B env d env', EnvOk K P B0 F B H env σ ∧ f env = some (d, env') ∧ ∀ v B' H', EnvOk K P B0 F B' H' env' σ → Same B B' → Is K B' v d → Q v H'
def cT (K : PySem.W.Frag) (f : SemB) : TT := fun σ H Q => ∃ P B0 F B env b env', EnvOk K P B0 F B H env σ ∧ f env = some (b, env') ∧ ∀ B' H', EnvOk K P B0 F B' H' env' σ → Same B B' → Q b H'
def cG (K : PySem.W.Frag) (f : SemG) (ws : List Nat) : TG := fun v σ H Q => ∃ P B0 F B env d env', EnvOk K P B0 F B H env σ ∧ Is K B v d ∧ f d env = some env' ∧ ∀ σ', EnvOk K P B0 F B H env' σ' → Off ws σ σ' → Q σ' H
theorem ge_cE {K : PySem.W.Frag} {f : Sem} : Ge K (cE K f) f := fun P B0 F B H env σ d env' E hf Q q => ⟨P, B0, F, B, env, d, env', E, hf, q⟩
theorem gt_cT {K : PySem.W.Frag} {f : SemB} : Gt K (cT K f) f := fun P B0 F B H env σ d env' E hf Q q => ⟨P, B0, F, B, env, d, env', E, hf, q⟩
theorem gg_cG {K : PySem.W.Frag} {f : SemG} {ws : List Nat} : Gg K (cG K f ws) f ws := fun P B0 F B H env σ v d env' E iv hf Q q => ⟨P, B0, F, B, env, d, env', E, iv, hf, q⟩
section
variable {X : Cx}
theorem GE.canon {e : Expr} {te : TE} {f : Sem} (h : GE X e te f) : PE X e (cE X.K f) := ⟨fun pns st sg hp Q inv ⟨P, B0, F, B, env, d, env', E, hf, q⟩ => h.pe.run pns st sg hp Q inv (h.ge P B0 F B hp env sg d env' E hf Q q)⟩
theorem GTs.canon {ifs : List Expr} {t : TT} {f : SemB} (h : GTs X ifs t f) : PTs X ifs (cT X.K f) := ⟨fun pns st sg hp Q inv ⟨P, B0, F, B, env, d, env', E, hf, q⟩ => h.pt.run pns st sg hp Q inv (h.gt P B0 F B hp env sg d env' E hf Q q)⟩
theorem GG.canon {e : Expr} {g : TG} {f : SemG} {ws : List Nat} (h : GG X e g f ws) : PG X e (cG X.K f ws) := ⟨fun pns st sg hp v u Q inv rv ⟨P, B0, F, B, env, d, env', E, iv, hf, q⟩ => h.pg.run pns st sg hp v u Q inv rv (h.gg P B0 F B hp env sg v d env' E iv hf Q q)⟩
theorem gc' {elt tg iter : Expr} {ifs : List Expr} {scope : Scope} {own : List (Str × Nat)} {wi : TI} {fi : SemL} {fg : SemG} {ft : SemB} {fe : Sem} (ws : List Nat) (hi : GI X tg iter wi fi) (ok : BlkOk X.N X.env.scope scope own)
    (hg : ∀ (s : Shared) (H : Hp) (C : Addr) (cl : List (Str × Addr)) (fp : List Addr), ∃ g, GG (X.blk s H scope (compEnvC scope cl C X.env) fp) tg g fg ws) (ht : ∀ (s : Shared) (H : Hp) (C : Addr) (cl : List (Str × Addr)) (fp : List Addr), ∃ t, GTs (X.blk s H scope (compEnvC scope cl C X.env) fp) ifs t ft)
    (he : ∀ (s : Shared) (H : Hp) (C : Addr) (cl : List (Str × Addr)) (fp : List Addr), ∃ te, GE (X.blk s H scope (compEnvC scope cl C X.env) fp) elt te fe) (hw : ∀ i ∈ ws, i ∈ own.map (·.2) := by decide) : GC X elt tg iter ifs scope own wi (cG X.K fg ws) (cT X.K ft) (cE X.K fe) (fLc fi fg ft fe (own.map (·.2))) :=
  ⟨hi.pi, ok, fun a b c d e => (hg a b c d e).elim fun _ h => h.canon, fun a b c d e => (ht a b c d e).elim fun _ h => h.canon, fun a b c d e => (he a b c d e).elim fun _ h => h.canon, Gn.lc hi.gi gg_cG gt_cT ge_cE hw⟩
theorem gn_lcK' {elt tg it : Expr} {ifs : List Expr} {scope : Scope} {own : List (Str × Nat)} {pos : Pos} {i : Nat} {fg : SemG} {ft : SemB} {fe : Sem} (ws : List Nat) (hc : X.calm = true) (hN : X.N.Nodup) (hi : PE X it (tVar i)) (ok : BlkOk X.N X.env.scope scope own)
    (hg : ∀ (s : Shared) (H : Hp) (C : Addr) (cl : List (Str × Addr)) (fp : List Addr), ∃ g, GG (X.blk s H scope (compEnvC scope cl C X.env) fp) tg g fg ws) (ht : ∀ (s : Shared) (H : Hp) (C : Addr) (cl : List (Str × Addr)) (fp : List Addr), ∃ t, GTs (X.blk s H scope (compEnvC scope cl C X.env) fp) ifs t ft)
    (he : ∀ (s : Shared) (H : Hp) (C : Addr) (cl : List (Str × Addr)) (fp : List Addr), ∃ te, GE (X.blk s H scope (compEnvC scope cl C X.env) fp) elt te fe) (hw : ∀ i ∈ ws, i ∈ own.map (·.2) := by decide) (hs : ∀ x, foldedSetIterable it X.env x = pure x := by intro _; rfl) :
    GN X (.ListComp elt [⟨tg, it, ifs, 0⟩] scope pos) (tOrLock (tLc (iKeys (tVar i)) (cG X.K fg ws) (cT X.K ft) (cE X.K fe) (own.map (·.2)))) (fLc (fKeys i) fg ft fe (own.map (·.2))) :=
  ⟨pe_orLock (pe_lc hc hN (pi_keys hi) ok (fun a b c d e => (hg a b c d e).elim fun _ h => h.canon) (fun a b c d e => (ht a b c d e).elim fun _ h => h.canon) (fun a b c d e => (he a b c d e).elim fun _ h => h.canon) hs),
    Gn.lcK gg_cG gt_cT ge_cE hw⟩
theorem gn_lc' {elt tg iter : Expr} {ifs : List Expr} {scope : Scope} {own : List (Str × Nat)} {pos : Pos} {wi : TI} {g : TG} {tt : TT} {te : TE} {f : SemL} (hc : X.calm = true) (hN : X.N.Nodup) (h : GC X elt tg iter ifs scope own wi g tt te f) (hs : ∀ x, foldedSetIterable iter X.env x = pure x := by intro _; rfl) :
    GN X (.ListComp elt [⟨tg, iter, ifs, 0⟩] scope pos) (tLc wi g tt te (own.map (·.2))) f := h.gn_ hc hN hs
/-! ### the sign of a number -/
def dNeg : D → Option D
  | .int i => some (.int (-i))
  | _ => none
theorem ge_neg {a : Expr} {pos : Pos} {ta : TE} {fa : Sem} (ha : GE X a ta fa) : GE X (.UnaryOp .USub a pos) (tUn (rU fun i => .int (-i)) ta) (fOp1 dNeg fa) := ⟨pe_un un_neg ha.pe, fun P B0 F B H env σ d env' E hf Q q => by
  obtain ⟨⟨x, e1⟩, h1, h2⟩ := Option.bind_eq_some_iff.mp hf
  obtain ⟨z, h3, h4⟩ := Option.map_eq_some_iff.mp h2
  cases h4
  cases x with
  | int i =>
    cases h3
    refine ha.ge P B0 F B H env σ _ _ E h1 _ fun v B' H' E' s iv => ⟨i, iv.int', q _ B' H' E' s (.int _)⟩
  | _ => cases h3⟩
end
end GL
/-! A dict of lists, made by setdefault: what stands beside what. -/
namespace GL
open PySem L2

abbrev Nb := List (Key × List D)
def nbAdd : Nb → Key → D → Nb
  | [], k, d => [(k, [d])]
  | (k', ds) :: r, k, d => if k' = k then (k', ds ++ [d]) :: r else (k', ds) :: nbAdd r k d
def nbSmall (kvs : Nb) : Bool := decide (kvs.length < 1000000) && kvs.all fun p => decide (p.2.length < 1000000)
def nbFold : List D → Nb → Option Nb
  | [], kvs => some kvs
  | .tuple [a, b] :: r, kvs => (keyOf a).bind fun i => (keyOf b).bind fun j => if nbSmall kvs = true ∧ nbSmall (nbAdd kvs i b) = true then nbFold r (nbAdd (nbAdd kvs i b) j a) else none
  | _ :: _, _ => none
def nbD (kvs : Nb) : D := .dict (kvs.map fun p => (keyD p.1, .list p.2))
def m_near : List D → Option D
  | [t] => (itemsD t).bind fun es => (nbFold es []).map nbD
  | _ => none
/-- the lists at ps are what the dict holds -/
inductive NbC (K : PySem.W.Frag) (B H : Hp) : List (Key × V) → Nb → List Addr → Prop
  | nil : NbC K B H [] [] []
  | cons {k : Key} {p : Addr} {vs : List V} {ds : List D} {ws : List (Key × V)} {kvs : Nb} {ps : List Addr} : H p = some (.lst vs) → IsAll K B vs ds → NbC K B H ws kvs ps → NbC K B H ((k, .ref p) :: ws) ((k, ds) :: kvs) (p :: ps)
section
variable {K : PySem.W.Frag} {B B' H H' : Hp} {ws : List (Key × V)} {kvs : Nb} {ps : List Addr}
theorem NbC.up (h : NbC K B H ws kvs ps) (e : Same B B') (eh : ∀ p ∈ ps, ∀ o, H p = some o → H' p = some o) : NbC K B' H' ws kvs ps := by
  induction h with
  | nil => exact .nil
  | cons a b _ ih => exact .cons (eh _ List.mem_cons_self _ a) (b.up e) (ih fun p m => eh p (List.mem_cons_of_mem _ m))
theorem NbC.len (h : NbC K B H ws kvs ps) : ws.length = kvs.length := by
  induction h with
  | nil => rfl
  | cons _ _ _ ih => simp [ih]
theorem NbC.there (h : NbC K B H ws kvs ps) : ∀ p ∈ ps, ∃ vs, H p = some (.lst vs) := by
  induction h with
  | nil => intro p m; cases m
  | cons a _ _ ih =>
    intro p m
    rcases List.mem_cons.mp m with rfl | m
    · exact ⟨_, a⟩
    · exact ih p m
theorem NbC.found (h : NbC K B H ws kvs ps) (nd : ps.Nodup) {k : Key} {v : V} (hv : valV ws k = some v) : ∃ p vs, p ∈ ps ∧ v = .ref p ∧ H p = some (.lst vs) ∧ (nbSmall kvs = true → vs.length < 1000000) ∧
    ∀ x d, Is K B x d → NbC K B (upd H p (.lst (vs ++ [x]))) ws (nbAdd kvs k d) ps := by
  induction h with
  | nil => cases hv
  | @cons k' p vs ds ws kvs ps a b t ih =>
    have nd' := List.nodup_cons.mp nd
    by_cases q : k' = k
    · subst q
      rw [valV_pos rfl] at hv
      cases hv
      refine ⟨p, vs, List.mem_cons_self, rfl, a, fun s => ?_, fun x d i => ?_⟩
      · unfold nbSmall at s
        simp only [List.all_cons, Bool.and_eq_true, decide_eq_true_eq] at s
        rw [b.len]; exact s.2.1
      · unfold nbAdd
        rw [if_pos rfl]
        exact .cons upd_same (b.snoc i) (t.up (Same.refl _) fun p' m o e => by rw [upd_ne (fun z => nd'.1 (by rw [← z]; exact m))]; exact e)
    · rw [valV_neg (p := (k', .ref p)) q] at hv
      obtain ⟨p', vs', h1, h2, h3, h4, h5⟩ := ih nd'.2 hv
      refine ⟨p', vs', List.mem_cons_of_mem _ h1, h2, h3, fun s => h4 ?_, fun x d i => ?_⟩
      · unfold nbSmall at s ⊢
        simp only [List.all_cons, Bool.and_eq_true, decide_eq_true_eq, List.length_cons] at s ⊢
        exact ⟨by omega, s.2.2⟩
      · unfold nbAdd
        rw [if_neg q]
        refine .cons ?_ b (h5 x d i)
        rw [upd_ne (fun z => nd'.1 (by rw [z]; exact h1))]
        exact a
theorem NbC.lack (h : NbC K B H ws kvs ps) {k : Key} (hv : valV ws k = none) : (∀ v : V, L2.putK ws k v = ws ++ [(k, v)]) ∧ ∀ d, nbAdd kvs k d = kvs ++ [(k, [d])] := by
  have no : ∀ {ws : List (Key × V)}, valV ws k = none → (ws.any fun kv => decide (kv.1 = k)) = false := by
    intro ws
    induction ws with
    | nil => intro _; rfl
    | cons p r ih =>
      intro e
      by_cases q : p.1 = k
      · rw [valV_pos q] at e; cases e
      · rw [valV_neg q] at e
        simp [q, ih e]
  refine ⟨fun v => by unfold L2.putK; rw [no hv]; rfl, fun d => ?_⟩
  induction h with
  | nil => rfl
  | @cons k' p vs ds ws kvs ps a b t ih =>
    by_cases q : k' = k
    · rw [valV_pos (p := (k', .ref p)) q] at hv; cases hv
    · rw [valV_neg (p := (k', .ref p)) q] at hv
      unfold nbAdd
      rw [if_neg q, ih hv]
      rfl
theorem NbC.snoc (h : NbC K B H ws kvs ps) {k : Key} {p : Addr} {vs : List V} {ds : List D} (a : H p = some (.lst vs)) (b : IsAll K B vs ds) : NbC K B H (ws ++ [(k, .ref p)]) (kvs ++ [(k, ds)]) (ps ++ [p]) := by
  induction h with
  | nil => exact .cons a b .nil
  | cons a' b' _ ih => exact .cons a' b' ih
/-- the objects are known from now on -/
theorem NbC.isK (h : NbC K B H ws kvs ps) (eh : ∀ p ∈ ps, ∀ o, H p = some o → B p = some o) : IsK K B ws (kvs.map fun p => (keyD p.1, .list p.2)) := by
  induction h with
  | nil => exact .nil
  | cons a b _ ih => exact .cons (.lst (eh _ List.mem_cons_self _ a) b) (ih fun p m => eh p (List.mem_cons_of_mem _ m))
end
/-- the dict at l and its lists are new, the rest stands -/
structure NbOk (K : PySem.W.Frag) (B0 H0 B H : Hp) (l : Addr) (kvs : Nb) : Prop where
  g : Grow B0 H0 B H
  ex : ∃ ws ps, H l = some (.dK ws) ∧ NbC K B H ws kvs ps ∧ (l :: ps).Nodup ∧ ∀ p ∈ l :: ps, H0 p = none ∧ B p = none
section
variable {K : PySem.W.Frag} {B0 H0 B H : Hp} {l : Addr} {kvs : Nb}
theorem Grow.over {B0 H0 B H : Hp} {p : Addr} {o : HO} (g : Grow B0 H0 B H) (h0 : H0 p = none) (hb : B p = none) : Grow B0 H0 B (upd H p o) where
  b := g.b
  h := fun a u e => by rw [upd_ne (ne_of_none e h0)]; exact g.h _ _ e
  bh := fun a u e => by rw [upd_ne (ne_of_none e hb)]; exact g.bh _ _ e
  n := g.n
theorem NbOk.grow {B' H' : Hp} (h : NbOk K B0 H0 B H l kvs) (g : Grow B H B' H') : NbOk K B0 H0 B' H' l kvs := by
  obtain ⟨ws, ps, h1, h2, h3, h4⟩ := h.ex
  have nb : ∀ p ∈ l :: ps, B' p = none := fun p m => by
    have ex : ∃ o, H p = some o ∧ isTupO o = false := by
      rcases List.mem_cons.mp m with rfl | m
      · exact ⟨_, h1, rfl⟩
      · obtain ⟨vs, e⟩ := h2.there p m; exact ⟨_, e, rfl⟩
    obtain ⟨o, e, nt⟩ := ex
    exact (g.n p o e (h4 p m).2).elim id fun z => by rw [nt] at z; cases z
  exact ⟨h.g.trans g, ws, ps, g.h _ _ h1, h2.up g.b fun p _ o e => g.h _ _ e, h3, fun p m => ⟨(h4 p m).1, nb p m⟩⟩
/-- near.setdefault(x, []).append(y) -/
def tNbAdd (K : PySem.W.Frag) (i a b : Nat) : TE := tBM K "list" rAppend (tDSetd (tVar i) (tVar a) (tLst tNil)) (tCons (tVar b) tNil)
theorem nb_add {σ : L2.St} {i a b : Nat} {k : Key} {x : V} {d : D} (h : NbOk K B0 H0 B H l kvs) (h1 : σ[i]? = some (some (.ref l))) (h2 : σ[a]? = some (some (kV k))) (h3 : σ[b]? = some (some x)) (ix : Is K B x d) (sm : nbSmall kvs = true) {Q : VK}
    (q : ∀ v H', NbOk K B0 H0 B H' l (nbAdd kvs k d) → Q v H') : tNbAdd K i a b σ H Q := by
  obtain ⟨ws, ps, hl, hc, hn, hf⟩ := h.ex
  have hn' := List.nodup_cons.mp hn
  refine ⟨_, h1, l, rfl, .inl ⟨ws, .inl hl⟩, _, h2, by exact Nat.zero_le _, fun p hp => ?_⟩
  have pl : p ≠ l := fun z => by rw [z, hl] at hp; cases hp
  have pp : ∀ p' ∈ ps, p' ≠ p := fun p' m z => by
    obtain ⟨vs, e⟩ := hc.there p' m
    rw [z, hp] at e; cases e
  have hp0 : H0 p = none := by
    cases z : H0 p with
    | none => rfl
    | some o => rw [h.g.h _ _ z] at hp; cases hp
  have hpb : B p = none := h.g.bh.free hp
  have hc1 : NbC K B (upd H p (.lst [])) ws kvs ps := hc.up (Same.refl _) fun p' m o e => by rw [upd_ne (pp p' m)]; exact e
  have g1 := h.g.over (o := .lst []) hp0 hpb
  refine ⟨ws, k, by rw [upd_ne pl.symm]; exact hl, rfl, ?_, fun v hv => ?_, fun hv => ?_⟩
  · have := hc.len
    unfold nbSmall at sm
    simp only [Bool.and_eq_true, decide_eq_true_eq] at sm
    exact lt_sz this sm.1
  · obtain ⟨p', vs, m1, rfl, m3, m4, m5⟩ := hc1.found hn'.2 hv
    refine ⟨.inl ⟨rfl, vs, SqL.of m3⟩, _, h3, p', vs, x, rfl, rfl, m3, lt_sz rfl (m4 sm), ?_⟩
    refine q _ _ ⟨g1.over (hf p' (List.mem_cons_of_mem _ m1)).1 (hf p' (List.mem_cons_of_mem _ m1)).2, ws, ps, ?_, m5 x d ix, hn, hf⟩
    rw [upd_ne (fun z => hn'.1 (by rw [z]; exact m1)), upd_ne pl.symm]
    exact hl
  · obtain ⟨e1, e2⟩ := hc.lack hv
    refine ⟨.inl ⟨rfl, [], SqL.of (by rw [upd_ne pl]; exact upd_same)⟩, _, h3, p, [], x, rfl, rfl, by rw [upd_ne pl]; exact upd_same, lt_sz rfl (by decide), ?_⟩
    refine q _ _ ⟨((h.g.over (o := .lst []) hp0 hpb).over (hf l List.mem_cons_self).1 (hf l List.mem_cons_self).2).over hp0 hpb, ws ++ [(k, .ref p)], ps ++ [p], ?_, ?_, ?_, ?_⟩
    · rw [upd_ne pl.symm, upd_same, e1]
    · rw [e2]
      refine NbC.snoc (hc.up (Same.refl _) fun p' m o e => ?_) upd_same (.cons ix .nil)
      rw [upd_ne (pp p' m), upd_ne (fun z => hn'.1 (by rw [← z]; exact m)), upd_ne (pp p' m)]
      exact e
    · refine List.nodup_cons.mpr ⟨fun m => ?_, ?_⟩
      · rcases List.mem_append.mp m with m | m
        · exact hn'.1 m
        · exact pl (List.mem_singleton.mp m).symm
      · exact List.nodup_append.mpr ⟨hn'.2, by simp, fun a m b m2 => by rw [List.mem_singleton.mp m2]; exact pp a m⟩
    · intro p' m
      rcases List.mem_cons.mp m with rfl | m
      · exact hf _ List.mem_cons_self
      · rcases List.mem_append.mp m with m | m
        · exact hf _ (List.mem_cons_of_mem _ m)
        · rw [List.mem_singleton.mp m]; exact ⟨hp0, hpb⟩
end
/-- the whole body, ties at 0, near at 1, one at 2, other at 3 -/
def tNear (K : PySem.W.Frag) : TS := tSeq (tAsg tDNewK (gName 1)) (tSeq (tFor (iSeq K (tVar 0)) (gTup K 2 (gCons (gName 2) (gCons (gName 3) gNil))) (tSeq (tDrop (tNbAdd K 1 2 3)) (tDrop (tNbAdd K 1 3 2)))) (tRet (tVar 1)))
theorem near_ok {K : PySem.W.Frag} {B H : Hp} {v : V} {t d : D} (e : Same B H) (iv : Is K B v t) (hf : m_near [t] = some d) {Z : Ends} (q : ∀ u B' H', Grow B H B' H' → Is K B' u d → Z.rt u H') : tNear K Z [some v, none, none, none] H := by
  obtain ⟨es, h1, h2⟩ := Option.bind_eq_some_iff.mp hf
  obtain ⟨kv, h3, h4⟩ := Option.map_eq_some_iff.mp h2
  subst h4
  intro l hl
  have hlb : B l = none := e.free hl
  have N0 : NbOk K B H B (upd H l (.dK [])) l [] := ⟨(Grow.refl e).over hl hlb, [], [], upd_same, .nil, by simp, fun p m => by rw [List.mem_singleton.mp m]; exact ⟨hl, hlb⟩⟩
  have walk : ∀ J : It, ItOk K J es B → ∃ W : Nat → Nat → L2.St → Hp → Prop, (∃ m, W 0 m [some v, some (.ref l), none, none] (upd H l (.dK []))) ∧ ∀ (i m : Nat) (σ : L2.St) (H1 : Hp), W i m σ H1 → J.stop i H1 ∧ tRet (tVar 1) Z σ H1 ∨ J.go i H1 ∧ ∃ N : L2.St → Hp → Prop, (∀ σ' H', N σ' H' → ∃ m', m' < m ∧ W (i + 1) m' σ' H') ∧
      ∀ (x : V) (H' : Hp), J.yld i H1 x H' → gTup K 2 (gCons (gName 2) (gCons (gName 3) gNil)) x σ H' fun σ2 H2 => tSeq (tDrop (tNbAdd K 1 2 3)) (tDrop (tNbAdd K 1 3 2)) ⟨N, Z.rt, tRet (tVar 1) Z, N⟩ σ2 H2 := by
    intro J hJ
    refine ⟨fun i m σ H1 => m = es.length - i ∧ i ≤ es.length ∧ ∃ B1 kvs x2 x3, Same B B1 ∧ NbOk K B H B1 H1 l kvs ∧ σ = [some v, some (.ref l), x2, x3] ∧ nbFold (es.drop i) kvs = some kv, ⟨_, rfl, Nat.zero_le _, B, [], none, none, Same.refl _, N0, rfl, h3⟩, ?_⟩
    rintro i m σ H1 ⟨rfl, hle, B1, kvs, x2, x3, sB, N, rfl, hF⟩
    by_cases hlt : i < es.length
    · refine .inr ⟨hJ.go i B1 H1 sB N.g.bh hlt, fun σ2 H2 => ∃ m', m' < es.length - i ∧ (m' = es.length - (i + 1) ∧ i + 1 ≤ es.length ∧ ∃ B1 kvs x2 x3, Same B B1 ∧ NbOk K B H B1 H2 l kvs ∧ σ2 = [some v, some (.ref l), x2, x3] ∧ nbFold (es.drop (i + 1)) kvs = some kv), fun _ _ z => z, fun x H' hy => ?_⟩
      have hd : es[i]? = some es[i] := List.getElem?_eq_getElem hlt
      obtain ⟨B2, gr, ix⟩ := hJ.yld i B1 H1 H' x _ sB N.g.bh hd hy
      rw [List.drop_eq_getElem_cons hlt] at hF
      have N2 := N.grow gr
      generalize es[i] = it at hF ix
      unfold nbFold at hF
      split at hF
      case h_1 => rename_i q; cases q
      case h_3 => cases hF
      rename_i a b r kv0 q
      cases q
      obtain ⟨ka, q1, hF⟩ := Option.bind_eq_some_iff.mp hF
      obtain ⟨kb, q2, hF⟩ := Option.bind_eq_some_iff.mp hF
      split at hF
      case isFalse => cases hF
      rename_i sm
      cases ix with
      | tup ha hl2 =>
      cases hl2 with
      | cons i1 t1 =>
      cases t1 with
      | cons i2 t2 =>
      cases t2
      have e1 := keyV (.fz (H := H') i1) q1
      have e2 := keyV (.fz (H := H') i2) q2
      subst e1 e2
      refine ⟨_, _, rfl, ha.sq N2.g.bh, rfl, _, _, rfl, _, _, rfl, rfl, ?_⟩
      refine nb_add N2 rfl rfl rfl i2 sm.1 fun _ H3 N3 => ?_
      refine nb_add N3 rfl rfl rfl i1 sm.2 fun _ H4 N4 => ?_
      exact ⟨_, by omega, rfl, hlt, B2, _, _, _, sB.trans gr.b, N4, rfl, hF⟩
    · have ei : i = es.length := by omega
      subst ei
      rw [List.drop_length] at hF
      cases hF
      refine .inl ⟨hJ.stop _ B1 H1 sB N.g.bh (Nat.le_refl _), _, rfl, ?_⟩
      obtain ⟨ws, ps, hl1, hc, hn, hfr⟩ := N.ex
      have dn : ∀ a, a ∈ l :: ps → B1 a = none := fun a m => (hfr a m).2
      let B2 : Hp := fun a => if a ∈ l :: ps then H1 a else B1 a
      have s12 : Same B1 B2 := fun a o e => by
        show (if a ∈ l :: ps then H1 a else B1 a) = _
        split
        · exact N.g.bh _ _ e
        · exact e
      refine q _ B2 H1 ⟨N.g.b.trans s12, N.g.h, fun a o e => ?_, fun a o e n => ?_⟩ (.dk (kvs := ws) (.inl ?_) ?_)
      · have e' : (if a ∈ l :: ps then H1 a else B1 a) = some o := e
        split at e'
        · exact e'
        · exact N.g.bh _ _ e'
      · have : a ∉ l :: ps := fun m => by rw [(hfr a m).1] at e; cases e
        show (if a ∈ l :: ps then H1 a else B1 a) = none ∨ _
        rw [if_neg this]
        exact N.g.n a o e n
      · show (if l ∈ l :: ps then H1 l else B1 l) = _
        rw [if_pos List.mem_cons_self]; exact hl1
      · exact (hc.up s12 fun p _ o e => e).isK fun p m o e => by
          show (if p ∈ l :: ps then H1 p else B1 p) = _
          rw [if_pos (List.mem_cons_of_mem _ m)]; exact e
  refine ⟨_, rfl, ?_⟩
  cases t with
  | list ds =>
    cases h1
    cases iv with
    | lst ha hl2 => exact ⟨_, rfl, .inl ⟨⟨_, SqL.of (by rw [upd_ne (ne_of_none (e _ _ ha) hl)]; exact e _ _ ha)⟩, walk _ (it_list ha hl2)⟩⟩
  | tuple ds =>
    cases h1
    cases iv with
    | tup ha hl2 => exact ⟨_, rfl, .inr ⟨⟨_, ha.sq (fun a o h => by rw [upd_ne (ne_of_none (e _ _ h) hl)]; exact e _ _ h)⟩, walk _ (it_tup ha hl2)⟩⟩
  | _ => cases h1
end GL
/-! The draws' row. -/
namespace GL
open PySem L2

/-- the row's numbers -/
def rowGet (st : Row) : Nat → Option Int
  | 1 => some st.c
  | 2 => some st.k
  | 3 => some st.r
  | _ => none
def rowPut (st : Row) : Nat → Int → Option Row
  | 1, x => some { st with c := x }
  | 2, x => some { st with k := x }
  | 3, x => some { st with r := x }
  | _, _ => none
def fRow (i j : Nat) : Sem := fun env => (rowAt env i).bind fun st => (rowGet st j).map fun x => (.int x, env)
def fRowLen (i : Nat) : Sem := fun env => (rowAt env i).map fun st => (.int st.ns.length, env)
def fRowCell (i : Nat) (a : Sem) : Sem := fun env => (rowAt env i).bind fun st => (a env).bind fun p => match p.1 with
  | .int x => (L2.atI st.ns x).map fun y => (.int y, p.2)
  | _ => none
def sRow (i j : Nat) (f : Sem) : SemS := fun env => (f env).bind fun p => match p.1 with
  | .int x => (rowAt p.2 i).bind fun st => (rowPut st j x).map fun st' => .nx (p.2.set i (.row st'))
  | _ => none
section
variable {K : PySem.W.Frag} {P : List (Nat × Addr)} {B0 F B H : Hp} {env : LEnv} {σ : L2.St}
theorem rowAt_some {i : Nat} {st : Row} (h : rowAt env i = some st) : env[i]? = some (.row st) := by
  unfold rowAt at h
  split at h
  · rename_i e; cases h; exact e
  · cases h
theorem EnvOk.row_at {i : Nat} {st : Row} (E : EnvOk K P B0 F B H env σ) (h : rowAt env i = some st) : ∃ l a, σ[i]? = some (some (.ref l)) ∧ H l = some (.lst [.ref a, .int st.c, .int st.k, .int st.r]) ∧ SqL K B a (st.ns.map V.int) ∧ OwnA (.row st) σ[i]? l := by
  obtain ⟨l, a, e, q, ia⟩ := E.at_ i _ (rowAt_some h)
  exact ⟨l, a, e, q, ia, rfl, e⟩
theorem Ge.row {i j : Nat} : Ge K (tOp (rIxG K) (tVar i) (tC (.int (j : Nat)))) (fRow i j) := fun P B0 F B H env σ d env' E hf Q q => by
  obtain ⟨st, h1, h2⟩ := Option.bind_eq_some_iff.mp hf
  obtain ⟨x, h3, h4⟩ := Option.map_eq_some_iff.mp h2
  cases h4
  obtain ⟨l, a, g1, g2, g3, _⟩ := E.row_at h1
  refine ⟨_, g1, .inl ⟨l, _, j, .int x, rfl, rfl, SqL.of g2, ?_, q _ B H E (Same.refl _) (.int x)⟩⟩
  match j, h3 with
  | 1, h3 => cases h3; rfl
  | 2, h3 => cases h3; rfl
  | 3, h3 => cases h3; rfl
theorem Ge.rowLen {i : Nat} : Ge K (tCB (rLenG K) (tCons (tOp (rIxG K) (tVar i) (tC (.int 0))) tNil)) (fRowLen i) := fun P B0 F B H env σ d env' E hf Q q => by
  obtain ⟨st, h1, h2⟩ := Option.map_eq_some_iff.mp hf
  cases h2
  obtain ⟨l, a, g1, g2, g3, _⟩ := E.row_at h1
  refine ⟨_, g1, .inl ⟨l, _, 0, .ref a, rfl, rfl, SqL.of g2, rfl, .inl ⟨a, _, rfl, .inl (E.bh.seq g3), ?_⟩⟩⟩
  rw [List.length_map]
  exact q _ B H E (Same.refl _) (.int _)
theorem Ge.rowCell {i : Nat} {ta : TE} {fa : Sem} (ha : Ge K ta fa) : Ge K (tOp (rIxG K) (tOp (rIxG K) (tVar i) (tC (.int 0))) ta) (fRowCell i fa) := fun P B0 F B H env σ d env' E hf Q q => by
  obtain ⟨st0, h0, hf⟩ := Option.bind_eq_some_iff.mp hf
  obtain ⟨⟨x, e1⟩, h1, h2⟩ := Option.bind_eq_some_iff.mp hf
  cases x with
  | int n =>
    obtain ⟨y, h3, h4⟩ := Option.map_eq_some_iff.mp h2
    cases h4
    obtain ⟨l, a, g1, g2, g3, _⟩ := E.row_at h0
    refine ⟨_, g1, .inl ⟨l, _, 0, .ref a, rfl, rfl, SqL.of g2, rfl, ?_⟩⟩
    refine ha P B0 F B H env σ _ _ E h1 _ fun v B1 H1 E1 s1 i1 => ?_
    rw [i1.int']
    have hm : L2.atI (st0.ns.map V.int) n = some (.int y) := by
      unfold L2.atI at h3 ⊢
      rw [List.length_map]
      obtain ⟨k, h5, h6⟩ := Option.bind_eq_some_iff.mp h3
      rw [h5]
      show (st0.ns.map V.int)[k]? = _
      rw [List.getElem?_map, h6]
      rfl
    exact .inl ⟨a, _, n, .int y, rfl, rfl, E1.bh.seq (s1.seq g3), hm, q _ B1 H1 E1 s1 (.int y)⟩
  | _ => cases h2
/-- row[j] = e -/
def tRowSet (i j : Nat) (te : TE) : TS := tAsg te (gSub (tVar i) (tC (.int (j : Nat))) rSetL)
theorem Gs.row {i j : Nat} {te : TE} {f : Sem} (h : Ge K te f) : Gs K (tRowSet i j te) (sRow i j f) := fun P B0 F B H env σ r E hf Z q => by
  obtain ⟨⟨x, e1⟩, h1, h2⟩ := Option.bind_eq_some_iff.mp hf
  cases x with
  | int n =>
    obtain ⟨st, h3, h4⟩ := Option.bind_eq_some_iff.mp h2
    obtain ⟨st', h5, h6⟩ := Option.map_eq_some_iff.mp h4
    cases h6
    refine h P B0 F B H env σ _ e1 E h1 _ fun v B1 H1 E1 s1 i1 => ?_
    obtain ⟨l, a, g1, g2, g3, ow⟩ := E1.row_at h3
    rw [i1.int']
    have hj : ixN 4 (j : Int) = some j ∧ [V.ref a, V.int st.c, V.int st.k, V.int st.r].set j (.int n) = [V.ref a, V.int st'.c, V.int st'.k, V.int st'.r] ∧ st'.ns = st.ns := by
      match j, h5 with
      | 1, h5 => cases h5; exact ⟨rfl, rfl, rfl⟩
      | 2, h5 => cases h5; exact ⟨rfl, rfl, rfl⟩
      | 3, h5 => cases h5; exact ⟨rfl, rfl, rfl⟩
    refine ⟨_, g1, l, _, (j : Int), j, rfl, rfl, g2, hj.1, ?_⟩
    rw [hj.2.1]
    exact q σ B1 _ (E1.mut (rowAt_some h3) ow rfl ⟨l, a, rfl, upd_same, by rw [hj.2.2]; exact g3⟩ fun _ => rfl)
  | _ => cases h2
end
section
variable {X : Cx} {a b : Expr} {i j : Nat} {pos p2 : Pos}
theorem ge_row (hu : X.A.units + 100 < cLine) (ha : PE X a (tVar i)) (hb : PE X b (tC (.int (j : Nat)))) (hs : PlainIx b := by exact fun _ _ => rfl) : GE X (.Subscript a b pos) (tOp (rIxG X.K) (tVar i) (tC (.int (j : Nat)))) (fRow i j) := ⟨pe_ix (ix_any hu) ha hb hs, Ge.row⟩
theorem ge_rowCell {c : Expr} {ta : TE} {fa : Sem} (hu : X.A.units + 100 < cLine) (ha : PE X a (tVar i)) (hb : PE X b (tC (.int 0))) (hc : GE X c ta fa) (hs : PlainIx b := by exact fun _ _ => rfl) (hs2 : PlainIx c := by exact fun _ _ => rfl) :
    GE X (.Subscript (.Subscript a b pos) c p2) (tOp (rIxG X.K) (tOp (rIxG X.K) (tVar i) (tC (.int 0))) ta) (fRowCell i fa) := ⟨pe_ix (ix_any hu) (pe_ix (ix_any hu) ha hb hs) hc.pe hs2, Ge.rowCell hc.ge⟩
theorem ge_rowLen {p3 : Pos} (hu : X.A.units + 100 < cLine) (hm : X.mg "len" = none) (ha : PE X a (tVar i)) (hb : PE X b (tC (.int 0))) (hs : PlainIx b := by exact fun _ _ => rfl) (hg : Gl X "len" := by rfl)
    (he : starEach [.Subscript a b pos] X.env = (false, eval (.Subscript a b pos) X.env) :: starEach [] X.env := by rfl) (hpl : (backTo p3 (starEach [] X.env)).any (·.1) = false := by rfl) :
    GE X (.Call (.Name "len" p2) [.Subscript a b pos] [] p3) (tCB (rLenG X.K) (tCons (tOp (rIxG X.K) (tVar i) (tC (.int 0))) tNil)) (fRowLen i) :=
  ⟨pe_callB cr_lenG hg hm (by decide +kernel) (pa_cons (pe_ix (ix_any hu) ha hb hs) pa_nil he) (by decide) (by decide) he hpl, Ge.rowLen⟩
theorem gs_row {e : Expr} {te : TE} {f : Sem} {p3 : Pos} (hg : PG X (.Subscript a b pos) (gSub (tVar i) (tC (.int (j : Nat))) rSetL)) (he : GE X e te f)
    (hs : swapsWithSole [.Subscript a b pos] e p3.line X.env = pure false := by rfl) (hw : swappedStores [.Subscript a b pos] e X.env = pure none := by rfl) (h2 : (assignEach [.Subscript a b pos] X.env).map (·.2) = [assign (.Subscript a b pos) X.env] := by rfl) :
    GS X (.Assign [.Subscript a b pos] e p3) (tRowSet i j te) (sRow i j f) := ⟨ps_asg he.pe hg hs hw h2, Gs.row he.ge⟩
end
end GL
/-! Dicts as values: get, list(d.items()), dict(pairs); a list against []. -/
namespace GL
open PySem L2 PySem.Calls

section
variable {X : Cx}
/-! ### {} as a value -/
theorem ge_dict0 {pos : Pos} : GE X (.Dict [] [] pos) tDNewK (fC (.dict [])) := ⟨pe_dnewK, fun P B0 F B H env σ d env' E hf Q q => by
  cases hf
  intro p hp
  have g := Grow.new (o := .dK []) E.bh hp
  exact q _ _ _ (E.grow g) g.b (.dk (.inl upd_same) .nil)⟩
/-! ### d.get(k, x) -/
def fGet2 (i : Nat) (a b : Sem) : Sem := fun env => (env[i]?.bind peekD).bind fun _ => (a env).bind fun p => (b p.2).bind fun q => match q.2[i]?.bind peekD, keyOf p.1 with
  | some (.dict ds), some k => some ((lookD ds k).getD q.1, q.2)
  | _, _ => none
theorem slot_is {K : PySem.W.Frag} {P : List (Nat × Addr)} {B0 F B H : Hp} {env : LEnv} {σ : L2.St} {i : Nat} {ds : List (D × D)} (E : EnvOk K P B0 F B H env σ) (h : env[i]? = some (.val (.dict ds))) : ∃ l ws, σ[i]? = some (some (.ref l)) ∧ Rd H l (.dK ws) ∧ IsK K B ws ds := by
  obtain ⟨v, e, iv⟩ := E.at_ i _ h
  obtain ⟨l, ws, e2, hr, hk⟩ := (Pk.fz (H := H) iv).dict E.bh
  subst e2
  exact ⟨l, ws, e, hr, hk⟩
def fGetV (i : Nat) (a b : Sem) : Sem := fun env => match env[i]? with
  | some (.val (.dict ds)) => (a env).bind fun p => (b p.2).bind fun q => (keyOf p.1).map fun k => ((lookD ds k).getD q.1, q.2)
  | _ => none
theorem ge_getV {o e f : Expr} {i : Nat} {ta tb : TE} {fa fb : Sem} {apos cpos : Pos} (hu : X.A.units + 100 < cLine) (ho : PE X o (tVar i)) (ha : GE X e ta fa) (hb : GE X f tb fb) (m : M2 X o "get" apos e f cpos) : GE X (.Call (.Attribute o "get" apos) [e, f] [] cpos) (tDGet2 (tVar i) ta tb) (fGetV i fa fb) :=
  ⟨pe_dget2 (by omega) ho ha.pe hb.pe m, fun P B0 F B H env σ d env' E hf Q q => by
    unfold fGetV at hf
    split at hf
    case h_2 => cases hf
    rename_i ds hi
    obtain ⟨⟨x, e1⟩, h1, h2⟩ := Option.bind_eq_some_iff.mp hf
    obtain ⟨⟨y, e2⟩, h3, h4⟩ := Option.bind_eq_some_iff.mp h2
    obtain ⟨k, h5, h6⟩ := Option.map_eq_some_iff.mp h4
    cases h6
    obtain ⟨v, ev, iv⟩ := E.at_ i _ hi
    obtain ⟨l, ws, e3, hr, hk⟩ := (Pk.fz (H := H) iv).dict E.bh
    subst e3
    refine ⟨_, ev, l, rfl, .inl ⟨ws, hr⟩, ?_⟩
    refine ha.ge P B0 F B H env σ x e1 E h1 _ fun u B1 H1 E1 s1 i1 => ?_
    refine hb.ge P B0 F B1 H1 e1 σ y _ E1 h3 _ fun t B2 H2 E2 s2 i2 => ?_
    have iv2 := iv.up (s1.trans s2)
    obtain ⟨l2, ws2, e4, hr2, hk2⟩ := (Pk.fz (H := H2) iv2).dict E2.bh
    cases e4
    refine ⟨valV ws2 k, .inl ⟨ws2, k, hr2, keyV (.fz (H := H2) i1) h5, rfl⟩, ?_⟩
    rcases hk2.look k with ⟨a1, a2⟩ | ⟨w, z, a1, a2, a3⟩
    · rw [a2]
      rw [a1] at q
      exact q _ B2 H2 E2 (s1.trans s2) i2
    · rw [a2]
      rw [a1] at q
      exact q _ B2 H2 E2 (s1.trans s2) a3⟩
/-! ### list(d.items()) -/
def rItemsR (x : V) (H : Hp) (Q : VK) : Prop := ∃ (d : Addr) (kvs : List (Key × V)), x = .ref d ∧ Rd H d (.dK kvs) ∧ ∀ (H' : Hp) (p : Addr) (ts : List Addr), Same H H' → H p = none → (∀ t ∈ ts, H t = none) → p ∉ ts → H' p = some (.lst (ts.map V.ref)) → Paired (fun (t : Addr) (q : Key × V) => H' t = some (.tup [kV q.1, q.2])) ts kvs → Q (.ref p) H'
theorem pe_listItemsR {e : Expr} {te : TE} {p apos cpos pos : Pos} (hc : X.calm = true) (he : PE X e te) (hm : X.mg "list" = none) (hg : Gl X "list" := by rfl) (hv : bootBuiltins "list" = some (.type "list") := by decide +kernel) (hb : attributeBase e "items" X.env (eval e X.env) = eval e X.env := by rfl) (hl : (apos.endLine == cpos.line) = true := by rfl)
    (hs : starEach [.Call (.Attribute e "items" apos) [] [] cpos] X.env = (false, eval (.Call (.Attribute e "items" apos) [] [] cpos) X.env) :: starEach [] X.env := by rfl) :
    PE X (.Call (.Name "list" p) [.Call (.Attribute e "items" apos) [] [] cpos] [] pos) (fun σ H Q => te σ H fun x H1 => rItemsR x H1 Q) := by
  refine ⟨fun pns st sg hp Q inv hq => ?_⟩
  refine wpAny_Call_Name_kw (ld_blt inv hg hm hv (PyProof.Rows.callWith_type1 ?_ hs rfl) (by decide) (by decide))
  rw [hs]
  refine Calls.spliced_cons (wpAny_Call_method hb rfl hl F.plainAttrs_dict F.slot_dict_items F.type_dict_items (thn (he.run pns st sg hp _ inv hq) fun u s1 ⟨x, H1, I1, rx, d, kvs, ex, hd, q⟩ => ?_))
  subst ex
  cases rx
  obtain ⟨z, lo, vs, rel, dd⟩ := rd_of I1.hok hd
  obtain ⟨ep, hat⟩ := dd.dictAt
  have lk := rel.length
  have I2 := I1.kept (t' := s1.toks) (fun b ob q => Heap.get?_push_of_some { cls := Value.type "dict_items", data := Data.fields #[Value.ref d] } q)
  refine ⟨dd.typeIs, dd.mapOf.noDict, ?_⟩
  refine method_meetsIn F.slot_dict_items F.entry_dict_items rfl (evalArgs_none ⟨rfl, dd.typeIs, F.args_dict_items_1 (Value.ref d), _, meets_dict_items (mixKind X.prog X.w) d lo, ⟨vs, dd⟩, ?_⟩)
  refine Calls.spliced_nil (PySem.W.kdx_call (inv.ok.hd hc) ⟨_, Heap.get?_push_size s1.1 rfl, rfl, rfl⟩ (hat.push _) (by omega) fun h' tk acc c as hk hS hl hG hacc => ?_)
  obtain ⟨H', k1, k2, k3, k4, k5, k6, k7⟩ := LiI.items_laid I2 z rel hk hS hl hG hacc
  exact ⟨.ref _, H', k7, rfl, q H' _ as k1 k2 k3 k4 k5 k6⟩
def pairsD (ds : List (D × D)) : List D := ds.map fun p => .tuple [p.1, p.2]
def fItemsD (a : Sem) : Sem := fun env => (a env).bind fun p => match p.1 with
  | .dict ds => if hasNd (ds.map (·.2)) = false then some (.list (pairsD ds), p.2) else none
  | _ => none
theorem pairs_is {K : PySem.W.Frag} {B H' : Hp} {ts : List Addr} {kvs : List (Key × V)} (pr : Paired (fun (t : Addr) (q : Key × V) => H' t = some (.tup [kV q.1, q.2])) ts kvs) : ∀ {ds : List (D × D)}, IsK K B kvs ds → hasNd (ds.map (·.2)) = false → (∀ t ∈ ts, ∀ o, H' t = some o → B t = some o) → IsAll K B (ts.map V.ref) (pairsD ds) := by
  induction pr with
  | nil => intro ds h _ _; cases h; exact .nil
  | cons a t ih =>
    intro ds h nn eb
    cases h with
    | @cons k v _ d ds i r =>
      have n1 : v ≠ .non := fun z => by subst z; cases i; cases nn
      have n2 : hasNd (ds.map (·.2)) = false := by cases d <;> first | cases nn | exact nn
      refine .cons (.tup (.of (eb _ List.mem_cons_self _ a) (hasN_two (by cases k <;> exact fun z => nomatch z) n1)) (.cons ?_ (.cons i .nil))) (ih r n2 fun t m => eb t (List.mem_cons_of_mem _ m))
      cases k with
      | inl n => exact .int n
      | inr x => exact .str x
theorem ge_items {e : Expr} {te : TE} {f : Sem} {p apos cpos pos : Pos} (hc : X.calm = true) (he : GP X e te f) (hm : X.mg "list" = none) (hg : Gl X "list" := by rfl) (hb : attributeBase e "items" X.env (eval e X.env) = eval e X.env := by rfl) (hl : (apos.endLine == cpos.line) = true := by rfl)
    (hs : starEach [.Call (.Attribute e "items" apos) [] [] cpos] X.env = (false, eval (.Call (.Attribute e "items" apos) [] [] cpos) X.env) :: starEach [] X.env := by rfl) :
    GE X (.Call (.Name "list" p) [.Call (.Attribute e "items" apos) [] [] cpos] [] pos) (fun σ H Q => te σ H fun x H1 => rItemsR x H1 Q) (fItemsD f) := ⟨pe_listItemsR hc he.pe hm hg (by decide +kernel) hb hl hs, fun P B0 F B H env σ d env' E hf Q q => by
  obtain ⟨⟨x, e1⟩, h1, h2⟩ := Option.bind_eq_some_iff.mp hf
  cases x with
  | dict ds =>
    dsimp only at h2
    split at h2
    case isFalse => cases h2
    rename_i nn
    cases h2
    refine he.ge P B0 F B H env σ _ _ E h1 _ fun v B1 H1 E1 s1 i1 => ?_
    obtain ⟨l, ws, rfl, hr, hk⟩ := i1.dict E1.bh
    refine ⟨l, ws, rfl, hr, fun H' p ts sm hp ht np hp' pr => ?_⟩
    let B2 : Hp := fun a => if a ∈ p :: ts then H' a else B1 a
    have fr : ∀ a ∈ p :: ts, H1 a = none := fun a m => (List.mem_cons.mp m).elim (fun z => by rw [z]; exact hp) (ht a)
    have s12 : Same B1 B2 := fun a o h => by
      show (if a ∈ p :: ts then H' a else B1 a) = _
      split
      · exact sm _ _ (E1.bh _ _ h)
      · exact h
    have inn : ∀ a ∈ p :: ts, B2 a = H' a := fun a m => by
      show (if a ∈ p :: ts then H' a else B1 a) = _
      rw [if_pos m]
    have g : Grow B1 H1 B2 H' := ⟨s12, sm, fun a o h => by
      have h' : (if a ∈ p :: ts then H' a else B1 a) = some o := h
      split at h'
      · exact h'
      · exact sm _ _ (E1.bh _ _ h'), fun a o h n => .inl (by
      show (if a ∈ p :: ts then H' a else B1 a) = none
      rw [if_neg (fun m => by rw [fr a m] at h; cases h)]; exact n)⟩
    refine q _ B2 H' (E1.grow g) (s1.trans s12) (.lst (by rw [inn p List.mem_cons_self]; exact hp') (pairs_is pr (hk.up s12) nn fun t m o h => ?_))
    rw [inn t (List.mem_cons_of_mem _ m)]; exact h
  | _ => cases h2⟩
/-! ### dict(pairs) -/
def pairsOf : List D → Option (List (Key × D))
  | [] => some []
  | .tuple [k, d] :: r => (keyOf k).bind fun k => (pairsOf r).map fun ps => (k, d) :: ps
  | _ :: _ => none
def mergeO (kvs more : List (Key × D)) : List (Key × D) := more.foldl (fun acc p => putO acc p.1 p.2) kvs
def dDictP : D → Option D
  | .list ds => (pairsOf ds).map fun ps => .dict (kvD (mergeO [] ps))
  | _ => none
theorem OpK.merge {K : PySem.W.Frag} {B : Hp} {ms : List (Key × V)} {md : List (Key × D)} (m : OpK K B ms md) : ∀ {ws : List (Key × V)} {kvs : List (Key × D)}, OpK K B ws kvs → OpK K B (mergeK ws ms) (mergeO kvs md) := by
  induction m with
  | nil => intro ws kvs h; exact h
  | cons i _ ih => intro ws kvs h; exact ih (h.put i)
theorem pairsOf_is {K : PySem.W.Frag} {B H : Hp} (e : Same B H) : ∀ {ds : List D} {ps : List (Key × D)} {vs : List V}, pairsOf ds = some ps → IsAll K B vs ds → ∃ (as : List Addr) (ws : List (Key × V)), vs = as.map V.ref ∧ Paired (fun p kv => SqT K H p [kV kv.1, kv.2]) as ws ∧ OpK K B ws ps
  | [], ps, vs, h, i => by cases h; cases i; exact ⟨[], [], rfl, .nil, .nil⟩
  | d :: ds, ps, vs, h, i => by
    unfold pairsOf at h
    split at h
    case h_1 => rename_i z; cases z
    case h_3 => cases h
    rename_i k x r z
    cases z
    obtain ⟨kk, h1, h2⟩ := Option.bind_eq_some_iff.mp h
    obtain ⟨qs, h3, h4⟩ := Option.map_eq_some_iff.mp h2
    subst h4
    cases i with
    | cons i1 i2 =>
      obtain ⟨as, ws, rfl, p1, p2⟩ := pairsOf_is e h3 i2
      cases i1 with
      | tup ha hl =>
        cases hl with
        | cons j1 j2 =>
          cases j2 with
          | cons j3 j4 =>
            cases j4
            have ek := keyV (.fz (H := H) j1) h1
            subst ek
            exact ⟨_ :: as, (kk, _) :: ws, rfl, .cons (ha.sq e) p1, .cons j3 p2⟩
theorem cs_dictP {K : PySem.W.Frag} : CallS1 K (fun xs H Q => ∃ (a : Addr) (ps : List Addr) (kvs : List (Key × V)), xs = [.ref a] ∧ SqL K H a (ps.map V.ref) ∧ Paired (fun p kv => SqT K H p [kV kv.1, kv.2]) ps kvs ∧ ∀ p, H p = none → Q (.ref p) (upd H p (.dK (mergeK [] kvs)))) dDictP := by
  intro B H v x z e hv hg Q q
  cases x with
  | list ds =>
    obtain ⟨ps, h1, h2⟩ := Option.map_eq_some_iff.mp hg
    subst h2
    obtain ⟨l, vs, rfl, hl, il⟩ := hv.list e
    obtain ⟨as, ws, rfl, p1, p2⟩ := pairsOf_is e h1 il
    refine ⟨l, as, ws, rfl, SqL.of hl, p1, fun p hp => ?_⟩
    have g := Grow.new (o := .dK (mergeK [] ws)) e hp
    exact q _ _ _ g (.dk (.inl upd_same) ((p2.merge .nil).up g.b).isK)
  | _ => cases hg
/-! ### a list against [] -/
def dNeNil : D → D → Option D
  | .list xs, .list [] => some (.bool (!xs.isEmpty))
  | _, _ => none
def rNeNil (K : PySem.W.Frag) : R2 := fun x y H Q => ∃ a b xs, x = .ref a ∧ y = .ref b ∧ SqL K H a xs ∧ SqL K H b [] ∧ Q (.bl (!xs.isEmpty)) H
theorem op_neNil (hu : X.A.units + 100 < cLine) : OpR X (compareOp .NotEq) (rNeNil X.K) := by
  intro pns st sg hp x y v u Q inv rx ry h
  obtain ⟨a, b, xs, rfl, rfl, h1, h2, q⟩ := h
  cases rx
  cases ry
  obtain ⟨its, v1, p1, r1⟩ := inv.list h1
  obtain ⟨js, v2, p2, r2⟩ := inv.list h2
  cases v2
  have go : ∀ k : Bool, k = (!xs.isEmpty) → SeqAt.RcNeAt X.A st (.ref a) (.ref b) k → wpAny (model X.prog X.w) X.A (compareOp CmpOp.NotEq (Value.ref a) (Value.ref b)) (EP X pns sg Q) X.xe st := fun k e h => by
    show wpAny (model X.prog X.w) X.A (richCompare CmpOp.NotEq (Value.ref a) (Value.ref b)) _ _ _
    exact h _ _ _ _ ⟨.bl k, hp, inv, rfl, by rw [e]; exact q⟩
  cases xs with
  | nil =>
    cases v1
    exact go false rfl (SeqAt.RcNeAt.lists (e := fun _ => true) p1.isList p2.isList rfl (by omega) (fun j h => by cases h))
  | cons x r =>
    have hl := v1.length
    exact go true rfl (SeqAt.RcNeAt.lists_lengths p1.isList p2.isList (by
      have : its.length = r.length + 1 := by rw [← hl]; rfl
      simp [this]) (by omega))
theorem og_neNil (hu : X.A.units + 100 < cLine) : OpG X (compareOp .NotEq) (rNeNil X.K) dNeNil := ⟨op_neNil hu, by
  intro B H v u x y z e hv hu' hg Q q
  unfold dNeNil at hg
  split at hg
  · cases hg
    obtain ⟨l, vs, rfl, hl, il⟩ := hv.list e
    obtain ⟨m, ws, rfl, hm, im⟩ := hu'.list e
    cases im
    exact ⟨l, m, vs, rfl, rfl, SqL.of hl, SqL.of hm, by rw [il.emp]; exact q _ B H (.refl e) (.bl _)⟩
  · cases hg⟩
end
end GL
/-! sorted(set(xs)), the items tuples of small numbers. -/
namespace GL
open PySem L2

def intsD : List D → Option (List Int)
  | [] => some []
  | .int i :: r => (intsD r).map (i :: ·)
  | _ :: _ => none
def tupsD : List D → Option (List (List Int))
  | [] => some []
  | .tuple ds :: r => (intsD ds).bind fun ns => (tupsD r).map (ns :: ·)
  | _ :: _ => none
def tupI (ns : List Int) : D := .tuple (ns.map .int)
def dd : List (List Int) → List (List Int)
  | [] => []
  | x :: r => if x ∈ r then dd r else x :: dd r
theorem mem_dd {x : List Int} : ∀ {xs : List (List Int)}, x ∈ dd xs ↔ x ∈ xs
  | [] => Iff.rfl
  | y :: r => by
    unfold dd
    split
    · rename_i h
      rw [mem_dd, List.mem_cons]
      exact ⟨.inr, fun z => z.elim (fun e => e ▸ h) id⟩
    · rw [List.mem_cons, List.mem_cons, mem_dd]
theorem nodup_dd : ∀ xs : List (List Int), (dd xs).Nodup
  | [] => List.nodup_nil
  | y :: r => by
    unfold dd
    split
    · exact nodup_dd r
    · rename_i h
      exact List.nodup_cons.mpr ⟨fun m => h (mem_dd.mp m), nodup_dd r⟩
abbrev cap : Int := 1000
def sortSet (xs : List (List Int)) : List (List Int) := (dd xs).mergeSort fun a b => decide (TS.code cap a ≤ TS.code cap b)
def okSet (n : Nat) (xs : List (List Int)) : Bool := decide (xs.length < 64) && xs.all fun ns => decide (ns.length = n) && ns.all fun i => decide (0 ≤ i) && decide (i < cap)
theorem okSet_mem {n : Nat} {xs : List (List Int)} (h : okSet n xs = true) : xs.length < 64 ∧ ∀ ns ∈ xs, ns.length = n ∧ TS.Bd cap ns := by
  unfold okSet at h
  simp only [Bool.and_eq_true, decide_eq_true_eq, List.all_eq_true] at h
  exact ⟨h.1, fun ns m => ⟨(h.2 ns m).1, fun i mi => (h.2 ns m).2 i mi⟩⟩
theorem sortSet_perm (xs : List (List Int)) : (sortSet xs).Perm (dd xs) := List.mergeSort_perm _ _
theorem sortSet_mem {xs : List (List Int)} {x : List Int} : x ∈ sortSet xs ↔ x ∈ xs := ((sortSet_perm xs).mem_iff).trans mem_dd
theorem sortSet_nodup (xs : List (List Int)) : (sortSet xs).Nodup := (sortSet_perm xs).nodup_iff.mpr (nodup_dd xs)
theorem sortSet_le (xs : List (List Int)) : (sortSet xs).Pairwise fun a b => TS.code cap a ≤ TS.code cap b := by
  have h := List.pairwise_mergeSort (le := fun a b : List Int => decide (TS.code cap a ≤ TS.code cap b)) (fun a b c h1 h2 => by
    simp only [decide_eq_true_eq] at h1 h2 ⊢; omega) (fun a b => by
    simp only [Bool.or_eq_true, decide_eq_true_eq]; omega) (dd xs)
  exact h.imp fun h => of_decide_eq_true h
theorem code_inj {B : Int} : ∀ {a b : List Int}, a.length = b.length → TS.Bd B a → TS.Bd B b → TS.code B a = TS.code B b → a = b
  | [], [], _, _, _, _ => rfl
  | d :: r, e :: q, hl, ha, hb, hc => by
    have hl' : r.length = q.length := by simpa using hl
    rcases Int.lt_trichotomy d e with h | h | h
    · have := TS.code_lt hl' ha.tail hb.tail h
      omega
    · subst h
      have e1 : TS.code B (d :: r) = d * B ^ r.length + TS.code B r := rfl
      have e2 : TS.code B (d :: q) = d * B ^ q.length + TS.code B q := rfl
      rw [e1, e2, hl'] at hc
      rw [code_inj hl' ha.tail hb.tail (by omega)]
    · have := TS.code_lt hl'.symm hb.tail ha.tail h
      omega
theorem sortSet_uniq {n : Nat} {xs ys : List (List Int)} (ok : okSet n xs = true) (nd : ys.Nodup) (le : ys.Pairwise fun a b => TS.code cap a ≤ TS.code cap b) (mem : ∀ x, x ∈ ys ↔ x ∈ xs) : ys = sortSet xs := by
  refine List.Perm.eq_of_pairwise (le := fun a b => TS.code cap a ≤ TS.code cap b) (fun a b ma mb h1 h2 => ?_) le (sortSet_le xs) ((List.perm_ext_iff_of_nodup nd (sortSet_nodup xs)).mpr fun a => (mem a).trans sortSet_mem.symm)
  obtain ⟨_, hm⟩ := okSet_mem ok
  have ha := hm a ((mem a).mp ma)
  have hb := hm b (sortSet_mem.mp mb)
  exact code_inj (by rw [ha.1, hb.1]) ha.2 hb.2 (by omega)
theorem intsD_is {K : PySem.W.Frag} {B : Hp} : ∀ {ds : List D} {ns : List Int} {vs : List V}, intsD ds = some ns → IsAll K B vs ds → vs = ns.map V.int ∧ ds = ns.map PyData.int
  | [], ns, vs, h, i => by cases h; cases i; exact ⟨rfl, rfl⟩
  | d :: r, ns, vs, h, i => by
    cases d with
    | int n =>
      obtain ⟨ms, h1, h2⟩ := Option.map_eq_some_iff.mp h
      subst h2
      cases i with
      | cons i1 i2 =>
        cases i1
        obtain ⟨e1, e2⟩ := intsD_is h1 i2
        exact ⟨by rw [e1]; rfl, by rw [e2]; rfl⟩
    | _ => cases h
theorem ints_is {K : PySem.W.Frag} {B : Hp} : ∀ ns : List Int, IsAll K B (ns.map V.int) (ns.map PyData.int)
  | [] => .nil
  | n :: r => .cons (.int n) (ints_is r)
theorem tupsD_is {K : PySem.W.Frag} {B : Hp} : ∀ {ds : List D} {nss : List (List Int)} {vs : List V}, tupsD ds = some nss → IsAll K B vs ds → ∃ ks : List (Addr × List Int), vs = ks.map (fun p => V.ref p.1) ∧ ks.map (·.2) = nss ∧ ∀ p ∈ ks, B p.1 = some (.tup (p.2.map V.int))
  | [], nss, vs, h, i => by cases h; cases i; exact ⟨[], rfl, rfl, fun p m => by cases m⟩
  | d :: r, nss, vs, h, i => by
    cases d with
    | tuple ds =>
      obtain ⟨ns, h1, h2⟩ := Option.bind_eq_some_iff.mp h
      obtain ⟨ms, h3, h4⟩ := Option.map_eq_some_iff.mp h2
      subst h4
      cases i with
      | cons i1 i2 =>
        obtain ⟨ks, e1, e2, e3⟩ := tupsD_is h3 i2
        cases i1 with
        | @tup a xs _ ha hl =>
          obtain ⟨e4, _⟩ := intsD_is h1 hl
          subst e4
          exact ⟨(a, ns) :: ks, by rw [e1]; rfl, by rw [← e2]; rfl, fun p m => (List.mem_cons.mp m).elim (fun z => by rw [z]; exact ha.no (hasN_ints _)) (e3 p)⟩
    | _ => cases h
def fSortSet (n : Nat) (a : Sem) : Sem := fun env => (a env).bind fun p => match p.1 with
  | .list ds => (tupsD ds).bind fun nss => if okSet n nss = true ∧ 1 ≤ n then some (.list ((sortSet nss).map tupI), p.2) else none
  | _ => none
section
variable {X : Cx}
theorem ge_sortSet {e : Expr} {te : TE} {f : Sem} {p p2 q pos : Pos} (n : Nat) (hu : X.A.units + 100 < cLine) (hc : X.calm = true) (he : GP X e te f) (hm : X.mg "sorted" = none) (hm2 : X.mg "set" = none) (hg : Gl X "sorted" := by rfl) (hg2 : Gl X "set" := by rfl)
    (hs : starEach [.Call (.Name "set" p2) [e] [] q] X.env = (false, eval (.Call (.Name "set" p2) [e] [] q) X.env) :: starEach [] X.env := by rfl) (hpl : (backTo pos (starEach [] X.env)).any (·.1) = false := by rfl)
    (hs2 : starEach [e] X.env = (false, eval e X.env) :: starEach [] X.env := by rfl) (hpl2 : (backTo q (starEach [] X.env)).any (·.1) = false := by rfl) :
    GE X (.Call (.Name "sorted" p) [.Call (.Name "set" p2) [e] [] q] [] pos) (tCB (rSortedT X.K X.prog X.w) (tCons (tCB (rSetOfT X.K X.prog X.w) (tCons te tNil)) tNil)) (fSortSet n f) :=
  ⟨pe_callB (cr_sortedT hc) hg hm (by decide +kernel) (pa_cons (pe_callTy (cr_setOfT hc (by omega)) hg2 hm2 (by decide +kernel) (pa_cons he.pe pa_nil hs2) (by decide) (by decide) hs2 hpl2) pa_nil hs) (by decide) (by decide) hs hpl, fun P B0 F B H env σ d env' E hf Q qq => by
    obtain ⟨⟨x, e1⟩, h1, h2⟩ := Option.bind_eq_some_iff.mp hf
    cases x with
    | list ds =>
      obtain ⟨nss, h3, h4⟩ := Option.bind_eq_some_iff.mp h2
      split at h4
      case isFalse => cases h4
      rename_i ok
      cases h4
      refine he.ge P B0 F B H env σ _ _ E h1 _ fun v B1 H1 E1 s1 i1 => ?_
      obtain ⟨l, vs, rfl, hl, il⟩ := i1.list E1.bh
      obtain ⟨ks, rfl, ek, hks⟩ := tupsD_is h3 il
      subst ek
      obtain ⟨sm, mm⟩ := okSet_mem ok.1
      refine ⟨l, ks, rfl, SqL.of hl, fun p m => SqT.of (E1.bh _ _ (hks p m)), by simpa using sm, fun a L ha hL hK => ?_⟩
      have E2 := E1.grow (Grow.open (o := SetTO X.prog X.w a L) E1.bh ha)
      refine ⟨a, L, n, cap, rfl, upd_same, fun p m => SqT.of (E2.bh _ _ (hks p (hL p m))), ok.2, fun p m => mm _ (List.mem_map_of_mem (hL p m)), fun L' p hp hn hz hw hq => ?_⟩
      have g := Grow.new (o := .lst (L'.map fun q => V.ref q.1)) E2.bh hq
      have e : L'.map (·.2) = sortSet (ks.map (·.2)) := by
        refine sortSet_uniq ok.1 hn (List.pairwise_map.mpr hw) fun x => ⟨fun m => ?_, fun m => ?_⟩
        · obtain ⟨q, m1, m2⟩ := List.mem_map.mp m
          exact List.mem_map.mpr ⟨q, hL q (hp.mem_iff.mp m1), m2⟩
        · obtain ⟨q, m1, m2⟩ := List.mem_map.mp m
          have := hK q m1
          rw [m2] at this
          obtain ⟨q', m3, m4⟩ := List.mem_map.mp this
          exact List.mem_map.mpr ⟨q', hp.mem_iff.mpr m3, m4⟩
      refine qq _ _ _ (E2.grow g) (s1.trans g.b) (.lst upd_same ?_)
      rw [← e, List.map_map]
      have hall : ∀ (M : List (Addr × List Int)), (∀ q ∈ M, q ∈ ks) → IsAll X.K (upd B1 p (.lst (L'.map fun q => V.ref q.1))) (M.map fun q => V.ref q.1) (M.map (tupI ∘ fun q => q.2)) := by
        intro M
        induction M with
        | nil => intro _; exact .nil
        | cons q M ih => exact fun hM => .cons (.tup (.of (g.b _ _ (hks q (hM q List.mem_cons_self))) (hasN_ints _)) (ints_is _)) (ih fun q' m => hM q' (List.mem_cons_of_mem _ m))
      exact hall L' fun q m => hL q (hp.mem_iff.mp m)
    | _ => cases h2⟩
end
end GL
/-! d.update({k: x for ..}), the keys being tuples. -/
namespace GL
open PySem L2

def mergeT (ks ms : List (List Key × V)) : List (List Key × V) := ms.foldl (fun acc p => L2.putK acc p.1 p.2) ks
theorem KT.merge {H : Hp} {ms : List (List Key × V)} {ys : List (List Key × Addr × Value)} (m : KT H ms ys) : ∀ {ks : List (List Key × V)} {xs : List (List Key × Addr × Value)}, KT H ks xs → KT H (mergeT ks ms) (storedAllH xs ys) := by
  induction m with
  | nil => intro ks xs h; exact h
  | @cons p y l1 l2 a _ ih =>
    intro ks xs h
    obtain ⟨e1, e2, e3⟩ := a
    have h2 := ih (KT.put h _ e2 e3)
    show KT H (mergeT (L2.putK ks p.1 p.2) l1) (storedAllH (storedH xs y.1 y.2.1 y.2.2) l2)
    rw [← e1]
    exact h2
theorem KT.hashes {P : Program} {w : World} {H : Hp} {ms : List (List Key × V)} {ys : List (List Key × Addr × Value)} (m : KT H ms ys) : (ys.map fun x => (tupleKind (mixKind P w)).hash x.1) = ms.map fun p => tupleKeyHash (mixKind P w) p.1 := by
  induction m with
  | nil => rfl
  | cons a _ ih =>
    rw [List.map_cons, List.map_cons, ih, a.1]
    rfl
theorem mergeT_len (ms : List (List Key × V)) : ∀ ks : List (List Key × V), (mergeT ks ms).length ≤ ks.length + ms.length := by
  induction ms with
  | nil => intro ks; exact Nat.le_refl _
  | cons p ms ih =>
    intro ks
    have h1 := ih (L2.putK ks p.1 p.2)
    have h2 := length_putK ks p.1 p.2
    show (mergeT (L2.putK ks p.1 p.2) ms).length ≤ _
    rw [List.length_cons]
    omega
section
variable {X : Cx}
def rUpdT (X : Cx) : V → List V → Hp → VK → Prop := fun x vs H Q => ∃ d o ks ms, x = .ref d ∧ vs = [.ref o] ∧ d ≠ o ∧ H d = some (.dT ks) ∧ H o = some (.dT ms) ∧ (ks ≠ [] ∨ (ms.map fun p => tupleKeyHash (mixKind X.prog X.w) p.1).Nodup) ∧ ks.length + ms.length ≤ sizeLine ∧ Q .non (upd H d (.dT (mergeT ks ms)))
theorem mt_updT (hu : X.A.units + 100 < cLine) : MtR X "dict.update" (rUpdT X) := by
  intro pns st sg hp x xs v us Q inv rx rs h
  obtain ⟨d, o, ks, ms, rfl, rfl, ne, h1, h2, hap, hz, q⟩ := h
  cases rx
  rw [Vals.ref1 rs]
  obtain ⟨z1, l1, ys1, k1, d1⟩ := dt_of inv.hok h1
  obtain ⟨z2, l2, ys2, k2, d2⟩ := dt_of inv.hok h2
  refine call_update_dictH (tupleKind_room_in1 (by omega)) ne l2 d1 d2 ?_ (by rw [← Paired.length k1, ← Paired.length k2]; exact hz) fun h' hd' ho' hs => ?_
  · refine hap.elim (fun h => .inl fun e => h ?_) fun h => .inr ⟨keyed_apart tupleKind_stays d2, by rw [KT.hashes k2]; exact h⟩
    have := Paired.length k1
    rw [e] at this
    exact List.eq_nil_of_length_eq_zero this
  · have kt := KT.merge k2 k1
    obtain ⟨qo, es, ep, hq, e2, e3, e4, e5⟩ := id hd'
    refine ⟨.non, upd hp d (.dT (mergeT ks ms)), d_write inv (by rw [h1]; trivial) hs ⟨_, hq⟩ ⟨Nat.le_trans (mergeT_len ms ks) hz, l1, _, KT.keeps kt fun c ys ec => ?_, qo, es, ep, hq, e2, e3, e4, e5.2⟩, rfl, q⟩
    rw [upd_ne (ne_of ec h1 fun z => nomatch z)]; exact ec
/-! ### {k: x for ..}, the keys tuples -/
def tDcT (wi : TI) (g : TG) (tt : TT) (tk tv : TE) (vs : List Nat) : TE := fun σ H Q => wi σ H fun J H1 => ∀ D : Addr, H1 D = none → ∃ W : Nat → Nat → Hp → Prop, (∃ m, W 0 m (upd H1 D (.dT []))) ∧ ∀ (i m : Nat) (H : Hp), W i m H → (J.stop i H ∧ Q (.ref D) H) ∨ (J.go i H ∧
  ∃ Nx : Hp → Prop, (∀ H', Nx H' → ∃ m', m' < m ∧ W (i + 1) m' H') ∧ ∀ (x : V) (H' : Hp), J.yld i H x H' → g x (wipe σ vs) H' fun σ2 H2 => wipe σ2 vs = wipe σ vs ∧ tt σ2 H2 fun b H3 => if b = true then tk σ2 H3 fun y H4 => tv σ2 H4 fun z H5 =>
    ∃ kvs k a, y = .ref a ∧ H5 a = some (.tup (k.map kV)) ∧ H5 D = some (.dT kvs) ∧ kvs.length < sizeLine ∧ Nx (upd H5 D (.dT (L2.putK kvs k z))) else Nx H3)
theorem d_setT {pins : List (Addr × Obj)} {σ : L2.St} {H : Hp} {s : Shared} {E : Value → Shared → Prop} {D a : Addr} {kvs : List (List Key × V)} {k : List Key} {v : V} {r : Value} {Q : Unit → Shared → Prop} (hu : X.A.units + 100 < cLine) (I : L2.Inv X pins σ H s) (hD : H D = some (.dT kvs)) (hz : kvs.length < sizeLine) (ha : H a = some (.tup (k.map kV))) (rv : RelV v r)
    (h : ∀ s', L2.Inv X pins σ (upd H D (.dT (L2.putK kvs k v))) s' → Q () s') : wpAny (model X.prog X.w) X.A (dictSet D (.ref a) r) Q E s := by
  obtain ⟨z1, l1, xs, k1, d1⟩ := dt_of I.hok hD
  refine wpAny_dictSet_heap (show X.A.units < cLine by omega) (key_of I.hok ha) d1 (fun h' dd' hs => h _ ?_) (by rw [← Paired.length k1]; exact z1)
  obtain ⟨qo, es, ep, hq, e2, e3, e4, e5⟩ := id dd'
  have hl := length_putK kvs k v
  refine d_write I (by rw [hD]; trivial) hs ⟨_, hq⟩ ⟨by omega, l1, _, KT.keeps (KT.put k1 k ha rv) fun c ys ec => ?_, qo, es, ep, hq, e2, e3, e4, e5.2⟩
  rw [upd_ne (ne_of ec hD fun z => nomatch z)]; exact ec
abbrev dcBlk (X : Cx) (s2 : Shared) (H2 : Hp) (scope : Scope) (fp : List Addr) : Cx := X.blk ⟨s2.heap.push { cls := Value.type "dict", data := Data.dict #[] }, s2.gens, s2.drawn, s2.toks, s2.os⟩ (upd H2 s2.heap.objs.size (.dT [])) scope (compEnvC scope (cellsFrom ((s2.heap.push { cls := Value.type "dict", data := Data.dict #[] }).objs.size + 1) scope.names (cloFrom X.env.cells scope.names [])) (s2.heap.push { cls := Value.type "dict", data := Data.dict #[] }).objs.size X.env) fp
theorem pe_dcT {kx vx tg iter : Expr} {ifs : List Expr} {scope : Scope} {own : List (Str × Nat)} {pos : Pos} {wi : TI} {g : TG} {tt : TT} {tk tv : TE} (hu : X.A.units + 100 < cLine) (hc : X.calm = true) (hN : X.N.Nodup) (hi : PI X tg iter wi) (ok : BlkOk X.N X.env.scope scope own)
    (hg : ∀ (s : Shared) (H : Hp) (C : Addr) (cl : List (Str × Addr)) (fp : List Addr), PG (X.blk s H scope (compEnvC scope cl C X.env) fp) tg g)
    (ht : ∀ (s : Shared) (H : Hp) (C : Addr) (cl : List (Str × Addr)) (fp : List Addr), PTs (X.blk s H scope (compEnvC scope cl C X.env) fp) ifs tt)
    (hk : ∀ (s : Shared) (H : Hp) (C : Addr) (cl : List (Str × Addr)) (fp : List Addr), PE (X.blk s H scope (compEnvC scope cl C X.env) fp) kx tk)
    (he : ∀ (s : Shared) (H : Hp) (C : Addr) (cl : List (Str × Addr)) (fp : List Addr), PE (X.blk s H scope (compEnvC scope cl C X.env) fp) vx tv)
    (hs : ∀ x, foldedSetIterable iter X.env x = pure x := by intro _; rfl) : PE X (.DictComp kx vx [⟨tg, iter, ifs, 0⟩] scope pos) (tDcT wi g tt tk tv (own.map (·.2))) := by
  refine ⟨fun pns st sg hp Q inv h => ?_⟩
  rw [arm_eval_DictComp]
  have hfree : ∀ y ∈ scope.names, y.2 = .free → ∃ c, X.env.cells.lookup y.1 = some c := fun y hy e => (ok.free y hy e).elim (fun k => inv.ok.has y.1 (.inl k)) fun k => inv.ok.has y.1 (.inr k)
  refine wpAny_comprehension_free rfl hs (closure_ok hfree) ok.kind (fun y hy e => by rw [ok.uniq y hy, e]) ?_
  refine thn (hi.run pns st sg hp _ inv h) fun xv s1 hx => thn hx fun itv s2 ⟨it, fp, tn, J, H2, e, I2, T, st2, f2, q⟩ => ?_
  subst e
  refine wpAny_newObj_type (newEnv_comp ?_) (by rw [sizeOk]; exact Nat.zero_le _)
  have hDn := I2.hok.fresh (Nat.le_refl s2.heap.objs.size)
  obtain ⟨W, ⟨m0, w0⟩, turn⟩ := q s2.heap.objs.size hDn
  have I3 := Inv.laid (t' := s2.toks) I2 (fun b o e => Heap.get?_push_of_some { cls := Value.type "dict", data := Data.dict #[] } e) (Nat.le_refl _) (dt_empty s2.heap I2.big)
  have sz : ∀ b ∈ fp, b < s2.heap.objs.size := fun b hb => by
    obtain ⟨o, e, _⟩ := T.obj 0 s2.heap st2 b hb
    exact Heap.lt_size e
  have f3 : ∀ b ∈ fp, FpOk X pns (upd H2 s2.heap.objs.size (.dT [])) b ∧ b < (s2.heap.push { cls := Value.type "dict", data := Data.dict #[] }).objs.size := fun b hb => ⟨⟨by rw [upd_ne (Nat.ne_of_lt (sz b hb))]; exact (f2 b hb).1, (f2 b hb).2⟩, by rw [Heap.size_push]; exact Nat.lt_succ_of_lt (sz b hb)⟩
  have st3 := T.keep 0 s2.heap (s2.heap.push { cls := Value.type "dict", data := Data.dict #[] }) st2 fun b _ o e => Heap.get?_push_of_some _ e
  have I4 := block_start I3 ok hN f3
  have st4 := T.keep 0 _ (pushCells ((s2.heap.push { cls := Value.type "dict", data := Data.dict #[] }).push { cls := Value.type "dict", data := Data.dict #[] }) scope.names) st3 fun b _ o e => pushCells_keeps scope.names _ b o (Heap.get?_push_of_some _ e)
  have pg := hg ⟨s2.heap.push { cls := Value.type "dict", data := Data.dict #[] }, s2.gens, s2.drawn, s2.toks, s2.os⟩ (upd H2 s2.heap.objs.size (.dT [])) (s2.heap.push { cls := Value.type "dict", data := Data.dict #[] }).objs.size (cellsFrom ((s2.heap.push { cls := Value.type "dict", data := Data.dict #[] }).objs.size + 1) scope.names (cloFrom X.env.cells scope.names [])) fp
  have pt := ht ⟨s2.heap.push { cls := Value.type "dict", data := Data.dict #[] }, s2.gens, s2.drawn, s2.toks, s2.os⟩ (upd H2 s2.heap.objs.size (.dT [])) (s2.heap.push { cls := Value.type "dict", data := Data.dict #[] }).objs.size (cellsFrom ((s2.heap.push { cls := Value.type "dict", data := Data.dict #[] }).objs.size + 1) scope.names (cloFrom X.env.cells scope.names [])) fp
  have pk := hk ⟨s2.heap.push { cls := Value.type "dict", data := Data.dict #[] }, s2.gens, s2.drawn, s2.toks, s2.os⟩ (upd H2 s2.heap.objs.size (.dT [])) (s2.heap.push { cls := Value.type "dict", data := Data.dict #[] }).objs.size (cellsFrom ((s2.heap.push { cls := Value.type "dict", data := Data.dict #[] }).objs.size + 1) scope.names (cloFrom X.env.cells scope.names [])) fp
  have pe := he ⟨s2.heap.push { cls := Value.type "dict", data := Data.dict #[] }, s2.gens, s2.drawn, s2.toks, s2.os⟩ (upd H2 s2.heap.objs.size (.dT [])) (s2.heap.push { cls := Value.type "dict", data := Data.dict #[] }).objs.size (cellsFrom ((s2.heap.push { cls := Value.type "dict", data := Data.dict #[] }).objs.size + 1) scope.names (cloFrom X.env.cells scope.names [])) fp
  have nfp : ∀ b ∈ fp, upd H2 s2.heap.objs.size (.dT []) b = none := fun b hb => (f3 b hb).1.1
  have stat : ∀ {σ' : L2.St} {H' : Hp} {s' : Shared}, L2.Inv (dcBlk X s2 H2 scope fp) [] σ' H' s' → (∀ b ∈ fp, H' b = none) →
      ∀ b ∈ fp, FpOk (dcBlk X s2 H2 scope fp) [] H' b :=
    fun I' hn b hb => ⟨hn b hb, (I'.ok.exf b hb).1, I'.ok.exfs b hb, .inl hb, fun x c e => (I'.ok.exf b hb).2 x c e, fun p hp => by cases hp⟩
  refine (have loop := compLoop_anyD (prog := X.prog) (w := X.w) (A := X.A) (R := compPost (model X.prog X.w) X.A X.xe none (EP X pns sg Q) (Value.ref s2.heap.objs.size) (s2.heap.push { cls := Value.type "dict", data := Data.dict #[] }).objs.size) (kx := kx) (vx := vx) (target := tg) (iter := iter) (ifs := ifs) (scope := scope) (pos := pos) (it := .ref it) (D := s2.heap.objs.size) (env := compEnvC scope (cellsFrom ((s2.heap.push { cls := Value.type "dict", data := Data.dict #[] }).objs.size + 1) scope.names (cloFrom X.env.cells scope.names [])) (s2.heap.push { cls := Value.type "dict", data := Data.dict #[] }).objs.size X.env) (fun n s' => ∃ i H', L2.Inv (dcBlk X s2 H2 scope fp) [] (wipe sg (own.map (·.2))) H' s' ∧ tn i s'.heap ∧ (∀ b ∈ fp, H' b = none) ∧ W i n H') ?_ m0 ⟨0, _, I4, st4, nfp, w0⟩; codeAny_compStart_dict loop (T.self X.A 0 _ _ _ st4 loop))
  rintro n s5 ⟨i, H5, I5, st5, n5, w5⟩
  rcases turn i n H5 w5 with ⟨stop, qq⟩ | ⟨go, Nx, hNx, step⟩
  · refine thnF (T.done (dcBlk X s2 H2 scope fp) rfl rfl rfl hc i [] s5 _ H5 (fun _ _ => False) I5 (stat I5 n5) st5 stop) fun r s6 ⟨er, I6⟩ => ?_
    subst er
    have I7 := I3.call' I6.os I6.base I6.hok I6.bare fun b hb => ⟨(f3 b hb).1.2.2.2.1, (f3 b hb).1.2.1, (f3 b hb).1.2.2.2.2.1, (f3 b hb).1.2.2.2.2.2⟩
    have nC : H5 (s2.heap.push { cls := Value.type "dict", data := Data.dict #[] }).objs.size = none := I6.free
    obtain ⟨m, hn, _⟩ := I6.loc
    have f := Inv.fpOk I3 (Nat.le_refl (s2.heap.push { cls := Value.type "dict", data := Data.dict #[] }).objs.size) nC
    refine ⟨m, hn, fun h'' sb => ⟨.ref _, H5, Inv.turned I7 (fun b o hb e => (sb.right b hb).trans e) f.1 f.2.1 f.2.2.2.1 f.2.2.2.2.1 f.2.2.2.2.2, rfl, qq⟩⟩
  · refine thnF (T.item (dcBlk X s2 H2 scope fp) rfl rfl rfl hc i [] s5 _ H5 (fun _ _ => False) I5 (stat I5 n5) st5 go) fun r s6 ⟨u, er, h6⟩ => ?_
    subst er
    refine thnF h6 fun _ s7 ⟨x, H7, I7, r7, y7, st7, n7⟩ => ?_
    have I7' := Inv.pinned I7 (stat I7 n7) (T.obj (i + 1) s7.heap st7)
    refine thnF (pg.run ([] ++ pinsAt fp s7.heap) s7 _ H7 x u _ I7' r7 (step x H7 y7)) fun _ s8 ⟨σ8, H8, I8, hw8, q8⟩ => ?_
    have fin : ∀ {H' : Hp} {s' : Shared}, L2.Inv (dcBlk X s2 H2 scope fp) ([] ++ pinsAt fp s7.heap) σ8 H' s' → Nx H' → ∃ m, m < n ∧ ∃ i H', L2.Inv (dcBlk X s2 H2 scope fp) [] (wipe sg (own.map (·.2))) H' s' ∧ tn i s'.heap ∧ (∀ b ∈ fp, H' b = none) ∧ W i m H' := fun {H' s'} I' nx => by
      obtain ⟨m', hm, w'⟩ := hNx H' nx
      have pin' : ∀ b ∈ fp, ∀ o, s7.heap.get? b = some o → s'.heap.get? b = some o ∧ H' b = none := fun b hb o e => by
        have z := I'.pin (b, o) (List.mem_append_right _ (List.mem_append_right _ (mem_pinsAt hb e)))
        exact ⟨z.1, z.2.1⟩
      have hl : (wipe sg (own.map (·.2))).length = σ8.length := by rw [← hw8, wipe_length]
      refine ⟨m', hm, i + 1, H', Inv.weak (Inv.unpinned I') hl (fun j v e => (wipe_some (by rw [hw8]; exact e)).1), T.keep (i + 1) s7.heap s'.heap st7 (fun b hb o e => (pin' b hb o e).1), fun b hb => ?_, w'⟩
      obtain ⟨o, e, _⟩ := T.obj (i + 1) s7.heap st7 b hb
      exact (pin' b hb o e).2
    refine thnF (pt.run ([] ++ pinsAt fp s7.heap) s8 σ8 H8 _ I8 q8) fun b s9 ⟨H9, I9, q9⟩ => ?_
    cases b with
    | false => exact fin I9 q9
    | true =>
      refine thnF (pk.run ([] ++ pinsAt fp s7.heap) s9 σ8 H9 _ I9 q9) fun kv s10 ⟨yk, H10, I10, r10, q10⟩ => ?_
      refine thnF (pe.run ([] ++ pinsAt fp s7.heap) s10 σ8 H10 _ I10 q10) fun vv s11 ⟨zv, H11, I11, r11, kvs, k, a, ek, ha, hD, hz, nx⟩ => ?_
      subst ek
      cases r10
      exact d_setT (X := dcBlk X s2 H2 scope fp) hu I11 hD hz ha r11 fun s12 I12 => fin I12 nx
end
/-- a tuple of numbers hashes so -/
def hashI (ns : List Int) : Int := reduceHash (Builtin.Tuple.tupleHashOf (ns.map hashInt))
def numK : List Key → Option (List Int)
  | [] => some []
  | .inl i :: r => (numK r).map (i :: ·)
  | .inr _ :: _ => none
def numsK : List (List Key × D) → Option (List (List Int))
  | [] => some []
  | p :: r => (numK p.1).bind fun n => (numsK r).map (n :: ·)
theorem numK_hash {P : Program} {w : World} : ∀ {k : List Key} {ns : List Int}, numK k = some ns → tupleKeyHash (mixKind P w) k = hashI ns := by
  have h : ∀ {k : List Key} {ns : List Int}, numK k = some ns → k.map (mixKind P w).hash = ns.map hashInt := by
    intro k
    induction k with
    | nil => intro ns h; cases h; rfl
    | cons a r ih =>
      intro ns h
      cases a with
      | inl i =>
        obtain ⟨m, h1, h2⟩ := Option.map_eq_some_iff.mp h
        subst h2
        rw [List.map_cons, List.map_cons, ih h1]
        rfl
      | inr x => cases h
  intro k ns hk
  unfold tupleKeyHash hashI
  rw [h hk]
def apartT (kvs : List (List Key × D)) : Bool := match numsK kvs with
  | some ns => decide (ns.map hashI).Nodup
  | none => false
theorem apartT_ok {K : PySem.W.Frag} {B : Hp} {P : Program} {w : World} {ws : List (List Key × V)} {kvs : List (List Key × D)} (h : OpK K B ws kvs) (a : apartT kvs = true) : (ws.map fun p => tupleKeyHash (mixKind P w) p.1).Nodup := by
  unfold apartT at a
  split at a
  case h_2 => cases a
  rename_i ns hn
  have e : ∀ {ws : List (List Key × V)} {kvs : List (List Key × D)} {ns : List (List Int)}, OpK K B ws kvs → numsK kvs = some ns → (ws.map fun p => tupleKeyHash (mixKind P w) p.1) = ns.map hashI := by
    intro ws kvs ns h
    induction h generalizing ns with
    | nil => intro h; cases h; rfl
    | cons _ _ ih =>
      intro h
      obtain ⟨n, h1, h2⟩ := Option.bind_eq_some_iff.mp h
      obtain ⟨m, h3, h4⟩ := Option.map_eq_some_iff.mp h2
      subst h4
      rw [List.map_cons, List.map_cons, ih h3, numK_hash h1]
  rw [e h hn]
  exact of_decide_eq_true a
def mergeOT (kvs more : List (List Key × D)) : List (List Key × D) := more.foldl (fun acc p => putO acc p.1 p.2) kvs
theorem OpK.mergeT {K : PySem.W.Frag} {B : Hp} {ms : List (List Key × V)} {md : List (List Key × D)} (m : OpK K B ms md) : ∀ {ws : List (List Key × V)} {kvs : List (List Key × D)}, OpK K B ws kvs → OpK K B (GL.mergeT ws ms) (mergeOT kvs md) := by
  induction m with
  | nil => intro ws kvs h; exact h
  | cons i _ ih => intro ws kvs h; exact ih (h.put i)
def cLoopT (g : SemG) (t : SemB) (k v : Sem) (vs : List Nat) : List D → List (List Key × D) → LEnv → Option (List (List Key × D) × LEnv)
  | [], acc, env => some (acc, env)
  | d :: ds, acc, env => if notOwn env vs = true then (g d (wipeE env vs)).bind fun e1 => (t e1).bind fun p =>
    if p.1 = true then (k p.2).bind fun q => (v q.2).bind fun r => (keysOf q.1).bind fun kk => if acc.length < 1000000 then cLoopT g t k v vs ds (putO acc kk r.1) r.2 else none
    else cLoopT g t k v vs ds acc p.2
    else none
def sUpdT (i : Nat) (fi : SemL) (g : SemG) (t : SemB) (k v : Sem) (vs : List Nat) : Sem := fun env => match env[i]? with
  | some (.dt _) => (fi env).bind fun p => if notOwn p.2 vs = true then (cLoopT g t k v vs p.1 [] p.2).bind fun q => if notOwn q.2 vs = true then match (putBack p.2 q.2 vs)[i]? with
    | some (.dt ks) => if (ks ≠ [] ∨ apartT q.1 = true) ∧ ks.length + q.1.length ≤ 1000000 then some (.none, (putBack p.2 q.2 vs).set i (.dt (mergeOT ks q.1))) else none
    | _ => none
    else none
    else none
  | _ => none
theorem dcAt {K : PySem.W.Frag} {P : List (Nat × Addr)} {B0 F B H : Hp} {σ : L2.St} {wi : TI} {g : TG} {tt : TT} {tk tv : TE} {vs ws : List Nat} {fg : SemG} {ft : SemB} {fk fv : Sem} {xs : List D} {kd : List (List Key × D)} {e1 e2 : LEnv}
    (hi : ∀ R : It → Hp → Prop, (∀ J B' H', EnvOk K P B0 F B' H' e1 σ → Same B B' → ItOk K J xs B' → R J H') → wi σ H R) (hg : Gg K g fg ws) (ht : Gt K tt ft) (hk : Ge K tk fk) (hv : Ge K tv fv) (hw : ∀ i ∈ ws, i ∈ vs) (hno : notOwn e1 vs = true) (h3 : cLoopT fg ft fk fv vs xs [] e1 = some (kd, e2)) (hno2 : notOwn e2 vs = true) (Q : VK)
    (q : ∀ p us B' H', EnvOk K P B0 F B' H' (putBack e1 e2 vs) σ → Same B B' → OpK K B' us kd → B' p = none → F p = none → (∀ (j : Nat) (t : Slot), (putBack e1 e2 vs)[j]? = some t → ¬ OwnA t σ[j]? p) → H' p = some (.dT us) → Q (.ref p) H') : tDcT wi g tt tk tv vs σ H Q := by
  refine hi _ fun J Bj H' E' s hJ p hp => ?_
  obtain ⟨fb, ff, fo⟩ := E'.fresh hp
  have gr0 := Grow.open (o := .dT []) E'.bh hp
  have E0 : EnvOk K P B0 (upd F p (.dT [])) Bj (upd H' p (.dT [])) e1 σ := (E'.grow gr0).addF upd_same fb fo
  refine ⟨fun i m H => m = xs.length - i ∧ i ≤ xs.length ∧ ∃ B env1 σ1 acc us, EnvOk K P B0 (upd F p (.dT us)) B H env1 σ1 ∧ Off vs σ σ1 ∧ Same Bj B ∧ OpK K B us acc ∧ cLoopT fg ft fk fv vs (xs.drop i) acc env1 = some (kd, e2), ⟨_, rfl, Nat.zero_le _, Bj, e1, σ, [], [], E0, ⟨rfl, fun _ _ => rfl⟩, Same.refl _, .nil, h3⟩, ?_⟩
  rintro i m H1 ⟨rfl, hle, B1, env1, σ1, acc, us, E1, o1, sB, ia, hc⟩
  by_cases hlt : i < xs.length
  · refine .inr ⟨hJ.go i B1 H1 sB E1.bh hlt, fun H2 => ∃ m', m' < xs.length - i ∧ (m' = xs.length - (i + 1) ∧ i + 1 ≤ xs.length ∧ ∃ B env1 σ1 acc us, EnvOk K P B0 (upd F p (.dT us)) B H2 env1 σ1 ∧ Off vs σ σ1 ∧ Same Bj B ∧ OpK K B us acc ∧ cLoopT fg ft fk fv vs (xs.drop (i + 1)) acc env1 = some (kd, e2)), fun H2 h => h, fun x H2 hy => ?_⟩
    have hd : xs[i]? = some xs[i] := List.getElem?_eq_getElem hlt
    obtain ⟨B2, gr, ix⟩ := hJ.yld i B1 H1 H2 x _ sB E1.bh hd hy
    rw [List.drop_eq_getElem_cons hlt] at hc
    unfold cLoopT at hc
    split at hc
    case isFalse => cases hc
    case isTrue hn1 =>
    obtain ⟨e3, h5, hc⟩ := Option.bind_eq_some_iff.mp hc
    obtain ⟨⟨b, e4⟩, h6, hc⟩ := Option.bind_eq_some_iff.mp hc
    have ow : Off vs σ1 (wipe σ vs) := o1.symm.trans (off_wipe σ vs)
    have E2 := (E1.grow gr).wiped (vs := vs) (fun v hv st q => by
      obtain ⟨s', hs', no⟩ := notOwn_at hn1 hv
      rw [q] at hs'; cases hs'
      cases ql : isLent st with
      | false => rfl
      | true => rw [lent_owns ql] at no; cases no) ow
    refine hg P B0 _ B2 H2 _ _ x _ e3 E2 ix h5 _ fun σ3 E3 o3 => ?_
    have o4 : Off vs σ σ3 := (off_wipe σ vs).trans (o3.mono hw)
    refine ⟨wipe_eq o4, ?_⟩
    refine ht P B0 _ B2 H2 e3 σ3 b e4 E3 h6 _ fun B4 H4 E4 s4 => ?_
    cases b with
    | true =>
      dsimp only at hc
      rw [if_pos rfl] at hc
      obtain ⟨⟨d, e5⟩, h7, hc⟩ := Option.bind_eq_some_iff.mp hc
      obtain ⟨⟨d2, e6⟩, h8, hc⟩ := Option.bind_eq_some_iff.mp hc
      obtain ⟨kk, h9, hc⟩ := Option.bind_eq_some_iff.mp hc
      split at hc
      case isFalse => cases hc
      case isTrue hz =>
      refine iteT (hk P B0 _ B4 H4 e4 σ3 d e5 E4 h7 _ fun v B5 H5 E5 s5 iv => hv P B0 _ B5 H5 e5 σ3 d2 e6 E5 h8 _ fun v2 B6 H6 E6 s6 iv2 => ?_)
      obtain ⟨a, rfl, hb⟩ := iv.keys h9
      refine ⟨us, kk, a, rfl, E6.bh _ _ (s6 _ _ hb), (E6.openF rfl).1, ?_, _, by omega, rfl, hlt, B6, e6, σ3, putO acc kk d2, L2.putK us kk v2, E6.writeF rfl, o4, (((sB.trans gr.b).trans s4).trans s5).trans s6, (ia.up (((gr.b.trans s4).trans s5).trans s6)).put iv2, hc⟩
      rw [ia.len]
      exact Nat.lt_of_lt_of_le hz (sz_ok (Nat.le_refl _))
    | false =>
      dsimp only at hc
      rw [if_neg Bool.false_ne_true] at hc
      exact iteF ⟨_, by omega, rfl, hlt, B4, e4, σ3, acc, us, E4, o4, (sB.trans gr.b).trans s4, ia.up (gr.b.trans s4), hc⟩
  · have e : i = xs.length := by omega
    subst e
    rw [List.drop_length] at hc
    cases hc
    have E2 := EnvOk.putBack' (vs := vs) E' E1 sB hno hno2 o1
    obtain ⟨g1, g2, g3⟩ := E2.openF rfl
    exact .inl ⟨hJ.stop _ B1 H1 sB E1.bh (Nat.le_refl _), q p us B1 H1 (E2.dropF ff) (s.trans sB) ia g2 ff g3 g1⟩
section
variable {X : Cx}
theorem ge_updT {o kx vx tg iter : Expr} {ifs : List Expr} {scope : Scope} {own : List (Str × Nat)} {pos apos cpos : Pos} {i : Nat} {wi : TI} {fi : SemL} {fg : SemG} {ft : SemB} {fk fv : Sem} (ws : List Nat) (hu : X.A.units + 100 < cLine) (hc : X.calm = true) (hN : X.N.Nodup) (ho : PE X o (tVar i)) (hi : GI X tg iter wi fi) (ok : BlkOk X.N X.env.scope scope own)
    (hg : ∀ (s : Shared) (H : Hp) (C : Addr) (cl : List (Str × Addr)) (fp : List Addr), ∃ g, GG (X.blk s H scope (compEnvC scope cl C X.env) fp) tg g fg ws) (ht : ∀ (s : Shared) (H : Hp) (C : Addr) (cl : List (Str × Addr)) (fp : List Addr), ∃ t, GTs (X.blk s H scope (compEnvC scope cl C X.env) fp) ifs t ft)
    (hk : ∀ (s : Shared) (H : Hp) (C : Addr) (cl : List (Str × Addr)) (fp : List Addr), ∃ te, GE (X.blk s H scope (compEnvC scope cl C X.env) fp) kx te fk) (hv : ∀ (s : Shared) (H : Hp) (C : Addr) (cl : List (Str × Addr)) (fp : List Addr), ∃ te, GE (X.blk s H scope (compEnvC scope cl C X.env) fp) vx te fv) (hw : ∀ i ∈ ws, i ∈ own.map (·.2) := by decide)
    (ha : attributeBase o "update" X.env (eval o X.env) = eval o X.env := by rfl)
    (hp : ((backTo cpos (starEach [.DictComp kx vx [⟨tg, iter, ifs, 0⟩] scope pos] X.env)).all (fun x => !x.1) && (backToKw cpos (keywordEach [] X.env)).all (fun x => x.1.isSome) && decide (([.DictComp kx vx [⟨tg, iter, ifs, 0⟩] scope pos] : List Expr).length + ([] : List Keyword).length + (if ([] : List Keyword).isEmpty = true then 0 else 1) < 30)) = true := by rfl) (hl : (apos.endLine == cpos.line) = true := by rfl)
    (hs : starEach [.DictComp kx vx [⟨tg, iter, ifs, 0⟩] scope pos] X.env = (false, eval (.DictComp kx vx [⟨tg, iter, ifs, 0⟩] scope pos) X.env) :: starEach [] X.env := by rfl) (h5 : (backTo cpos (starEach [] X.env)).any (·.1) = false := by rfl) (hfs : ∀ x, foldedSetIterable iter X.env x = pure x := by intro _; rfl) :
    GE X (.Call (.Attribute o "update" apos) [.DictComp kx vx [⟨tg, iter, ifs, 0⟩] scope pos] [] cpos) (tBM X.K "dict" (rUpdT X) (tVar i) (tCons (tDcT wi (cG X.K fg ws) (cT X.K ft) (cE X.K fk) (cE X.K fv) (own.map (·.2))) tNil)) (sUpdT i fi fg ft fk fv (own.map (·.2))) :=
  ⟨pe_bm PySem.F.plainAttrs_dict PySem.F.slot_dict_update PySem.F.type_dict_update (mt_updT hu) ho (pa_cons (pe_dcT hu hc hN hi.pi ok (fun a b c d e => (hg a b c d e).elim fun _ h => h.canon) (fun a b c d e => (ht a b c d e).elim fun _ h => h.canon) (fun a b c d e => (hk a b c d e).elim fun _ h => h.canon) (fun a b c d e => (hv a b c d e).elim fun _ h => h.canon) hfs) pa_nil hs) ha hp hl hs h5, fun P B0 F B H env σ d env' E hf Q q => by
    unfold sUpdT at hf
    split at hf
    case h_2 => cases hf
    rename_i ks0 hi0
    obtain ⟨⟨xs, e1⟩, h1, h2⟩ := Option.bind_eq_some_iff.mp hf
    dsimp only at h2
    split at h2
    case isFalse => cases h2
    case isTrue hno =>
    obtain ⟨⟨kd, e2⟩, h3, h4⟩ := Option.bind_eq_some_iff.mp h2
    dsimp only at h4
    split at h4
    case isFalse => cases h4
    case isTrue hno2 =>
    split at h4
    case h_2 => cases h4
    rename_i ks hks
    split at h4
    case isFalse => cases h4
    rename_i hz
    cases h4
    obtain ⟨l, ws0, g1, g2, _, _⟩ := E.dt_at hi0
    refine ⟨_, g1, .inr (.inr (.inl ⟨rfl, .inr ⟨_, g2⟩⟩)), ?_⟩
    refine dcAt (hi.gi P B0 F B H env σ xs e1 E h1) gg_cG gt_cT ge_cE ge_cE hw hno h3 hno2 _ fun p us B' H' E' s iu hb hF hn hl => ?_
    obtain ⟨l', ws1, k1, k2, k3, ow⟩ := E'.dt_at hks
    rw [g1] at k1
    cases k1
    have np : l ≠ p := fun z => hn i _ hks (by rw [← z]; exact ow)
    have hne : ws1 = [] → ks = [] := fun e => by
      have := k3.len
      rw [e] at this
      exact List.eq_nil_of_length_eq_zero this.symm
    refine ⟨l, p, ws1, us, rfl, rfl, np, k2, hl, hz.1.imp (fun h e => h (hne e)) (fun h => apartT_ok iu h), ?_, ?_⟩
    · rw [k3.len, iu.len]; exact sz_ok hz.2
    · exact q .non B' _ (E'.mut hks ow rfl ⟨l, _, rfl, upd_same, iu.mergeT k3⟩ fun z => by first | cases z | exact z) s .non⟩
end
end GL
/-! Bodies that may end in an error of the text's own classes. -/
namespace GL
open PySem L2

/-- an error: its class's name, and its one field, if it has one -/
structure ExD where
  cls : Str
  fld : Option (Str × D)
def ExAt (mg : Str → Option Value) (K : PySem.W.Frag) (B H : Hp) (x : ExD) (cls : Value) (d : Option Addr) : Prop :=
  ∃ C, mg x.cls = some (.ref C) ∧ cls = .ref C ∧ ∀ f v, x.fld = some (f, v) → ∃ dd u, d = some dd ∧ H dd = some (.xd [(f, u)]) ∧ Is K B u v
inductive FlX where
  | fl (r : Fl)
  | ex (x : ExD) (e : LEnv)
abbrev SemX := LEnv → Option FlX
def FlXOk (mg : Str → Option Value) (K : PySem.W.Frag) (P : List (Nat × Addr)) (B0 F : Hp) (Z : Ends) (W : WX) : FlX → Prop
  | .fl r => FlOk K P B0 F Z r
  | .ex x e => ∀ cls d σ B H, EnvOk K P B0 F B H e σ → ExAt mg K B H x cls d → W cls d σ H
def GsX (mg : Str → Option Value) (K : PySem.W.Frag) (W : WX) (ts : TS) (f : SemX) : Prop := ∀ (P : List (Nat × Addr)) (B0 F B H : Hp) (env : LEnv) (σ : L2.St) (r : FlX), EnvOk K P B0 F B H env σ → f env = some r →
  ∀ Z : Ends, FlXOk mg K P B0 F Z W r → ts Z σ H
structure GSX (X : Cx) (W : WX) (st : Stmt) (ts : TS) (f : SemX) : Prop where
  ps : PS X st ts
  gs : GsX X.mg X.K W ts f
structure GSsX (X : Cx) (W : WX) (st : List Stmt) (ts : TS) (f : SemX) : Prop where
  ps : PSs X st ts
  gs : GsX X.mg X.K W ts f
def xLift (f : SemS) : SemX := fun env => (f env).map .fl
def xSeq (f g : SemX) : SemX := fun env => (f env).bind fun r => match r with
  | .fl (.nx e) => g e
  | r => some r
def xIf (t : SemB) (f g : SemX) : SemX := fun env => (t env).bind fun p => if p.1 = true then f p.2 else g p.2
section
variable {X : Cx} {W : WX}
theorem GsX.lift {mg : Str → Option Value} {K : PySem.W.Frag} {ts : TS} {f : SemS} (h : Gs K ts f) : GsX mg K W ts (xLift f) := fun P B0 F B H env σ r E hf Z q => by
  obtain ⟨r1, h1, h2⟩ := Option.map_eq_some_iff.mp hf
  subst h2
  exact h P B0 F B H env σ r1 E h1 Z q
theorem gsx_lift {st : Stmt} {ts : TS} {f : SemS} (h : GS X st ts f) : GSX X W st ts (xLift f) := ⟨h.ps, GsX.lift h.gs⟩
theorem gssx_lift {st : List Stmt} {ts : TS} {f : SemS} (h : GSs X st ts f) : GSsX X W st ts (xLift f) := ⟨h.ps, GsX.lift h.gs⟩
theorem gssx_one {st : Stmt} {ts : TS} {f : SemX} (h : GSX X W st ts f) : GSsX X W [st] ts f := ⟨pss_one h.ps, h.gs⟩
theorem gssx_cons {st : Stmt} {rest : List Stmt} {t u : TS} {f g : SemX} (h : GSX X W st t f) (h' : GSsX X W rest u g) : GSsX X W (st :: rest) (tSeq t u) (xSeq f g) := ⟨pss_cons h.ps h'.ps, fun P B0 F B H env σ r E hf Z q => by
  obtain ⟨r1, h1, h2⟩ := Option.bind_eq_some_iff.mp hf
  refine h.gs P B0 F B H env σ r1 E h1 _ ?_
  cases r1 with
  | ex x e => cases h2; exact q
  | fl r1 =>
    cases r1 with
    | nx e => exact fun σ' B' H' E' => h'.gs P B0 F B' H' e σ' r E' h2 Z q
    | rt d e => cases h2; exact q
    | bk e => cases h2; exact q
    | ct e => cases h2; exact q⟩
theorem gsx_if {c : Expr} {a b : List Stmt} {pos : Pos} {t : TT} {u w : TS} {f : SemB} {g k : SemX} (hc : GT X c t f) (ha : GSsX X W a u g) (hb : GSsX X W b w k) : GSX X W (.If c a b pos) (tIfS t u w) (xIf f g k) := ⟨ps_if hc.pt ha.ps hb.ps, fun P B0 F B H env σ r E hf Z q => by
  obtain ⟨⟨x, e1⟩, h1, h2⟩ := Option.bind_eq_some_iff.mp hf
  refine hc.gt P B0 F B H env σ x e1 E h1 _ fun B' H' E' s' => ?_
  cases x with
  | true => exact iteT (ha.gs P B0 F B' H' e1 σ r E' h2 Z q)
  | false => exact iteF (hb.gs P B0 F B' H' e1 σ r E' h2 Z q)⟩
/-! ### raise -/
structure GM (X : Cx) (e : Expr) (t : L2.St → Hp → XK → Prop) (f : LEnv → Option (ExD × LEnv)) : Prop where
  pm : PMk X e t
  gm : ∀ (P : List (Nat × Addr)) (B0 F B H : Hp) (env : LEnv) (σ : L2.St) (x : ExD) (env' : LEnv), EnvOk X.K P B0 F B H env σ → f env = some (x, env') →
    ∀ Q : XK, (∀ cls d B' H', EnvOk X.K P B0 F B' H' env' σ → Same B B' → ExAt X.mg X.K B' H' x cls d → Q cls d H') → t σ H Q
def xRaise (f : LEnv → Option (ExD × LEnv)) : SemX := fun env => (f env).map fun p => .ex p.1 p.2
theorem gsx_raise {e : Expr} {t : L2.St → Hp → XK → Prop} {f : LEnv → Option (ExD × LEnv)} {pos : Pos} (hc : X.calm = true) (tk : Takes X W) (h : GM X e t f) : GSX X W (.Raise (some e) none pos) (fun _ σ H => t σ H fun cls d H' => W cls d σ H') (xRaise f) := ⟨ps_raise hc tk h.pm, fun P B0 F B H env σ r E hf Z q => by
  obtain ⟨⟨x, e1⟩, h1, h2⟩ := Option.map_eq_some_iff.mp hf
  subst h2
  exact h.gm P B0 F B H env σ x e1 E h1 _ fun cls d B' H' E' s xa => q cls d σ B' H' E' xa⟩
def mPlain (c : Str) : LEnv → Option (ExD × LEnv) := fun env => some (⟨c, none⟩, env)
theorem gm_plain {e : Expr} {C : Addr} {c : Str} (h : PMk X e fun _ H Q => Q (.ref C) none H) (hm : X.mg c = some (.ref C)) : GM X e (fun _ H Q => Q (.ref C) none H) (mPlain c) := ⟨h, fun P B0 F B H env σ x env' E hf Q q => by
  cases hf
  exact q _ _ B H E (Same.refl _) ⟨C, hm, rfl, fun f v z => nomatch z⟩⟩
/-- the class's own maker keeps its argument in a field -/
def tMkF (C : Addr) (fl : Str) (ta : TA) : L2.St → Hp → XK → Prop := fun σ H Q => ta σ H fun vs H1 => ∃ v, vs = [v] ∧ ∀ d, H1 d = none → Q (.ref C) (some d) (upd H1 d (.xd [(fl, v)]))
def mField (c fl : Str) (a : Sem) : LEnv → Option (ExD × LEnv) := fun env => (a env).map fun p => (⟨c, some (fl, p.1)⟩, p.2)
theorem gm_field {e a : Expr} {C : Addr} {c fl : Str} {ta : TE} {fa : Sem} (h : PMk X e (tMkF C fl (tCons ta tNil))) (hm : X.mg c = some (.ref C)) (ha : GE X a ta fa) : GM X e (tMkF C fl (tCons ta tNil)) (mField c fl fa) := ⟨h, fun P B0 F B H env σ x env' E hf Q q => by
  obtain ⟨⟨d, e1⟩, h1, h2⟩ := Option.map_eq_some_iff.mp hf
  cases h2
  refine ha.ge P B0 F B H env σ d _ E h1 _ fun v B1 H1 E1 s1 i1 => ⟨v, rfl, fun dd hd => ?_⟩
  exact q _ _ B1 _ (E1.grow (Grow.open E1.bh hd)) s1 ⟨C, hm, rfl, fun f w z => by cases z; exact ⟨dd, v, rfl, upd_same, i1⟩⟩⟩
/-! ### calls that may raise -/
inductive Rs where
  | ok (d : D)
  | er (x : ExD)
def spX (mg : Str → Option Value) (K : PySem.W.Frag) (n : Nat) (fn : List D → Option Rs) : Sp := fun vs H Q E => ∃ B ds r, vs.length = n ∧ Same B H ∧ IsAll K B vs ds ∧ fn ds = some r ∧ match r with
  | .ok d => ∀ v B' H', Grow B H B' H' → Is K B' v d → Q v H'
  | .er x => ∀ cls d B' H', Grow B H B' H' → ExAt mg K B' H' x cls d → E cls d H'
/-- f(..) as a statement -/
def xCall (n : Nat) (fn : List D → Option Rs) (r : SemL) : SemX := fun env => (r env).bind fun q => if q.1.length = n then (fn q.1).map fun z => match z with
  | .ok _ => .fl (.nx q.2)
  | .er x => .ex x q.2
  else none
theorem GsX.call {mg : Str → Option Value} {K : PySem.W.Frag} {n : Nat} {fn : List D → Option Rs} {t : TA} {r : SemL} (h : Ga K t r) : GsX mg K W (tDrop (tCallS (spX mg K n fn) (WE W) t)) (xCall n fn r) := fun P B0 F B H env σ r' E hf Z q => by
  obtain ⟨⟨ds, e1⟩, h1, h2⟩ := Option.bind_eq_some_iff.mp hf
  dsimp only at h2
  split at h2
  case isFalse => cases h2
  rename_i hn
  obtain ⟨z, h3, h4⟩ := Option.map_eq_some_iff.mp h2
  subst h4
  refine h P B0 F B H env σ ds e1 E h1 _ fun vs B1 H1 E1 s1 i1 => ⟨B1, ds, z, by rw [i1.len]; exact hn, E1.bh, i1, h3, ?_⟩
  cases z with
  | ok d => exact fun v B' H' g iv => q σ B' H' (E1.grow g)
  | er x => exact fun cls d B' H' g xa => q cls d σ B' H' (E1.grow g) xa
/-- where only the answer counts -/
def okOf (fn : List D → Option Rs) : List D → Option D := fun ds => (fn ds).bind fun r => match r with
  | .ok d => some d
  | .er _ => none
theorem Ge.callO {mg : Str → Option Value} {K : PySem.W.Frag} {n : Nat} {fn : List D → Option Rs} {E : XK} {t : TA} {r : SemL} (h : Ga K t r) : Ge K (tCall (spX mg K n fn) [] E t) (fCall n (okOf fn) r) := fun P B0 F B H env σ d env' E hf Q q => by
  obtain ⟨⟨ds, e1⟩, h1, h2⟩ := Option.bind_eq_some_iff.mp hf
  dsimp only at h2
  split at h2
  case isFalse => cases h2
  rename_i hn
  obtain ⟨d', h3, h4⟩ := Option.map_eq_some_iff.mp h2
  cases h4
  obtain ⟨z, h5, h6⟩ := Option.bind_eq_some_iff.mp h3
  refine h P B0 F B H env σ ds _ E h1 _ fun vs B1 H1 E1 s1 i1 => ?_
  show spX mg K n fn (vs ++ []) H1 Q _
  rw [List.append_nil]
  refine ⟨B1, ds, z, by rw [i1.len]; exact hn, E1.bh, i1, h5, ?_⟩
  cases z with
  | ok d1 => cases h6; exact fun v B2 H2 g iv => q v B2 H2 (E1.grow g) (s1.trans g.b) iv
  | er x => cases h6
theorem passX {P : Program} {w : World} : Passes (L2.CX P w) X E0 := fun pins σ H s e s' I h => by
  obtain ⟨a, B, H', cls, d, _, _, _, _, _, _, _, z⟩ := h
  exact z.elim
section
variable {k n : Nat} {f : Addr} {fd : FuncData} {ps : List Str} {x : Str} {p pos : Pos} {e : Expr} {es : List Expr} {t : TA} {r : SemL} {fn : List D → Option Rs}
theorem ge_callO (F : FnOk X.prog X.w X.K X.mg X.base (L2.CX X.prog X.w) k f fd ps (spX X.mg X.K n fn)) (hr : Room k X.A) (hm : X.mg x = some (.ref f)) (hk : PySem.W.keepIn X.K (.ref f) = true) (hb : Binds X.K fd ps []) (ha : GA X (e :: es) t r) (hg : Gl X x := by rfl)
    (h1 : (x == Str.ofString "__debug__") = false := by rfl) (h2 : starEach (e :: es) X.env = (false, eval e X.env) :: starEach es X.env := by rfl) (h3 : (backTo pos (starEach es X.env)).any (·.1) = false := by rfl) :
    GE X (.Call (.Name x p) (e :: es) [] pos) (tCall (spX X.mg X.K n fn) [] E0 t) (fCall n (okOf fn) r) := ⟨pe_call F hr hg hm hk hb .nil passX ha.pa h1 h2 h3, Ge.callO ha.ga⟩
theorem gsx_call {pos2 : Pos} (tk : Takes X W) (F : FnOk X.prog X.w X.K X.mg X.base (L2.CX X.prog X.w) k f fd ps (spX X.mg X.K n fn)) (hr : Room k X.A) (hm : X.mg x = some (.ref f)) (hk : PySem.W.keepIn X.K (.ref f) = true) (hb : Binds X.K fd ps []) (ha : GA X (e :: es) t r) (hg : Gl X x := by rfl)
    (h1 : (x == Str.ofString "__debug__") = false := by rfl) (h2 : starEach (e :: es) X.env = (false, eval e X.env) :: starEach es X.env := by rfl) (h3 : (backTo pos (starEach es X.env)).any (·.1) = false := by rfl) (hs : swapsWith (.Call (.Name x p) (e :: es) [] pos) none pos2.line X.env = pure false := by rfl) :
    GSX X W (.Expr (.Call (.Name x p) (e :: es) [] pos) pos2) (tDrop (tCallS (spX X.mg X.K n fn) (WE W) t)) (xCall n fn r) := ⟨ps_expr (pe_callS F hr hg hm hk hb (fun σ => passAt tk σ) ha.pa h1 h2 h3) hs, GsX.call ha.ga⟩
end
end
def runX (m : Nat) (fb : SemX) (ds : List D) : Option Rs := (fb (startE m ds)).bind fun r => match r with
  | .fl (.rt d _) => some (.ok d)
  | .fl (.nx _) => some (.ok .none)
  | .ex x _ => some (.er x)
  | _ => none
section
variable {Pr : Program} {w : World} {K : PySem.W.Frag} {mg : Str → Option Value} {base : Heap} {x qual : Str} {st : Stmt} {f : Addr} {fd : FuncData} {N ps : List Str} {k : Nat} {fb : SemX}
abbrev bodyXX (Pr : Program) (w : World) (K : PySem.W.Frag) (mg : Str → Option Value) (base : Heap) (N : List Str) (qual : Str) (st : Stmt) (f : Addr) (cdv : Value) (A : Around) (outer : List Env) (s : Shared) (H : Hp) (E : XK) : Cx := cxOf (L2.CX Pr w) Pr w K mg base N qual (defScope st) f cdv A outer s H E
theorem fnOk_X (hF : Fun K x qual st f fd) (S : FnScope N ps (defScope st)) (hn : ps.length ≤ N.length)
    (hb : ∀ (cdv : Value) (A : Around) (outer : List Env) (s : Shared) (H : Hp) (E : XK), Room k (A.deeper (PyProof.Rows.envOfC qual (defScope st) s.heap.objs.size f cdv)) → Takes (bodyXX Pr w K mg base N qual st f cdv A outer s H E) (fun cls d _ H => E cls d H) →
      ∃ t, GSsX (bodyXX Pr w K mg base N qual st f cdv A outer s H E) (fun cls d _ H => E cls d H) (defBody st) t fb) :
    FnOk Pr w K mg base (L2.CX Pr w) (k + 1) f fd ps (spX mg K ps.length (runX N.length fb)) := by
  refine Fun.okX hF S (fun vs H Q E ⟨_, _, _, h, _⟩ => h) fun cdv A outer s H vs Q E hr ⟨B, ds, r0, hl, e, ia, hf, q⟩ => ?_
  obtain ⟨t, gt⟩ := hb cdv A outer s H E hr (takes_of rfl rfl rfl rfl)
  refine ⟨t, gt.ps, ?_⟩
  obtain ⟨r, h1, h2⟩ := Option.bind_eq_some_iff.mp hf
  refine gt.gs [] B _ B H _ _ r (EnvOk.start (N := N) e ia (by rw [hl]; exact hn)) h1 _ ?_
  cases r with
  | ex x e1 => cases h2; exact fun cls d σ' B' H' E' xa => q cls d B' H' (E'.toGrow e) xa
  | fl r =>
    cases r with
    | nx e1 => cases h2; exact fun σ' B' H' E' => q _ B' H' (E'.toGrow e) .non
    | rt d1 e1 => cases h2; exact fun v σ' B' H' E' iv => q v B' H' (E'.toGrow e) iv
    | bk e1 => cases h2
    | ct e1 => cases h2
end
end GL
/-! The text's own error classes. -/
namespace GL
open PySem L2

/-- a class over ValueError (perhaps over another own one) without a maker of its own -/
structure ClsP (K : PySem.W.Frag) (mg : Str → Option Value) (c : Str) (C : Addr) : Prop where
  at_ : mg c = some (.ref C)
  q : PySem.W.excIn K C [.type "ValueError", .type "Exception", .type "BaseException", .type "object"] "ValueError.__new__" = true
  k : PySem.W.keepIn K (.ref C) = true
  s : PySem.W.subIn K (.ref C) (.type "BaseException") = some true
  t : PySem.W.typeIn K (.ref C) = some (.type "type")
/-- what __init__(self, x): self.fl = x promises -/
def spIni (K : PySem.W.Frag) (fl : Str) : Sp := fun vs H Q _ => ∃ a C u, vs = [.ref a, u] ∧ H a = some (exo a C none) ∧ OexC K C ∧ PySem.W.findIn K (.ref C) fl = some none ∧ ∀ dx, H dx = none → dx ≠ a → Q .non (upd (upd H dx (exd dx [(fl, u)])) a (exo a C (some dx)))
/-- a class with such a maker -/
structure ClsF (Pr : Program) (w : World) (K : PySem.W.Frag) (mg : Str → Option Value) (base : Heap) (c fl : Str) (C fI : Addr) (fd : FuncData) : Prop where
  at_ : mg c = some (.ref C)
  o : OexC K C
  iC : PySem.W.findIn K (.ref C) "__init__" = some (some (.ref fI))
  tI : PySem.W.typeIn K (.ref fI) = some (.type "function")
  nf : PySem.W.findIn K (.ref C) fl = some none
  ok : ∃ ps, FnOk Pr w K mg base CX0 1 fI fd ps (spIni K fl) ∧ Binds K fd ps []
section
variable {X : Cx}
theorem gm_cls {C : Addr} {c m : Str} {j : Nat} {p p2 pos : Pos} (P : ClsP X.K X.mg c C) (hg : Gl X c := by rfl) (hd : (c == Str.ofString "__debug__") = false := by rfl) : GM X (.Call (.Name c p) [.Constant (.str m) j p2] [] pos) (fun _ H Q => Q (.ref C) none H) (mPlain c) :=
  gm_plain (pmk_own PySem.F.excBase_ValueError P.q P.at_ P.k (raises_own P.s P.t) hg hd) P.at_
theorem gm_clsF {C fI : Addr} {fd : FuncData} {c fl : Str} {a : Expr} {ta : TE} {fa : Sem} {p pos : Pos} (P : ClsF X.prog X.w X.K X.mg X.base c fl C fI fd) (hr : Room 2 X.A) (ha : GE X a ta fa) (hg : Gl X c := by rfl) (hd : (c == Str.ofString "__debug__") = false := by rfl)
    (h2 : starEach [a] X.env = (false, eval a X.env) :: starEach [] X.env := by rfl) (h3 : (backTo pos (starEach [] X.env)).any (·.1) = false := by rfl) :
    GM X (.Call (.Name c p) [a] [] pos) (tMkO C (spIni X.K fl) [] (tCons ta tNil)) (mField c fl fa) := by
  obtain ⟨ps, F, hb⟩ := P.ok
  refine ⟨pmk_oex P.o P.iC P.tI F hr hb .nil pass0 hg P.at_ (pa_cons ha.pe pa_nil h2) hd h2 h3, fun P0 B0 F B H env σ x env' E hf Q q => ?_⟩
  obtain ⟨⟨d, e1⟩, h1, h2⟩ := Option.map_eq_some_iff.mp hf
  cases h2
  refine ha.ge P0 B0 F B H env σ d _ E h1 _ fun v B1 H1 E1 s1 i1 => ⟨Nat.le_add_left 1 999, fun aa haa => ⟨aa, C, v, rfl, upd_same, P.o, P.nf, fun dx hdx ne => ⟨rfl, dx, [(fl, v)], upd_same, by rw [upd_ne ne]; exact upd_same, by rw [upd_ne ne] at hdx; exact hdx, ?_⟩⟩⟩
  have hdx' : H1 dx = none := by rw [upd_ne ne] at hdx; exact hdx
  have e : upd (del (upd (upd (upd H1 aa (exo aa C none)) dx (exd dx [(fl, v)])) aa (exo aa C (some dx))) aa) dx (.xd [(fl, v)]) = upd H1 dx (.xd [(fl, v)]) := by
    funext b
    by_cases hb : b = dx
    · subst hb; rw [upd_same, upd_same]
    · rw [upd_ne hb, upd_ne hb]
      by_cases hb2 : b = aa
      · subst hb2; rw [haa]; unfold del; simp
      · unfold del; rw [if_neg hb2, upd_ne hb2, upd_ne hb, upd_ne hb2]
  rw [e]
  exact q _ _ B1 _ (E1.grow (Grow.open E1.bh hdx')) s1 ⟨C, P.at_, rfl, fun f w z => by cases z; exact ⟨dx, v, rfl, upd_same, i1⟩⟩
/-- def __init__(self, x): self.fl = x -/
theorem fnOk_ini {Pr : Program} {w : World} {K : PySem.W.Frag} {mg : Str → Option Value} {base : Heap} {x qual fl : Str} {st : Stmt} {f : Addr} {fd : FuncData} {a b : Str} {p1 p2 p3 pos : Pos} (hF : Fun K x qual st f fd) (S : FnScope [a, b] [a, b] (defScope st)) (hb : defBody st = [.Assign [.Attribute (.Name a p1) fl p2] (.Name b p3) pos])
    (hp : ∀ (cdv : Value) (A : Around) (outer : List Env) (s : Shared) (H : Hp) (E : XK), PS (bodyX Pr w K mg base [a, b] qual st f cdv A outer s H E) (.Assign [.Attribute (.Name a p1) fl p2] (.Name b p3) pos) (tOst K fl (tVar 0) (tVar 1))) :
    FnOk Pr w K mg base CX0 1 f fd [a, b] (spIni K fl) := by
  refine Fun.ok hF S (fun vs H Q E ⟨_, _, _, h, _⟩ => by rw [h]; rfl) fun cdv A outer s H vs Q E hr ⟨aa, C, u, hv, h1, h2, h3, h4⟩ => ?_
  subst hv
  refine ⟨tOst K fl (tVar 0) (tVar 1), by rw [hb]; exact pss_one (hp cdv A outer s H E), ?_⟩
  exact ⟨u, rfl, _, rfl, aa, C, rfl, h2, h3, .inl ⟨h1, fun dx hd ne => h4 dx hd ne⟩⟩
end
end GL
/-! try .. except C as e. -/
namespace GL
open PySem L2

def cXs (mg : Str → Option Value) (K : PySem.W.Frag) (f : SemX) (W : WX) : TS := fun Z σ H => ∃ P B0 F B env r, EnvOk K P B0 F B H env σ ∧ f env = some r ∧ FlXOk mg K P B0 F Z W r
def cS (K : PySem.W.Frag) (f : SemS) : TS := fun Z σ H => ∃ P B0 F B env r, EnvOk K P B0 F B H env σ ∧ f env = some r ∧ FlOk K P B0 F Z r
section
variable {X : Cx}
theorem GSsX.canon {W : WX} {st : List Stmt} {ts : TS} {f : SemX} (h : GSsX X W st ts f) : PSs X st (cXs X.mg X.K f W) := ⟨fun pns s σ H D I ⟨P, B0, F, B, env, r, E, hf, q⟩ => h.ps.run pns s σ H D I (h.gs P B0 F B H env σ r E hf D q)⟩
theorem GSs.canon {st : List Stmt} {ts : TS} {f : SemS} (h : GSs X st ts f) : PSs X st (cS X.K f) := ⟨fun pns s σ H D I ⟨P, B0, F, B, env, r, E, hf, q⟩ => h.ps.run pns s σ H D I (h.gs P B0 F B H env σ r E hf D q)⟩
/-- behind the suite the name is unset -/
def unset (i : Nat) : Fl → Option Fl
  | .nx e => if noRow e i = true then some (.nx (e.set i .un)) else none
  | .bk e => if noRow e i = true then some (.bk (e.set i .un)) else none
  | .ct e => if noRow e i = true then some (.ct (e.set i .un)) else none
  | .rt d e => some (.rt d e)
def sTryU (c : Str) (i : Nat) (xb : SemX) (sf : SemS) : SemS := fun env => (xb env).bind fun r => match r with
  | .fl r => some r
  | .ex x e => if x.cls = c ∧ noRow e i = true then (sf (e.set i .un)).bind (unset i) else none
def noW : WX := fun _ _ _ _ => False
theorem gs_tryU {C : Addr} {c n : Str} {i : Nat} {body suite : List Stmt} {b0 : Stmt} {np pos pos' : Pos} {xb : SemX} {sf : SemS} (hs : X.stack = X.env :: X.outer) (hfr : X.env.frame = some X.env.locals) (hN : X.N.Nodup) (hm : X.mg c = some (.ref C)) (te : PySem.W.exmOne X.K (.ref C) (.ref C) = some true)
    (hb : ∀ (W : WX) (pn : List (Addr × Obj)) (xe : Value → Shared → Prop), Takes (X.tr pn xe) W → PassesOwn (model X.prog X.w) X.A X.env xe → ∃ ts, GSsX (X.tr pn xe) W body ts xb)
    (hsu : ∀ (a : Addr) (oe : Obj) (cls : Value) (d : Option Addr) (pn : List (Addr × Obj)), Zc cls d oe → (∃ vs, oe.data = .fields vs) → ∃ ts, GSs (X.suite a ((a, oe) :: pn)) (b0 :: suite) ts sf)
    (hi : X.N[i]? = some n := by rfl) (hl : X.env.kindOf n = some .local := by rfl) (hg : Gl X c := by rfl) (hd : (c == Str.ofString "__debug__") = false := by rfl) :
    GS X (.Try body [.ExceptHandler (some (.Name c np)) (some n) (b0 :: suite) pos'] [] [] pos) (fun D σ H => cXs X.mg X.K xb (wAs X.K (.ref C) i (fun _ _ _ => cS X.K sf) noW D) D σ H) (sTryU c i xb sf) :=
  ⟨ps_try_as (tb := cXs X.mg X.K xb) (ts := fun _ _ _ => cS X.K sf) (Wout := noW) hs hfr hN hi hl ⟨hg, hd, .inl hm⟩ takes0 (fun W pn xe tk po => (hb W pn xe tk po).elim fun _ h => h.canon) fun a oe cls d pn hz hv => (hsu a oe cls d pn hz hv).elim fun _ h => h.canon, fun P B0 F B H env σ r E hf Z q => by
    obtain ⟨r1, h1, h2⟩ := Option.bind_eq_some_iff.mp hf
    refine ⟨P, B0, F, B, env, r1, E, h1, ?_⟩
    cases r1 with
    | fl r1 => cases h2; exact q
    | ex x e =>
      dsimp only at h2
      split at h2
      case isFalse => cases h2
      rename_i hz
      obtain ⟨r2, h3, h4⟩ := Option.bind_eq_some_iff.mp h2
      intro cls d σ' B' H' E' ⟨C', m1, m2, _⟩
      rw [hz.1, hm] at m1
      cases m1
      subst m2
      refine ⟨true, te, fun _ a ha => ⟨P, B0, F, B', _, r2, E'.setU (noRow_ne hz.2), h3, ?_⟩, fun z => nomatch z⟩
      cases r2 with
      | nx e2 =>
        dsimp only [unset] at h4
        split at h4
        · rename_i hr; cases h4; exact fun σ2 B2 H2 E2 => q _ B2 H2 (E2.setU (noRow_ne hr))
        · cases h4
      | rt d2 e2 => cases h4; exact q
      | bk e2 =>
        dsimp only [unset] at h4
        split at h4
        · rename_i hr; cases h4; exact fun σ2 B2 H2 E2 => q _ B2 H2 (E2.setU (noRow_ne hr))
        · cases h4
      | ct e2 =>
        dsimp only [unset] at h4
        split at h4
        · rename_i hr; cases h4; exact fun σ2 B2 H2 E2 => q _ B2 H2 (E2.setU (noRow_ne hr))
        · cases h4⟩
/-- except c as e: words.append(e.fl == rhs) -/
def sTryF (c fl : Str) (i j : Nat) (xb : SemX) (fr : Sem) : SemS := fun env => (xb env).bind fun r => match r with
  | .fl r => some r
  | .ex x e => if x.cls = c ∧ noRow e i = true then (match x.fld with
    | some (f', v) => if f' = fl then (match (e.set i .un)[j]? with
      | some (.ol _) => (fr (e.set i .un)).bind fun q => (dEq v q.1).bind fun z => match q.2[j]? with
        | some (.ol ds) => if ds.length < 1000000 ∧ noRow (q.2.set j (.ol (ds ++ [z]))) i = true then some (.nx ((q.2.set j (.ol (ds ++ [z]))).set i .un)) else none
        | _ => none
      | _ => none) else none
    | none => none) else none
theorem xf_lookup {fl : Str} {u : V} : List.lookup fl [(fl, u)] = some u := by simp [List.lookup]
theorem gs_tryF {C : Addr} {c n fl : Str} {i j : Nat} {body : List Stmt} {o en rhs : Expr} {np pos pos' p1 p2 ap cp sp : Pos} {xb : SemX} {fr : Sem} (hu : X.A.units + 100 < cLine) (hs : X.stack = X.env :: X.outer) (hfr : X.env.frame = some X.env.locals) (hN : X.N.Nodup) (hm : X.mg c = some (.ref C)) (te : PySem.W.exmOne X.K (.ref C) (.ref C) = some true)
    (T : XfC X.K C) (hno : PySem.W.findIn X.K (.ref C) fl = some none)
    (hb : ∀ (W : WX) (pn : List (Addr × Obj)) (xe : Value → Shared → Prop), Takes (X.tr pn xe) W → PassesOwn (model X.prog X.w) X.A X.env xe → ∃ ts, GSsX (X.tr pn xe) W body ts xb)
    (ho : ∀ (a : Addr) (pn : List (Addr × Obj)), PE (X.suite a pn) o (tVar j)) (hen : ∀ (a : Addr) (pn : List (Addr × Obj)), PE (X.suite a pn) en (tVar i))
    (hrhs : ∀ (a : Addr) (pn : List (Addr × Obj)), ∃ te, GE (X.suite a pn) rhs te fr)
    (hi : X.N[i]? = some n := by rfl) (hl : X.env.kindOf n = some .local := by rfl) (hg : Gl X c := by rfl) (hd : (c == Str.ofString "__debug__") = false := by rfl) (hmk : behindInMarks .Eq rhs = false := by rfl)
    (hsw : swapsWith (.Call (.Attribute o "append" ap) [.Compare (.Attribute en fl p1) [.Eq] [rhs] p2] [] cp) none sp.line X.env = pure false := by rfl) (h1 : attributeBase en fl X.env (eval en X.env) = eval en X.env := by rfl) (h2 : attributeBase o "append" X.env (eval o X.env) = eval o X.env := by rfl)
    (h3 : ((backTo cp (starEach [.Compare (.Attribute en fl p1) [.Eq] [rhs] p2] X.env)).all (fun x => !x.1) && (backToKw cp (keywordEach [] X.env)).all (fun x => x.1.isSome) && decide (([.Compare (.Attribute en fl p1) [.Eq] [rhs] p2] : List Expr).length + ([] : List Keyword).length + (if ([] : List Keyword).isEmpty = true then 0 else 1) < 30)) = true := by rfl) (h4 : (ap.endLine == cp.line) = true := by rfl)
    (h5 : starEach [.Compare (.Attribute en fl p1) [.Eq] [rhs] p2] X.env = (false, eval (.Compare (.Attribute en fl p1) [.Eq] [rhs] p2) X.env) :: starEach [] X.env := by rfl) (h6 : (backTo cp (starEach [] X.env)).any (·.1) = false := by rfl) :
    GS X (.Try body [.ExceptHandler (some (.Name c np)) (some n) [.Expr (.Call (.Attribute o "append" ap) [.Compare (.Attribute en fl p1) [.Eq] [rhs] p2] [] cp) sp] pos'] [] [] pos)
      (fun D σ H => cXs X.mg X.K xb (wAs X.K (.ref C) i (fun a cls d => tDrop (tBM X.K "list" rAppend (tVar j) (tCons (tOp (rEqP X.K) (tXf a cls d C fl (tVar i)) (cE X.K fr)) tNil))) noW D) D σ H) (sTryF c fl i j xb fr) :=
  ⟨ps_try_as (tb := cXs X.mg X.K xb) (ts := fun a cls d => tDrop (tBM X.K "list" rAppend (tVar j) (tCons (tOp (rEqP X.K) (tXf a cls d C fl (tVar i)) (cE X.K fr)) tNil))) (Wout := noW) hs hfr hN hi hl ⟨hg, hd, .inl hm⟩ takes0 (fun W pn xe tk po => (hb W pn xe tk po).elim fun _ h => h.canon)
      fun a oe cls d pn hz hv => pss_one (ps_expr (pe_bm PySem.F.plainAttrs_list PySem.F.slot_list_append PySem.F.type_list_append mt_append (ho a _) (pa_cons (pe_cmpR (op_eqP (X := X.suite a ((a, oe) :: pn)) hu) (pe_xf T hno hz hv (hen a _) h1) ((hrhs a ((a, oe) :: pn)).elim fun _ h => h.canon) hmk) pa_nil h5) h2 h3 h4 h5 h6) hsw), fun P B0 F B H env σ r E hf Z q => by
    obtain ⟨r1, g1, g2⟩ := Option.bind_eq_some_iff.mp hf
    refine ⟨P, B0, F, B, env, r1, E, g1, ?_⟩
    cases r1 with
    | fl r1 => cases g2; exact q
    | ex x e =>
      dsimp only at g2
      split at g2
      case isFalse => cases g2
      rename_i hz
      split at g2
      case h_2 => cases g2
      rename_i f' v hx
      split at g2
      case isFalse => cases g2
      rename_i hff
      subst hff
      split at g2
      case h_2 => cases g2
      rename_i ds0 hj0
      obtain ⟨⟨y, e2⟩, g3, g4⟩ := Option.bind_eq_some_iff.mp g2
      obtain ⟨z, g5, g6⟩ := Option.bind_eq_some_iff.mp g4
      dsimp only at g6
      split at g6
      case h_2 => cases g6
      rename_i ds hj
      split at g6
      case isFalse => cases g6
      rename_i hz2
      cases g6
      intro cls d σ' B' H' E' ⟨C', m1, m2, m3⟩
      rw [hz.1, hm] at m1
      cases m1
      subst m2
      obtain ⟨dd, u, rfl, k2, k3⟩ := m3 _ _ hx
      refine ⟨true, te, fun _ a ha => ?_, fun z => nomatch z⟩
      have E1 : EnvOk X.K P B0 F B' H' (e.set i .un) (σ'.set i (some (.ref a))) := E'.setU (noRow_ne hz.2)
      obtain ⟨l, vs0, j1, j2, _, _⟩ := E1.ol_at hj0
      have hil : i < σ'.length := by
        have hn := hz.2
        unfold noRow at hn
        cases q1 : e[i]? with
        | none => rw [q1] at hn; cases hn
        | some s => rw [← E'.len]; exact (List.getElem?_eq_some_iff.mp q1).1
      refine ⟨_, j1, .inl ⟨rfl, vs0, SqL.of j2⟩, ?_⟩
      refine ⟨_, List.getElem?_set_self hil, rfl, rfl, dd, _, u, rfl, k2, xf_lookup, ?_⟩
      refine ge_cE P B0 F B' H' _ _ y e2 E1 g3 _ fun u2 B2 H2 E2 s2 i2 => ?_
      refine (og_eq (X := X) hu).sem B2 H2 u u2 v y z E2.bh (.fz (k3.up s2)) (.fz i2) g5 _ fun w B3 H3 gr iw => ?_
      have E3 := E2.grow gr
      obtain ⟨l', vs, j3, j4, j5, ow⟩ := E3.ol_at hj
      rw [j1] at j3
      cases j3
      refine ⟨l, vs, w, rfl, rfl, j4, by rw [j5.len]; exact Nat.lt_of_lt_of_le hz2.1 (sz_ok (Nat.le_refl _)), ?_⟩
      exact q _ B3 _ ((E3.mut (t := .ol (ds ++ [z])) (o := .lst (vs ++ [w])) hj ow rfl ⟨l, _, rfl, upd_same, j5.snoc iw⟩ fun z => by first | cases z | exact z).setU (noRow_ne hz2.2))⟩
end
end GL
/-! list(range(n)); the law's own frame. -/
namespace GL
open PySem L2

def fListR (f : SemL) : Sem := fun env => (f env).map fun p => (.list p.1, p.2)
theorem range_is {K : PySem.W.Frag} {B : Hp} (lo hi : Int) : IsAll K B (rgV lo hi) (rangeD lo (hi - lo).toNat) := by
  unfold rgV rangeD
  generalize List.range (hi - lo).toNat = l
  induction l with
  | nil => exact .nil
  | cons i r ih => exact .cons (.int _) ih
theorem ge_listR1 {X : Cx} {a : Expr} {ta : TE} {fa : Sem} {p p2 pos pos2 : Pos} (hc : X.calm = true) (hm : X.mg "list" = none) (hm2 : X.mg "range" = none) (ha : GE X a ta fa) (hg : Gl X "list" := by rfl) (hg2 : Gl X "range" := by rfl)
    (hs : starEach [.Call (.Name "range" p2) [a] [] pos2] X.env = (false, eval (.Call (.Name "range" p2) [a] [] pos2) X.env) :: starEach [] X.env := by rfl) (hs2 : starEach [a] X.env = (false, eval a X.env) :: starEach [] X.env := by rfl) :
    GE X (.Call (.Name "list" p) [.Call (.Name "range" p2) [a] [] pos2] [] pos) (tLstRg (tRg1 ta)) (fListR (fRange1 fa)) := ⟨pe_listRg hc hg hm (prg_1 hg2 hm2 ha.pe hs2) hs, fun P B0 F B H env σ d env' E hf Q q => by
  obtain ⟨⟨ds, e0⟩, h1, h2⟩ := Option.map_eq_some_iff.mp hf
  cases h2
  obtain ⟨⟨x, e1⟩, h3, h4⟩ := Option.bind_eq_some_iff.mp h1
  cases x with
  | int n =>
    dsimp only at h4
    split at h4
    case isFalse => cases h4
    rename_i hz
    cases h4
    refine ha.ge P B0 F B H env σ _ _ E h3 _ fun v B1 H1 E1 s1 i1 => ⟨n, i1.int', ⟨by decide, by decide, by omega, by omega, by omega⟩, fun p hp => ?_⟩
    have g := Grow.new (o := .lst (rgV 0 n)) E1.bh hp
    refine q _ _ _ (E1.grow g) (s1.trans g.b) (.lst upd_same ?_)
    have := range_is (K := X.K) (B := upd B1 p (.lst (rgV 0 n))) 0 n
    rw [Int.sub_zero] at this
    exact this
  | _ => cases h4⟩
/-! ### the law -/
/-- the law gives True for the script -/
def spLaw (K : PySem.W.Frag) : Sp := fun vs H Q _ => ∃ (a : Addr) (ns : List Int), vs = [.ref a] ∧ SqL K H a (ns.map V.int) ∧ ns.length ≤ 63 ∧ ∀ H', Q (.bl true) H'
/-- script at 0, row at 1, then the others -/
def lawE (m : Nat) (ns : List Int) : LEnv := .un :: .row ⟨ns, 0, 7801, 0⟩ :: List.replicate m .un
theorem lawE_get {m : Nat} {ns : List Int} {i : Nat} {s : Slot} (h : (lawE m ns)[i]? = some s) : s = .un ∨ i = 1 ∧ s = .row ⟨ns, 0, 7801, 0⟩ := by
  match i, h with
  | 0, h => cases h; exact .inl rfl
  | 1, h => cases h; exact .inr ⟨rfl, rfl⟩
  | i + 2, h =>
    have h' : (List.replicate m Slot.un)[i]? = some s := h
    rw [List.getElem?_replicate] at h'
    split at h'
    · cases h'; exact .inl rfl
    · cases h'
theorem fnOk_law {Pr : Program} {w : World} {K : PySem.W.Frag} {mg : Str → Option Value} {base : Heap} {x qual : Str} {st : Stmt} {f : Addr} {fd : FuncData} {N : List Str} {a b : Str} {k m : Nat} {fb : SemS} {rest : List Stmt}
    (hF : Fun K x qual st f fd) (S : FnScope (a :: b :: N) [a] (defScope st)) (hm : N.length = m)
    (hp : ∀ (cdv : Value) (A : Around) (outer : List Env) (s : Shared) (H : Hp) (E : XK), ∃ st0, defBody st = st0 :: rest ∧ PS (bodyX Pr w K mg base (a :: b :: N) qual st f cdv A outer s H E) st0 (tAsg (tLst (tCons (tVar 0) (tCons (tC (.int 0)) (tCons (tC (.int 7801)) (tCons (tC (.int 0)) tNil))))) (gName 1)))
    (hb : ∀ (cdv : Value) (A : Around) (outer : List Env) (s : Shared) (H : Hp) (E : XK), Room k (A.deeper (PyProof.Rows.envOfC qual (defScope st) s.heap.objs.size f cdv)) → ∃ t, GSs (bodyX Pr w K mg base (a :: b :: N) qual st f cdv A outer s H E) rest t fb)
    (hv : ∀ ns : List Int, ns.length ≤ 63 → ∃ e, fb (lawE m ns) = some (.rt (.bool true) e)) :
    FnOk Pr w K mg base CX0 (k + 1) f fd [a] (spLaw K) := by
  refine Fun.ok hF S (fun vs H Q E ⟨_, _, h, _⟩ => by rw [h]; rfl) fun cdv A outer s H vs Q E hr ⟨ad, ns, hvs, hs, hn, q⟩ => ?_
  subst hvs
  obtain ⟨t, gt⟩ := hb cdv A outer s H E hr
  obtain ⟨st0, eb, p0⟩ := hp cdv A outer s H E
  refine ⟨_, by rw [eb]; exact pss_cons p0 gt.ps, ?_⟩
  obtain ⟨e, he⟩ := hv ns hn
  have h0 : (L2.start (a :: b :: N) [V.ref ad])[0]? = some (some (.ref ad)) := rfl
  refine ⟨_, h0, by show 4 ≤ sizeLine; rw [sizeLine_eq]; decide, fun l hl => ?_⟩
  have sB : Same (fun c => if c = l then none else H c) H := fun c o h => by
    dsimp only at h
    split at h
    · cases h
    · exact h
  have hsl : SqL K H ad (ns.map V.int) := hs
  have bh : Same H (upd H l (.lst [.ref ad, .int 0, .int 7801, .int 0])) := fun c o h => by rw [upd_ne (ne_of_none h hl)]; exact h
  have E0 : EnvOk K [] H (fun _ => none) H (upd H l (.lst [.ref ad, .int 0, .int 7801, .int 0])) (lawE m ns) ((L2.start (a :: b :: N) [V.ref ad]).set 1 (some (.ref l))) := {
    b0 := Same.refl _
    bh := bh
    fr := fun c o h => nomatch h
    len := by
      rw [List.length_set, start_len (by simp)]
      unfold lawE
      simp [hm]
    at_ := fun i s h => by
      rcases lawE_get h with rfl | ⟨rfl, rfl⟩
      · trivial
      · exact ⟨l, ad, by rw [List.getElem?_set_self (by rw [start_len (by simp)]; simp)], upd_same, hsl⟩
    own := fun i s c h o => by
      rcases lawE_get h with rfl | ⟨rfl, rfl⟩
      · cases o.1
      · have q := o.2
        rw [List.getElem?_set_self (by rw [start_len (by simp)]; simp)] at q
        cases q
        exact ⟨hl, rfl⟩
    sep := fun i j s t c n h1 h2 o1 o2 => by
      rcases lawE_get h1 with rfl | ⟨rfl, rfl⟩
      · cases o1.1
      · rcases lawE_get h2 with rfl | ⟨rfl, rfl⟩
        · cases o2.1
        · exact n rfl
    pin := fun p hp => by cases hp }
  exact gt.gs [] H _ H _ _ _ _ E0 he _ fun v σ' B' H' E' iv => by
    cases iv
    exact q H'
end GL
/-! t.count(x), t.index(x) of a tuple of data. -/
namespace GL
open PySem L2

def dCount : D → D → Option D
  | .tuple ds, d => if okD (.tuple ds) = true ∧ okD d = true then some (.int ((ds.countP fun y => PyData.eqv y d : Nat) : Int)) else none
  | _, _ => none
/-- where the datum first stands -/
def dIndex : D → D → Option D
  | .tuple ds, d => if okD (.tuple ds) = true ∧ okD d = true then (ds.findIdx? fun y => PyData.eqv y d).map (fun j : Nat => (.int ((j : Nat) : Int) : D)) else none
  | _, _ => none
def rTCount (K : PySem.W.Frag) : V → List V → Hp → VK → Prop := fun x xs H Q => ∃ (a : Addr) (y : V) (d : D) (ds : List D), x = .ref a ∧ xs = [y] ∧ Dp K H (.ref a) (.tuple ds) ∧ Dp K H y d ∧ okD (.tuple ds) = true ∧ okD d = true ∧ Q (.int ((ds.countP fun y => PyData.eqv y d : Nat) : Int)) H
section
variable {X : Cx}
theorem mt_tcount (hu : X.A.units + 100 < cLine) : MtR X "tuple.count" (rTCount X.K) := fun pns s sg H x xs v us Q I rx rxs hh => by
  obtain ⟨a, y, d, ds, rfl, rfl, ht, hy, o1, o2, q⟩ := hh
  cases rx
  cases rxs with
  | cons ry rt =>
    cases rt
    obtain ⟨bs, r1⟩ := Dp.reads I d y _ hy ry
    cases ht with
    | tup hs ha =>
      obtain ⟨its, rv, tp, _⟩ := I.tuple hs
      obtain ⟨as, r2⟩ := Dp.readsAll I ds _ its ha rv
      have dd := ok_deep o2
      have p1 : PyData.plainAll ds = true := by simpa [PyData.plain] using ok_plain o1
      obtain ⟨ob, g1, g2, ⟨m, g3⟩⟩ : ∃ ob, s.heap.get? a = some ob ∧ ob.cls = .type "tuple" ∧ ∃ m, ob.data = .seq its.toArray m := by
        obtain ⟨ob, g1, g2, g3⟩ := tp
        exact ⟨ob, g1, g2, g3⟩
      refine SeqAt.count_tuple_data (vs := its.toArray) ⟨ob, g1, g2, ⟨m, g3⟩⟩ (show ReadsAll s.heap its.toArray.toList ds as from r2) r1 p1 (ok_plain o2) (by omega) ?_
      exact ⟨.int _, H, I.tok _, ⟨_, rfl⟩, q⟩
/-- is the datum x -/
def hitsD (ds : List D) (d : D) : List Bool := ds.map fun y => PyData.eqv y d
def rTIndex (K : PySem.W.Frag) : V → List V → Hp → VK → Prop := fun x xs H Q => ∃ (a : Addr) (y : V) (d : D) (ds : List D), x = .ref a ∧ xs = [y] ∧ Dp K H (.ref a) (.tuple ds) ∧ Dp K H y d ∧ okD (.tuple ds) = true ∧ okD d = true ∧ true ∈ hitsD ds d ∧ Q (.int (((hitsD ds d).idxOf true : Nat) : Int)) H
theorem mt_tindex (hu : X.A.units + 100 < cLine) : MtR X "tuple.index" (rTIndex X.K) := fun pns s sg H x xs v us Q I rx rxs hh => by
  obtain ⟨a, y, d, ds, rfl, rfl, ht, hy, o1, o2, hm, q⟩ := hh
  cases rx
  cases rxs with
  | cons ry rt =>
    cases rt
    obtain ⟨bs, r1⟩ := Dp.reads I d y _ hy ry
    cases ht with
    | tup hs ha =>
      obtain ⟨its, rv, ⟨ob, g1, g2, m, g3⟩, _⟩ := I.tuple hs
      obtain ⟨as, r2⟩ := Dp.readsAll I ds _ its ha rv
      have dd := ok_deep o2
      have p1 : PyData.plainAll ds = true := by simpa [PyData.plain] using ok_plain o1
      have e1 : its.map (SeqAt.readOf s.heap) = ds := by
        have z := SeqAt.readsAll_map_plain ds its as p1 r2
        exact z
      have eq : ∀ u, u ∈ its.toArray → PySem.SeqAt.EqAt X.A.in1 s u _ (PyData.eqv (SeqAt.readOf s.heap u) d) := SeqAt.items_plain (A := X.A) (vs := its.toArray) (show ReadsAll s.heap its.toArray.toList ds as from r2) r1 p1 (ok_plain o2) (by omega)
      have ln : its.length = ds.length := by rw [← e1, List.length_map]
      refine PySem.SeqAt.call_tuple_index (vs := its) (ks := hitsD ds d) (k := true) ⟨ob, g1, g2, m, g3⟩ ⟨by unfold hitsD; rw [List.length_map]; exact ln, fun j h1 h2 => ?_⟩ hm ?_
      · have e2 : decide ((hitsD ds d)[j] = true) = PyData.eqv (SeqAt.readOf s.heap its[j]) d := by
          have e3 : SeqAt.readOf s.heap its[j] = ds[j]'(by omega) := by
            have : (its.map (SeqAt.readOf s.heap))[j]? = ds[j]? := by rw [e1]
            rw [List.getElem?_map, List.getElem?_eq_getElem h1, List.getElem?_eq_getElem (by omega)] at this
            exact Option.some.inj this
          rw [e3]
          have e4 : (hitsD ds d)[j] = PyData.eqv (ds[j]'(by omega)) d := by
            have : (hitsD ds d)[j]? = some (PyData.eqv (ds[j]'(by omega)) d) := by
              unfold hitsD
              rw [List.getElem?_map, List.getElem?_eq_getElem (by omega)]
              rfl
            rw [List.getElem?_eq_getElem h2] at this
            exact Option.some.inj this
          rw [e4]
          cases PyData.eqv (ds[j]'(by omega)) d <;> rfl
        rw [e2]
        exact eq its[j] (by simp)
      · exact ⟨.int _, H, I.tok _, ⟨_, rfl⟩, q⟩
end
end GL
/-! t.count(x), t.index(x): the calls. -/
namespace GL
open PySem L2

def dCountN : D → D → Option D
  | .tuple ds, d => if hasNd ds = true then dCount (.tuple ds) d else none
  | _, _ => none
def dIndexN : D → D → Option D
  | .tuple ds, d => if hasNd ds = true then dIndex (.tuple ds) d else none
  | _, _ => none
def tTM (r : V → List V → Hp → VK → Prop) (to : TE) (t : TA) : TE := fun σ H Q => to σ H fun x H1 => (∃ p ob xs, x = .ref p ∧ TupObj ob ∧ H1 p = some (.frz ob (.tup xs))) ∧ t σ H1 fun xs H2 => r x xs H2 Q
section
variable {X : Cx}
theorem pe_tm {o e : Expr} {es : List Expr} {to : TE} {t : TA} {name : Str} {apos cpos : Pos} {id : String} {r : V → List V → Hp → VK → Prop} (pa : PlainAttrs "tuple") (slot : PySem.Slot "tuple" name id) (hty : typeOf (.builtin id) = pure (.type "method_descriptor")) (hm : MtR X id r) (ho : PE X o to) (ha : PA X (e :: es) t)
    (hbase : attributeBase o name X.env (eval o X.env) = eval o X.env := by rfl)
    (hfew : ((backTo cpos (starEach (e :: es) X.env)).all (fun x => !x.1) && (backToKw cpos (keywordEach [] X.env)).all (fun x => x.1.isSome)
      && decide ((e :: es).length + ([] : List Keyword).length + (if ([] : List Keyword).isEmpty then 0 else 1) < 30)) = true := by rfl)
    (hline : (apos.endLine == cpos.line) = true := by rfl) (hs : starEach (e :: es) X.env = (false, eval e X.env) :: starEach es X.env := by rfl) (hplain : (backTo cpos (starEach es X.env)).any (·.1) = false := by rfl) :
    PE X (.Call (.Attribute o name apos) (e :: es) [] cpos) (tTM r to t) := by
  refine ⟨fun pins s σ H Q I h => ?_⟩
  refine wpAny_Call_method_late hbase hfew hline rfl (thn (ho.run pins s σ H _ I h) fun v s1 ⟨x, H1, I1, r1, ⟨p, ob, xs, ex, hob, hp⟩, q1⟩ => ?_)
  subst ex
  cases r1
  have hg : s1.heap.get? p = some ob := (I1.hok p _ hp).1
  refine ⟨"tuple", id, pa, slot, hty, ⟨ob, hg, hob.cls⟩, fun a e => by cases e; exact ⟨ob, hg, hob.dict⟩, ?_⟩
  have hA := ha.run cpos pins s1 σ H1 _ I1 q1
  rw [hs] at hA ⊢
  refine Calls.callWith_builtin (by show (false || (backTo cpos (starEach es X.env)).any (·.1)) = false; rw [hplain] <;> rfl) (Calls.evalArgs_plain ?_)
  exact thn hA fun us s2 ⟨vs, H2, I2, r2, q2⟩ => hm pins s2 σ H2 (.ref p) vs _ us Q I2 rfl r2 q2
theorem Is.non_at {K : PySem.W.Frag} {B : Hp} {v : V} {ds : List D} (h : Is K B v (.tuple ds)) (n : hasNd ds = true) : ∃ p ob xs, v = .ref p ∧ TupObj ob ∧ B p = some (.frz ob (.tup xs)) := by
  cases h with
  | tup ha hl =>
    obtain ⟨o, h1, h2⟩ := ha
    rw [mkTup_yes (by rw [hl.hasN]; exact n)] at h2
    exact ⟨_, o, _, rfl, h1, h2⟩
theorem Gt_tm {K : PySem.W.Frag} {r : V → List V → Hp → VK → Prop} {g : D → D → Option D} {ta tb : TE} {fa fb : Sem} (hn : ∀ x y z, g x y = some z → ∃ ds, x = .tuple ds ∧ hasNd ds = true)
    (h : ∀ (B H : Hp) (v u : V) (x y z : D), Same B H → Is K B v x → Is K B u y → g x y = some z → ∀ Q : VK, (∀ w, Is K B w z → Q w H) → r v [u] H Q) (ha : Ge K ta fa) (hb : Ge K tb fb) : Ge K (tTM r ta (tCons tb tNil)) (fOp2 g fa fb) := fun P B0 F B H env σ d env' E hf Q q => by
  unfold fOp2 at hf
  obtain ⟨⟨x, e1⟩, h1, h2⟩ := Option.bind_eq_some_iff.mp hf
  obtain ⟨⟨y, e2⟩, h3, h4⟩ := Option.bind_eq_some_iff.mp h2
  obtain ⟨z, h5, h6⟩ := Option.map_eq_some_iff.mp h4
  cases h6
  refine ha P B0 F B H env σ x e1 E h1 _ fun v B1 H1 E1 s1 i1 => ?_
  obtain ⟨ds, rfl, nn⟩ := hn _ _ _ h5
  obtain ⟨p, ob, xs, rfl, t1, t2⟩ := i1.non_at nn
  refine ⟨⟨p, ob, xs, rfl, t1, E1.bh _ _ t2⟩, ?_⟩
  refine hb P B0 F B1 H1 e1 σ y e2 E1 h3 _ fun u B2 H2 E2 s2 i2 => ?_
  exact h B2 H2 _ u _ y _ E2.bh (i1.up s2) i2 h5 _ fun w iw => q w B2 H2 E2 (s1.trans s2) iw
theorem hits_mem {ds : List D} {d : D} {j : Nat} (h : (ds.findIdx? fun y => PyData.eqv y d) = some j) : true ∈ hitsD ds d ∧ (hitsD ds d).idxOf true = j := by
  rw [List.findIdx?_eq_some_iff_getElem] at h
  obtain ⟨h1, h2, h3⟩ := h
  have hl : (hitsD ds d).length = ds.length := by unfold hitsD; rw [List.length_map]
  have hj : (hitsD ds d)[j]'(by rw [hl]; exact h1) = true := by unfold hitsD; rw [List.getElem_map]; exact h2
  refine ⟨hj ▸ List.getElem_mem _, ?_⟩
  rw [List.idxOf, List.findIdx_eq (by rw [hl]; exact h1)]
  refine ⟨by rw [hj]; rfl, fun i hi => ?_⟩
  have hi2 : (hitsD ds d)[i]'(by rw [hl]; omega) = PyData.eqv (ds[i]'(by omega)) d := by unfold hitsD; rw [List.getElem_map]
  rw [hi2]
  have := h3 i hi
  cases q : PyData.eqv (ds[i]'(by omega)) d with
  | true => exact absurd q this
  | false => rfl
section
variable {o e : Expr} {ta tb : TE} {fa fb : Sem} {apos cpos : Pos}
theorem ge_tcount (hu : X.A.units + 100 < cLine) (ha : GE X o ta fa) (hb : GE X e tb fb) (hbase : attributeBase o "count" X.env (eval o X.env) = eval o X.env := by rfl)
    (hfew : ((backTo cpos (starEach [e] X.env)).all (fun x => !x.1) && (backToKw cpos (keywordEach [] X.env)).all (fun x => x.1.isSome) && decide (([e] : List Expr).length + ([] : List Keyword).length + (if ([] : List Keyword).isEmpty then 0 else 1) < 30)) = true := by rfl)
    (hline : (apos.endLine == cpos.line) = true := by rfl) (hs : starEach [e] X.env = (false, eval e X.env) :: starEach [] X.env := by rfl) (hplain : (backTo cpos (starEach [] X.env)).any (·.1) = false := by rfl) :
    GE X (.Call (.Attribute o "count" apos) [e] [] cpos) (tTM (rTCount X.K) ta (tCons tb tNil)) (fOp2 dCountN fa fb) :=
  ⟨pe_tm PySem.F.plainAttrs_tuple PySem.F.slot_tuple_count PySem.F.type_tuple_count (mt_tcount hu) ha.pe (pa_cons hb.pe pa_nil hs) hbase hfew hline hs hplain, Gt_tm (fun x y z h => by
    cases x with
    | tuple ds =>
      dsimp only [dCountN] at h
      split at h
      · rename_i n; exact ⟨ds, rfl, n⟩
      · cases h
    | _ => cases h) (fun B H v u x y z e hv hu h Q q => by
    cases x with
    | tuple ds =>
      dsimp only [dCountN] at h
      split at h
      case isFalse => cases h
      dsimp only [dCount] at h
      split at h
      case isFalse => cases h
      rename_i ok
      cases h
      have hv' := hv
      cases hv with
      | tup ta tl => exact ⟨_, u, y, ds, rfl, rfl, hv'.dp e (ok_plain ok.1), hu.dp e (ok_plain ok.2), ok.1, ok.2, q _ (.int _)⟩
    | _ => cases h) ha.ge hb.ge⟩
theorem ge_tindex (hu : X.A.units + 100 < cLine) (ha : GE X o ta fa) (hb : GE X e tb fb) (hbase : attributeBase o "index" X.env (eval o X.env) = eval o X.env := by rfl)
    (hfew : ((backTo cpos (starEach [e] X.env)).all (fun x => !x.1) && (backToKw cpos (keywordEach [] X.env)).all (fun x => x.1.isSome) && decide (([e] : List Expr).length + ([] : List Keyword).length + (if ([] : List Keyword).isEmpty then 0 else 1) < 30)) = true := by rfl)
    (hline : (apos.endLine == cpos.line) = true := by rfl) (hs : starEach [e] X.env = (false, eval e X.env) :: starEach [] X.env := by rfl) (hplain : (backTo cpos (starEach [] X.env)).any (·.1) = false := by rfl) :
    GE X (.Call (.Attribute o "index" apos) [e] [] cpos) (tTM (rTIndex X.K) ta (tCons tb tNil)) (fOp2 dIndexN fa fb) :=
  ⟨pe_tm PySem.F.plainAttrs_tuple PySem.F.slot_tuple_index PySem.F.type_tuple_index (mt_tindex hu) ha.pe (pa_cons hb.pe pa_nil hs) hbase hfew hline hs hplain, Gt_tm (fun x y z h => by
    cases x with
    | tuple ds =>
      dsimp only [dIndexN] at h
      split at h
      · rename_i n; exact ⟨ds, rfl, n⟩
      · cases h
    | _ => cases h) (fun B H v u x y z e hv hu h Q q => by
    cases x with
    | tuple ds =>
      dsimp only [dIndexN] at h
      split at h
      case isFalse => cases h
      dsimp only [dIndex] at h
      split at h
      case isFalse => cases h
      rename_i ok
      obtain ⟨j, hj, rfl⟩ := Option.map_eq_some_iff.mp h
      obtain ⟨m1, m2⟩ := hits_mem hj
      have hv' := hv
      cases hv with
      | tup ta tl => exact ⟨_, u, y, ds, rfl, rfl, hv'.dp e (ok_plain ok.1), hu.dp e (ok_plain ok.2), ok.1, ok.2, m1, by rw [m2]; exact q _ (.int _)⟩
    | _ => cases h) ha.ge hb.ge⟩
end
end
end GL
/-! Dicts with nested keys: in, d[k], d[k] = v, {k: v}, len, list. -/
namespace GL
open PySem L2 PyProof.Rows

/-! ### the library's side -/
def rNIn (K : PySem.W.Frag) (neg : Bool) : R2 := fun x y H Q => ∃ l ws k b, x = .ref b ∧ y = .ref l ∧ H l = some (dnO l ws) ∧ KeysN K H ws ∧ okK k = true ∧ Dp K H (.ref b) k.data ∧ Q (.bl (if neg then !(lookN ws k).isSome else (lookN ws k).isSome)) H
def rNIx (K : PySem.W.Frag) : R2 := fun x y H Q => ∃ l ws k b v, x = .ref l ∧ y = .ref b ∧ H l = some (dnO l ws) ∧ KeysN K H ws ∧ okK k = true ∧ Dp K H (.ref b) k.data ∧ lookN ws k = some v ∧ Q v H
section
variable {X : Cx} {pins : List (Addr × Obj)} {σ : L2.St} {H : Hp} {s : Shared}
theorem nroom {P : Program} {w : World} {A : Around} (hu : A.units + 100 < cLine) : (nestedKind P w).room A.in1 := by
  show A.in1.units + 8 < cLine
  have : A.in1.units ≤ A.units + 1 := by first | exact Nat.le_refl _ | simp [Around.in1, Around.units] | (show _ ≤ _; omega)
  omega
theorem op_nIn (hu : X.A.units + 100 < cLine) : OpR X (compareOp .In) (rNIn X.K false) := by
  intro pns st sg H x y v u Q I rx ry h
  obtain ⟨l, ws, k, b, rfl, rfl, hl, hk, ok, dk, q⟩ := h
  cases rx
  cases ry
  obtain ⟨z, lo, _, xs, rel, dd⟩ := dn_of I hl hk
  refine wpAny_in_heap (nroom hu) (keyN_is I ok dk) lo dd ?_
  have e := (NRel.look rel k).isSome_eq
  rw [Option.isSome_map] at e
  rw [← e]
  exact ⟨.bl _, H, I.tok _, rfl, q⟩
theorem op_nNotIn (hu : X.A.units + 100 < cLine) : OpR X (compareOp .NotIn) (rNIn X.K true) := by
  intro pns st sg H x y v u Q I rx ry h
  obtain ⟨l, ws, k, b, rfl, rfl, hl, hk, ok, dk, q⟩ := h
  cases rx
  cases ry
  obtain ⟨z, lo, _, xs, rel, dd⟩ := dn_of I hl hk
  refine wpAny_notIn_heap (nroom hu) (keyN_is I ok dk) lo dd ?_
  have e := (NRel.look rel k).isSome_eq
  rw [Option.isSome_map] at e
  rw [← e]
  exact ⟨.bl _, H, I.tok _, rfl, q⟩
theorem ix_n (hu : X.A.units + 100 < cLine) : IxR X (rNIx X.K) := by
  intro value slice pns st sg H x y v u Q I rx ry h hs
  obtain ⟨l, ws, k, b, w, rfl, rfl, hl, hk, ok, dk, hw, q⟩ := h
  cases rx
  cases ry
  obtain ⟨z, lo, _, xs, rel, dd⟩ := dn_of I hl hk
  obtain ⟨w', e1, r'⟩ := RelO.some_of (v := w) (o := (atKey xs k).map (·.2)) (by have := NRel.look rel k; rw [hw] at this; exact this)
  obtain ⟨p, hp, hp2⟩ := Option.map_eq_some_iff.mp e1
  exact PyProof.Rows.tail_any dd.typeIs PySem.F.slot_dict_getitem.lookup (wpAny_getItem_heap (nroom hu) (keyN_is I ok dk) dd hp (by rw [hp2]; exact ⟨w, H, I.tok _, r', q⟩)) hs
/-- the dict at l is written -/
theorem n_setItem {l b : Addr} {ws : List NEnt} {k : NestedKey} {v : V} {r : Value} {Q : Unit → Shared → Prop} (hu : X.A.units + 100 < cLine) (I : Inv X pins σ H s) (hl : H l = some (dnO l ws)) (hk : KeysN X.K H ws) (ok : okK k = true) (dk : Dp X.K H (.ref b) k.data) (hz : ws.length < sizeLine) (rv : RelV v r)
    (h : ∀ s', Inv X pins σ (upd H l (dnO l (putN ws k b v))) s' → Q () s') : wpAny (model X.prog X.w) X.A (setItem (.ref l) (.ref b) r) Q X.xe s := by
  obtain ⟨z, lo, oks, xs, rel, dd⟩ := dn_of I hl hk
  refine wpAny_setItem_heap (hsz := by rw [← Paired.length rel]; exact z) (nroom hu) (keyN_is I ok dk) dd fun h' dd' hs => h _ ?_
  have hp := dnP_of (ws := putN ws k b v) (by have := putN_len ws k b v; omega) lo (putN_mem (P := fun k _ => okK k = true) oks ok) (NRel.put rel k b rv) dd'
  obtain ⟨qo, _, _, hq, _⟩ := id dd'
  exact d_write I (by rw [hl]; trivial) hs ⟨_, hq⟩ (dnO_ok hp)
def sNPut (K : PySem.W.Frag) (td ty tv : TE) : TS := fun D σ H => tv σ H fun v H1 => td σ H1 fun x H2 => ty σ H2 fun y H3 => ∃ l ws k b, x = .ref l ∧ y = .ref b ∧ H3 l = some (dnO l ws) ∧ KeysN K H3 ws ∧ okK k = true ∧ Dp K H3 (.ref b) k.data ∧ ws.length < sizeLine ∧ D.nx σ (upd H3 l (dnO l (putN ws k b v)))
theorem ps_nput {o i value : Expr} {pos pos' : Pos} {td ty tv : TE} (hu : X.A.units + 100 < cLine) (ho : PE X o td) (hi : PE X i ty) (hv : PE X value tv) (hs : swapsWith value (some (.Subscript o i pos')) pos.line X.env = pure false) :
    PS X (.Assign [.Subscript o i pos'] value pos) (sNPut X.K td ty tv) := by
  refine ⟨fun pins s σ H D I h => ?_⟩
  refine wpAny_Assign_Subscript (thn (hv.run pins s σ H _ I h) fun r s1 ⟨v, H1, I1, rv, q1⟩ => thn (ho.run pins s1 σ H1 _ I1 q1) fun u s2 ⟨x, H2, I2, rx, q2⟩ => thn (hi.run pins s2 σ H2 _ I2 q2) fun iv s3 ⟨y, H3, I3, ry, l, ws, k, b, ex, ey, hl, hk, ok, dk, hz, q3⟩ => ?_) hs
  subst ex ey
  cases rx
  cases ry
  exact n_setItem hu I3 hl hk ok dk hz rv fun s4 I4 => ⟨σ, _, I4, q3⟩
theorem dn_empty {P : Program} {w : World} (h : Heap) (hb : sysModules < h.objs.size) : dnP h.objs.size [] (h.push { cls := .type "dict", data := .dict #[] }) :=
  ⟨Nat.zero_le _, beq_eq_false_iff_ne.mpr (Ne.symm (Nat.ne_of_lt hb)), (fun x hx => by cases hx), [], .nil, _, #[], 0, Heap.get?_push_size _ rfl, ⟨rfl, rfl, rfl⟩, rfl, rfl, List.nodup_nil⟩
/-- {k: v}, the key a nested tuple -/
def tOneN (K : PySem.W.Frag) (tk tv : TE) : TE := fun σ H Q => ∀ p, H p = none → tPairs [(tk, tv)] σ (upd H p (dnO p [])) fun ps H2 => H2 p = some (dnO p []) ∧ ∃ k b v, ps = [(.ref b, v)] ∧ okK k = true ∧ Dp K H2 (.ref b) k.data ∧ Q (.ref p) (upd H2 p (dnO p [(k, b, v)]))
theorem pe_oneN {k v : Expr} {pos : Pos} {tk tv : TE} (hu : X.A.units + 100 < cLine) (hk : PE X k tk) (hv : PE X v tv) : PE X (.Dict [some k] [v] pos) (tOneN X.K tk tv) := by
  refine ⟨fun pns st sg hp Q inv q => ?_⟩
  have hn := HOk.fresh inv.hok (Nat.le_refl st.heap.objs.size)
  have I1 := Inv.laid (t' := st.toks) inv (fun b o z => Heap.get?_push_of_some { cls := Value.type "dict", data := Data.dict #[] } z) (Nat.le_refl st.heap.objs.size) (dnO_ok (dn_empty (P := X.prog) (w := X.w) st.heap inv.big))
  rw [arm_eval_Dict, zip_pairTrees [some k] [v] X.env pos rfl rfl, dictDisplay_pairs _ (by simp [pairTrees]) (by simp [pairTrees])]
  refine wpAny_bind (wpAny_standAt (wpAny_bind (wpAny_subDictH (knd := nestedKind X.prog X.w) (show X.A.units + 8 < cLine by omega) (by simp [pairTrees]) ?_)))
  refine thn ((pps_cons hk hv pps_nil).run pns _ sg _ (fun ps H2 => H2 st.heap.objs.size = some (dnO st.heap.objs.size []) ∧ ∃ k b v, ps = [(.ref b, v)] ∧ okK k = true ∧ Dp X.K H2 (.ref b) k.data ∧ Q (.ref st.heap.objs.size) (upd H2 st.heap.objs.size (dnO st.heap.objs.size [(k, b, v)]))) I1 (q _ hn)) fun vs s2 ⟨ps, H2, I2, rv, e1, kk, b, v, ep, ok, hb, q2⟩ => ?_
  subst ep
  obtain ⟨z1, z2, _, xs, z3, z4⟩ := dn_of I2 e1 (fun x hx => by cases hx)
  cases z3
  obtain ⟨b1, b2, rfl, r1', r2⟩ := vv_one rv
  have ek := keyN_is I2 ok hb
  cases r1'
  refine ⟨[(kk, b, b2)], ⟨rfl, rfl, ek, trivial⟩, z4, fun h' tk' dd hs => wpAny_pure ⟨.ref _, upd H2 st.heap.objs.size (dnO st.heap.objs.size [(kk, b, v)]), ?_, rfl, q2⟩⟩
  have dd' : Heap.DictOfH (nestedKind X.prog X.w) h' st.heap.objs.size (storedH [] kk b b2) := dd
  have hp2 := dnP_of (ws := [(kk, b, v)]) (xs := storedH [] kk b b2) (Nat.le_trans (Nat.le_add_left 1 999999) (sz_ok (Nat.le_refl _))) z2 (fun x hx => by rw [List.mem_singleton.mp hx]; exact ok) (NRel.put (ws := []) .nil kk b r2) dd'
  obtain ⟨qo, es, ep, hq, h2, h3, h4, h5⟩ := id dd'
  exact d_write I2 (by rw [e1]; trivial) hs ⟨_, hq⟩ (dnO_ok hp2)
/-! len(d), list(d) -/
def rLenN (K : PySem.W.Frag) : List V → Hp → VK → Prop := fun xs H Q => ∃ (l : Addr) (ws : List NEnt), xs = [.ref l] ∧ H l = some (dnO l ws) ∧ KeysN K H ws ∧ Q (.int ((ws.length : Nat) : Int)) H
theorem call_lenN : CallR X (.builtin "len") (rLenN X.K) := by
  intro pins s σ H xs us Q I r h
  obtain ⟨p, ws, rfl, hp, hk, q⟩ := h
  obtain ⟨u, rfl, rx⟩ := vals1 r
  obtain rfl : u = .ref p := rx
  obtain ⟨z, lo, _, ys, rel, dd⟩ := dn_of I hp hk
  have hl : ws.length = ys.length := Paired.length rel
  refine call_len_dictH lo dd (by rw [← hl]; rw [sizeLine_eq] at z; omega) ?_
  rw [← hl]
  exact ⟨.int ((ws.length : Nat) : Int), H, I.tok _, ⟨_, rfl⟩, q⟩
theorem kdl_raw {prog : Program} {w : World} {d : Addr} {es : Array DictEntry} {ep : Nat} (lo : (d == sysModules) = false) : PySem.W.KdlSrc prog w "dict" d d es.size (fun i v => ∃ hi : i < es.size, v = es[i].key) (fun h => h.DictRaw d es ep) where
  type := fun _ hm => hm.typeIs
  there := fun _ hm => ⟨hm.lt_size, hm.lt_size⟩
  keep := fun _ _ hm hk => hm.at fun o e => hk d (.inl rfl) o e
  notList := by decide
  notTuple := by decide
  hint := fun _ _ _ _ hm hq => PySem.W.kdl_hint_dict hm.typeIs hq
  iter := fun _ _ hh hm => ⟨_, _, (fun _ _ hq => wpAny_pyIter_dict_raw lo hm hq), Walks.rawKeys hh _ d (Nat.ne_of_lt hm.lt_size) es ep, ⟨⟨_, Heap.get?_push_size _ rfl, rfl, rfl⟩, hm.push _⟩⟩
def rListN (K : PySem.W.Frag) : List V → Hp → VK → Prop := fun xs H Q => ∃ (l : Addr) (ws : List NEnt), xs = [.ref l] ∧ H l = some (dnO l ws) ∧ KeysN K H ws ∧ ∀ p, H p = none → Q (.ref p) (upd H p (.lst (ws.map fun x => .ref x.2.1)))
theorem call_listN (hc : X.calm = true) : CallR X (.type "list") (rListN X.K) := by
  intro pins s σ H xs us Q I r h
  obtain ⟨l, ws, rfl, hp, hk, q⟩ := h
  obtain ⟨u, rfl, rx⟩ := vals1 r
  obtain rfl : u = .ref l := rx
  obtain ⟨z, lo, _, ys, rel, dd⟩ := dn_of I hp hk
  obtain ⟨es, ep, raw, sz, he⟩ := dd.raw
  have hl : ws.length = ys.length := Paired.length rel
  refine PySem.W.kdl_call (kdl_raw lo) (I.ok.hd hc) raw (by rw [sz, ← hl]; exact z) fun h' tk acc c' kp e it => ?_
  have ee : acc.toList = ys.map fun y => Value.ref y.2.1 := by
    apply List.ext_getElem?
    intro j
    rw [Array.getElem?_toList, List.getElem?_map]
    by_cases hj : j < acc.size
    · have hv := it.2 j acc[j] (Array.getElem?_eq_getElem hj)
      obtain ⟨hi, ev⟩ := hv
      obtain ⟨y, h1, h2, _⟩ := he j hi
      rw [Array.getElem?_eq_getElem hj, ev, h2, h1]
      rfl
    · rw [Array.getElem?_eq_none (by omega), List.getElem?_eq_none (by rw [← sz, ← it.1]; omega)]
      rfl
  have rv : Vals (ws.map fun x => V.ref x.2.1) acc.toList := by
    rw [ee]
    clear ee he it e
    have : ∀ {ws : List NEnt} {ys : List (NestedKey × Addr × Value)}, Paired NRel ws ys → Vals (ws.map fun x => V.ref x.2.1) (ys.map fun y => Value.ref y.2.1) := by
      intro ws ys r
      induction r with
      | nil => exact .nil
      | cons a _ ih => exact .cons (by show Value.ref _ = Value.ref _; rw [a.2.1]) ih
    exact this rel
  refine ⟨.ref s.heap.objs.size, _, I.laid (t' := tk) kp (Nat.le_refl _) (show ObjOk X.prog X.w _ h' _ (.lst (ws.map fun x => V.ref x.2.1)) from ⟨by rw [List.length_map]; exact z, acc.toList, c', rv, by simpa using e⟩), rfl, q _ (I.hok.fresh (Nat.le_refl _))⟩
end
end GL
/-! Dicts with nested keys, by data. -/
namespace GL
open PySem L2 PyProof.Rows

mutual
/-- a datum as a key: numbers, None, tuples of these -/
def nkOf : D → Option NKey
  | .none => some .none
  | .int i => some (.num i)
  | .tuple ds => (nkOfs ds).map .tup
  | _ => none
def nkOfs : List D → Option (List NKey)
  | [] => some []
  | d :: ds => (nkOf d).bind fun k => (nkOfs ds).map fun ks => k :: ks
end
mutual
theorem nkOf_some : ∀ {d : D} {k : NKey}, nkOf d = some k → d = k.data ∧ noTx k = true
  | .none, k, h => by rw [nkOf] at h; cases h; exact ⟨by rw [NestedKey.data], by rw [noTx]⟩
  | .int i, k, h => by rw [nkOf] at h; cases h; exact ⟨by rw [NestedKey.data], by rw [noTx]⟩
  | .tuple ds, k, h => by
    rw [nkOf] at h
    obtain ⟨ks, h1, h2⟩ := Option.map_eq_some_iff.mp h
    subst h2
    obtain ⟨a, b⟩ := nkOfs_some h1
    exact ⟨by rw [NestedKey.data, a], by rw [noTx]; exact b⟩
  | .bool _, k, h => by rw [nkOf] at h <;> first | cases h | (intros; exact fun z => nomatch z)
  | .str _, k, h => by rw [nkOf] at h <;> first | cases h | (intros; exact fun z => nomatch z)
  | .list _, k, h => by rw [nkOf] at h <;> first | cases h | (intros; exact fun z => nomatch z)
  | .dict _, k, h => by rw [nkOf] at h <;> first | cases h | (intros; exact fun z => nomatch z)
theorem nkOfs_some : ∀ {ds : List D} {ks : List NKey}, nkOfs ds = some ks → ds = NestedKey.datas ks ∧ noTxs ks = true
  | [], ks, h => by rw [nkOfs] at h; cases h; exact ⟨by rw [NestedKey.datas], by rw [noTxs]⟩
  | d :: ds, ks, h => by
    rw [nkOfs] at h
    obtain ⟨k, h1, h2⟩ := Option.bind_eq_some_iff.mp h
    obtain ⟨r, h3, h4⟩ := Option.map_eq_some_iff.mp h2
    subst h4
    obtain ⟨a, b⟩ := nkOf_some h1
    obtain ⟨c, e⟩ := nkOfs_some h3
    exact ⟨by rw [NestedKey.datas, a, c], by rw [noTxs, b, e]; rfl⟩
end
/-- a tuple that may be a key -/
def tkOf (d : D) : Option NKey := match d with
  | .tuple _ => (nkOf d).bind fun k => if k.depth ≤ 8 then some k else none
  | _ => none
theorem tkOf_some {d : D} {k : NKey} (h : tkOf d = some k) : d = k.data ∧ okK k = true := by
  cases d with
  | tuple ds =>
    obtain ⟨k', h1, h2⟩ := Option.bind_eq_some_iff.mp (show (nkOf (.tuple ds)).bind (fun k => if k.depth ≤ 8 then some k else none) = some k from h)
    split at h2
    · rename_i hd
      cases h2
      obtain ⟨a, b⟩ := nkOf_some h1
      exact ⟨a, by unfold okK; rw [b, Bool.true_and]; exact decide_eq_true hd⟩
    · cases h2
  | _ => cases h
mutual
theorem data_plain : ∀ k : NKey, k.data.plain = true
  | .none => by rw [NestedKey.data]; rfl
  | .num i => by rw [NestedKey.data]; rfl
  | .text x => by rw [NestedKey.data]; rfl
  | .tup ks => by rw [NestedKey.data, PyData.plain]; exact datas_plain ks
theorem datas_plain : ∀ ks : List NKey, PyData.plainAll (NestedKey.datas ks) = true
  | [] => by rw [NestedKey.datas]; rfl
  | k :: ks => by rw [NestedKey.datas, PyData.plainAll, data_plain k, datas_plain ks]; rfl
end
/-- the name's dict -/
def dnAt (env : LEnv) (i : Nat) : Option (List (NKey × D)) := match env[i]? with
  | some (.dn kvs) => some kvs
  | some (.ln kvs) => some kvs
  | _ => none
def reDn : Slot → List (NKey × D) → Slot
  | .ln _, kvs => .ln kvs
  | _, kvs => .dn kvs
def dnSet (env : LEnv) (i : Nat) (kvs : List (NKey × D)) : LEnv := env.set i (reDn (env[i]?.getD .un) kvs)
section
variable {K : PySem.W.Frag} {P : List (Nat × Addr)} {B0 F B H : Hp} {env : LEnv} {σ : L2.St}
theorem OpN.keys {ws : List NEnt} {kvs : List (NKey × D)} (e : Same B H) (h : OpN K B ws kvs) : KeysN K H ws := by
  induction h with
  | nil => intro x hx; cases hx
  | cons a b c _ ih => exact fun x hx => (List.mem_cons.mp hx).elim (fun z => by rw [z]; exact b.dp e (data_plain _)) (ih x)
theorem OpN.look {ws : List NEnt} {kvs : List (NKey × D)} (h : OpN K B ws kvs) (k : NKey) : (lookO kvs k = none ∧ lookN ws k = none) ∨ ∃ v d, lookO kvs k = some d ∧ lookN ws k = some v ∧ Is K B v d := by
  induction h with
  | nil => exact .inl ⟨rfl, rfl⟩
  | @cons k' a v d ws kvs h1 h2 h3 _ ih =>
    by_cases q : k' = k
    · subst q
      exact .inr ⟨v, d, by unfold lookO; rw [List.find?_cons_of_pos (by simp)]; rfl, by unfold lookN; rw [List.find?_cons_of_pos (by simp)]; rfl, h3⟩
    · rw [show lookO ((k', d) :: kvs) k = lookO kvs k from by unfold lookO; rw [List.find?_cons_of_neg (by simpa using q)], show lookN ((k', a, v) :: ws) k = lookN ws k from by unfold lookN; rw [List.find?_cons_of_neg (by simpa using q)]]
      exact ih
theorem OpN.any {ws : List NEnt} {kvs : List (NKey × D)} (h : OpN K B ws kvs) (k : NKey) : (ws.any fun p => decide (p.1 = k)) = (kvs.any fun p => decide (p.1 = k)) := by
  induction h with
  | nil => rfl
  | cons _ _ _ _ ih => simp only [List.any_cons, ih]
theorem OpN.put {ws : List NEnt} {kvs : List (NKey × D)} {k : NKey} {a : Addr} {v : V} {d : D} (h : OpN K B ws kvs) (ok : okK k = true) (ia : Is K B (.ref a) k.data) (iv : Is K B v d) : OpN K B (putN ws k a v) (putO kvs k d) := by
  unfold putN putO
  rw [h.any k]
  split
  · induction h with
    | nil => exact .nil
    | @cons k' a' v' d' ws kvs h1 h2 h3 _ ih =>
      rename_i hh
      rw [List.map_cons, List.map_cons]
      have step : ∀ {ws : List NEnt} {kvs : List (NKey × D)}, OpN K B ws kvs → OpN K B (ws.map fun p => if p.1 = k then (p.1, p.2.1, v) else p) (kvs.map fun p => if p.1 = k then (p.1, d) else p) := by
        intro ws kvs hw
        induction hw with
        | nil => exact .nil
        | @cons k' a' v' d' ws kvs h1 h2 h3 _ ih =>
          rw [List.map_cons, List.map_cons]
          by_cases q : k' = k
          · rw [if_pos q, if_pos q]; exact .cons h1 h2 iv ih
          · rw [if_neg q, if_neg q]; exact .cons h1 h2 h3 ih
      exact step (.cons h1 h2 h3 (by assumption))
  · have app : ∀ {ws : List NEnt} {kvs : List (NKey × D)}, OpN K B ws kvs → OpN K B (ws ++ [(k, a, v)]) (kvs ++ [(k, d)]) := by
      intro ws kvs hw
      induction hw with
      | nil => exact .cons ok ia iv .nil
      | cons h1 h2 h3 _ ih => exact .cons h1 h2 h3 ih
    exact app h
theorem dn_slot {i : Nat} {kvs : List (NKey × D)} (E : EnvOk K P B0 F B H env σ) (h : dnAt env i = some kvs) : ∃ s l ws, env[i]? = some s ∧ (s = .dn kvs ∨ s = .ln kvs) ∧ σ[i]? = some (some (.ref l)) ∧ H l = some (dnO l ws) ∧ OpN K B ws kvs ∧ OwnA s σ[i]? l := by
  unfold dnAt at h
  split at h
  · rename_i k e
    cases h
    obtain ⟨l, ws, a, b, c⟩ := E.at_ i _ e
    exact ⟨_, l, ws, e, .inl rfl, a, b, c, rfl, a⟩
  · rename_i k e
    cases h
    obtain ⟨l, ws, a, b, c⟩ := E.at_ i _ e
    exact ⟨_, l, ws, e, .inr rfl, a, b, c, rfl, a⟩
  · cases h
theorem EnvOk.dnPut {i : Nat} {s : Slot} {l : Addr} {kvs kvs' : List (NKey × D)} {ws' : List NEnt} (E : EnvOk K P B0 F B H env σ) (e : env[i]? = some s) (hs : s = .dn kvs ∨ s = .ln kvs) (ow : OwnA s σ[i]? l) (o : OpN K B ws' kvs') : EnvOk K P B0 F B (upd H l (dnO l ws')) (dnSet env i kvs') σ := by
  unfold dnSet
  rw [e]
  rcases hs with rfl | rfl
  · exact E.mut e ow (t := .dn kvs') rfl ⟨l, ws', rfl, upd_same, o⟩ (fun z => by cases z)
  · exact E.mut e ow (t := .ln kvs') rfl ⟨l, ws', rfl, upd_same, o⟩ (fun _ => rfl)

/-! ### k in d -/
def fInN (neg : Bool) (i : Nat) (a : Sem) : Sem := fun env => (a env).bind fun p => (dnAt p.2 i).bind fun kvs => (tkOf p.1).map fun k => (.bool (if neg then !(lookO kvs k).isSome else (lookO kvs k).isSome), p.2)
theorem Ge.inN {neg : Bool} {i : Nat} {ta : TE} {fa : Sem} (ha : Ge K ta fa) : Ge K (tOp (rNIn K neg) ta (tVar i)) (fInN neg i fa) := fun P B0 F B H env σ d env' E hf Q q => by
  obtain ⟨⟨x, e1⟩, h1, h2⟩ := Option.bind_eq_some_iff.mp hf
  obtain ⟨kvs, h3, h4⟩ := Option.bind_eq_some_iff.mp h2
  obtain ⟨k, h5, h6⟩ := Option.map_eq_some_iff.mp h4
  cases h6
  refine ha P B0 F B H env σ x _ E h1 _ fun v B' H' E' s iv => ?_
  obtain ⟨sl, l, ws, e, _, k1, k2, k3, _⟩ := dn_slot E' h3
  obtain ⟨ed, ok⟩ := tkOf_some h5
  obtain ⟨ds, es⟩ : ∃ ds, x = .tuple ds := by cases x <;> first | exact ⟨_, rfl⟩ | cases h5
  obtain ⟨b, rfl⟩ : ∃ b, v = .ref b := by subst es; cases iv; exact ⟨_, rfl⟩
  refine ⟨_, k1, l, ws, k, b, rfl, rfl, k2, k3.keys E'.bh, ok, by rw [← ed]; exact iv.dp E'.bh (by rw [ed]; exact data_plain k), ?_⟩
  have eb : (lookN ws k).isSome = (lookO kvs k).isSome := by
    rcases k3.look k with ⟨a1, a2⟩ | ⟨v', d', a1, a2, _⟩
    · rw [a1, a2] <;> rfl
    · rw [a1, a2] <;> rfl
  rw [eb]
  exact q _ B' H' E' s (.bl _)
/-! ### d[k] -/
def fIxN (i : Nat) (b : Sem) : Sem := fun env => (dnAt env i).bind fun _ => (b env).bind fun p => (dnAt p.2 i).bind fun kvs => (tkOf p.1).bind fun k => (lookO kvs k).map fun d => (d, p.2)
theorem Ge.ixN {i : Nat} {tb : TE} {fb : Sem} (hb : Ge K tb fb) : Ge K (tOp (rNIx K) (tVar i) tb) (fIxN i fb) := fun P B0 F B H env σ d env' E hf Q q => by
  obtain ⟨kvs0, h0, hf⟩ := Option.bind_eq_some_iff.mp hf
  obtain ⟨⟨x, e1⟩, h1, h2⟩ := Option.bind_eq_some_iff.mp hf
  obtain ⟨kvs, h3, h4⟩ := Option.bind_eq_some_iff.mp h2
  obtain ⟨k, h5, h6⟩ := Option.bind_eq_some_iff.mp h4
  obtain ⟨d', h7, h8⟩ := Option.map_eq_some_iff.mp h6
  cases h8
  obtain ⟨_, l0, _, _, _, m1, _⟩ := dn_slot E h0
  refine ⟨_, m1, ?_⟩
  refine hb P B0 F B H env σ x _ E h1 _ fun v B' H' E' s iv => ?_
  obtain ⟨sl, l, ws, e, _, k1, k2, k3, _⟩ := dn_slot E' h3
  rw [m1] at k1
  cases k1
  obtain ⟨ed, ok⟩ := tkOf_some h5
  obtain ⟨ds, es⟩ : ∃ ds, x = .tuple ds := by cases x <;> first | exact ⟨_, rfl⟩ | cases h5
  obtain ⟨b, rfl⟩ : ∃ b, v = .ref b := by subst es; cases iv; exact ⟨_, rfl⟩
  rcases k3.look k with ⟨a1, a2⟩ | ⟨v', d', a1, a2, a3⟩
  · rw [a1] at h7; cases h7
  · rw [a1] at h7
    cases h7
    exact ⟨_, ws, k, b, v', rfl, rfl, k2, k3.keys E'.bh, ok, by rw [← ed]; exact iv.dp E'.bh (by rw [ed]; exact data_plain k), a2, q _ B' H' E' s a3⟩
/-! ### d[k] = v -/
def sPutN (i : Nat) (fk fv : Sem) : SemS := fun env => (fv env).bind fun p => (dnAt p.2 i).bind fun _ => (fk p.2).bind fun q => (dnAt q.2 i).bind fun kvs => (tkOf q.1).bind fun k => if kvs.length < 1000000 then some (.nx (dnSet q.2 i (putO kvs k p.1))) else none
theorem Gs.putN {i : Nat} {tk tv : TE} {fk fv : Sem} (hk : Ge K tk fk) (hv : Ge K tv fv) : Gs K (sNPut K (tVar i) tk tv) (sPutN i fk fv) := fun P B0 F B H env σ r E hf Z q => by
  obtain ⟨⟨x, e1⟩, h1, hf⟩ := Option.bind_eq_some_iff.mp hf
  obtain ⟨kvs0, h0, hf⟩ := Option.bind_eq_some_iff.mp hf
  obtain ⟨⟨y, e2⟩, h2, hf⟩ := Option.bind_eq_some_iff.mp hf
  obtain ⟨kvs, h3, hf⟩ := Option.bind_eq_some_iff.mp hf
  obtain ⟨k, h4, hf⟩ := Option.bind_eq_some_iff.mp hf
  split at hf
  case isFalse => cases hf
  rename_i hz
  cases hf
  refine hv P B0 F B H env σ x e1 E h1 _ fun v B' H' E' s iv => ?_
  obtain ⟨_, l0, _, _, _, m1, _⟩ := dn_slot E' h0
  refine ⟨_, m1, hk P B0 F B' H' e1 σ y e2 E' h2 _ fun u B2 H2 E2 s2 iu => ?_⟩
  obtain ⟨sl, l, ws, e, hs, k1, k2, k3, ow⟩ := dn_slot E2 h3
  rw [m1] at k1
  cases k1
  obtain ⟨ed, ok⟩ := tkOf_some h4
  obtain ⟨ds, es⟩ : ∃ ds, y = .tuple ds := by cases y <;> first | exact ⟨_, rfl⟩ | cases h4
  obtain ⟨b, rfl⟩ : ∃ b, u = .ref b := by subst es; cases iu; exact ⟨_, rfl⟩
  refine ⟨_, ws, k, b, rfl, rfl, k2, k3.keys E2.bh, ok, by rw [← ed]; exact iu.dp E2.bh (by rw [ed]; exact data_plain k), lt_sz k3.len hz, ?_⟩
  exact q σ B2 _ (E2.dnPut e hs ow (k3.put ok (by rw [← ed]; exact iu) (iv.up s2)))
/-! ### len(d), list(d) -/
def fLenN (i : Nat) : Sem := fun env => (dnAt env i).map fun kvs => (.int ((kvs.length : Nat) : Int), env)
def fListNK (i : Nat) : SemL := fun env => (dnAt env i).map fun kvs => (kvs.map fun p => p.1.data, env)
theorem OpN.keysAll {ws : List NEnt} {kvs : List (NKey × D)} (h : OpN K B ws kvs) : IsAll K B (ws.map fun x => V.ref x.2.1) (kvs.map fun p => p.1.data) := by
  induction h with
  | nil => exact .nil
  | cons _ b _ _ ih => exact .cons b ih
end
section
variable {X : Cx}
theorem ge_inN {a b : Expr} {pos : Pos} {i : Nat} {ta : TE} {fa : Sem} (hu : X.A.units + 100 < cLine) (ha : GE X a ta fa) (hb : PE X b (tVar i)) (hm : behindInMarks .In b = false) : GE X (.Compare a [.In] [b] pos) (tOp (rNIn X.K false) ta (tVar i)) (fInN false i fa) := ⟨pe_cmpR (op_nIn hu) ha.pe hb hm, Ge.inN ha.ge⟩
theorem ge_notInN {a b : Expr} {pos : Pos} {i : Nat} {ta : TE} {fa : Sem} (hu : X.A.units + 100 < cLine) (ha : GE X a ta fa) (hb : PE X b (tVar i)) (hm : behindInMarks .NotIn b = false) : GE X (.Compare a [.NotIn] [b] pos) (tOp (rNIn X.K true) ta (tVar i)) (fInN true i fa) := ⟨pe_cmpR (op_nNotIn hu) ha.pe hb hm, Ge.inN ha.ge⟩
theorem gt_inN {a b : Expr} {pos : Pos} {i : Nat} {ta : TE} {fa : Sem} (hu : X.A.units + 100 < cLine) (ha : GE X a ta fa) (hb : PE X b (tVar i)) (hm : behindInMarks .In b = false) : GT X (.Compare a [.In] [b] pos) (tTest (tOp (rNIn X.K false) ta (tVar i))) (fTest (fInN false i fa)) := ⟨pt_cmpR (op_nIn hu) ha.pe hb hm, Gt.test (Ge.inN ha.ge)⟩
theorem gt_notInN {a b : Expr} {pos : Pos} {i : Nat} {ta : TE} {fa : Sem} (hu : X.A.units + 100 < cLine) (ha : GE X a ta fa) (hb : PE X b (tVar i)) (hm : behindInMarks .NotIn b = false) : GT X (.Compare a [.NotIn] [b] pos) (tTest (tOp (rNIn X.K true) ta (tVar i))) (fTest (fInN true i fa)) := ⟨pt_cmpR (op_nNotIn hu) ha.pe hb hm, Gt.test (Ge.inN ha.ge)⟩
theorem ge_ixDn {a b : Expr} {pos : Pos} {i : Nat} {tb : TE} {fb : Sem} (hu : X.A.units + 100 < cLine) (ha : PE X a (tVar i)) (hb : GE X b tb fb) (hs : PlainIx b := by exact fun _ _ => rfl) : GE X (.Subscript a b pos) (tOp (rNIx X.K) (tVar i) tb) (fIxN i fb) := ⟨pe_ix (ix_n hu) ha hb.pe hs, Ge.ixN hb.ge⟩
theorem gs_putN {o i value : Expr} {pos pos' : Pos} {n : Nat} {tk tv : TE} {fk fv : Sem} (hu : X.A.units + 100 < cLine) (ho : PE X o (tVar n)) (hk : GE X i tk fk) (hv : GE X value tv fv) (hs : swapsWith value (some (.Subscript o i pos')) pos.line X.env = pure false := by rfl) :
    GS X (.Assign [.Subscript o i pos'] value pos) (sNPut X.K (tVar n) tk tv) (sPutN n fk fv) := ⟨ps_nput hu ho hk.pe hv.pe hs, Gs.putN hk.ge hv.ge⟩
def fOneN (fk fv : Sem) : LEnv → Option (Slot × LEnv) := fun env => (fk env).bind fun p => (fv p.2).bind fun q => (tkOf p.1).map fun k => (.dn [(k, q.1)], q.2)
theorem gw_oneN {k v : Expr} {pos : Pos} {tk tv : TE} {fk fv : Sem} (hu : X.A.units + 100 < cLine) (hk : GE X k tk fk) (hv : GE X v tv fv) : GW1 X (.Dict [some k] [v] pos) (tOneN X.K tk tv) (fOneN fk fv) := ⟨pe_oneN hu hk.pe hv.pe, fun P B0 F B H env σ s env' E hf Q q => by
  obtain ⟨⟨x, e1⟩, h1, h2⟩ := Option.bind_eq_some_iff.mp hf
  obtain ⟨⟨y, e2⟩, h3, h4⟩ := Option.bind_eq_some_iff.mp h2
  obtain ⟨kk, h5, h6⟩ := Option.map_eq_some_iff.mp h4
  cases h6
  intro p hp
  obtain ⟨fb, ff, fo⟩ := E.fresh hp
  have E0 : EnvOk X.K P B0 (upd F p (dnO p [])) B (upd H p (dnO p [])) env σ := (E.grow (Grow.open E.bh hp)).addF upd_same fb fo
  refine hk.ge P B0 _ B _ env σ x e1 E0 h1 _ fun u B1 H1 E1 s1 i1 => ?_
  refine hv.ge P B0 _ B1 H1 e1 σ y e2 E1 h3 _ fun w B2 H2 E2 s2 i2 => ?_
  obtain ⟨g1, g2, g3⟩ := E2.openF rfl
  obtain ⟨ed, ok⟩ := tkOf_some h5
  obtain ⟨ds, es⟩ : ∃ ds, x = .tuple ds := by cases x <;> first | exact ⟨_, rfl⟩ | cases h5
  obtain ⟨b, rfl⟩ : ∃ b, u = .ref b := by subst es; cases i1; exact ⟨_, rfl⟩
  have E3 := E2.writeF (o' := dnO p [(kk, b, w)]) rfl
  obtain ⟨m1, m2, m3⟩ := E3.openF rfl
  refine ⟨g1, kk, b, w, rfl, ok, by rw [← ed]; exact (i1.up s2).dp E2.bh (by rw [ed]; exact data_plain kk), ?_⟩
  exact q p B2 _ (E3.dropF ff) (s1.trans s2) rfl ⟨p, _, rfl, upd_same, .cons ok (by rw [← ed]; exact i1.up s2) i2 .nil⟩ m2 ff m3⟩
theorem ge_lenDn {x : Str} {i : Nat} {p p2 pos : Pos} (ha : PE X (.Name x p2) (tVar i)) (hm : X.mg "len" = none) (hg : Gl X "len" := by rfl) (he : starEach [.Name x p2] X.env = (false, eval (.Name x p2) X.env) :: starEach [] X.env := by rfl) (hpl : (backTo pos (starEach [] X.env)).any (·.1) = false := by rfl) :
    GE X (.Call (.Name "len" p) [.Name x p2] [] pos) (tCB (rLenN X.K) (tCons (tVar i) tNil)) (fLenN i) := ⟨pe_callB call_lenN hg hm (by decide +kernel) (pa_cons ha pa_nil he) (by decide) (by decide) he hpl, fun P B0 F B H env σ d env' E hf Q q => by
  obtain ⟨kvs, h1, h2⟩ := Option.map_eq_some_iff.mp hf
  cases h2
  obtain ⟨sl, l, ws, e, _, k1, k2, k3, _⟩ := dn_slot E h1
  exact ⟨_, k1, l, ws, rfl, k2, k3.keys E.bh, by rw [k3.len]; exact q _ B H E (Same.refl _) (.int _)⟩⟩
theorem gn_listDn {x : Str} {i : Nat} {p p2 pos : Pos} (hc : X.calm = true) (ha : PE X (.Name x p2) (tVar i)) (hm : X.mg "list" = none) (hg : Gl X "list" := by rfl) (he : starEach [.Name x p2] X.env = (false, eval (.Name x p2) X.env) :: starEach [] X.env := by rfl) (hpl : (backTo pos (starEach [] X.env)).any (·.1) = false := by rfl) :
    GN X (.Call (.Name "list" p) [.Name x p2] [] pos) (tCB (rListN X.K) (tCons (tVar i) tNil)) (fListNK i) := ⟨pe_callTy (call_listN hc) hg hm (by decide +kernel) (pa_cons ha pa_nil he) (by decide) (by decide) he hpl, fun P B0 F B H env σ ds env' E hf Q q => by
  obtain ⟨kvs, h1, h2⟩ := Option.map_eq_some_iff.mp hf
  cases h2
  obtain ⟨sl, l, ws, e, _, k1, k2, k3, _⟩ := dn_slot E h1
  refine ⟨_, k1, l, ws, rfl, k2, k3.keys E.bh, fun p hp => ?_⟩
  obtain ⟨a, b, c⟩ := E.fresh hp
  exact q p _ B _ (E.grow (Grow.open E.bh hp)) (Same.refl _) k3.keysAll a b c upd_same⟩
end
end GL
/-! Defs that hand back a dict of their own; dicts that are lent to defs. -/
namespace GL
open PySem L2 PyProof.Rows

/-! ### a def that returns a dict of its own -/
abbrev SemW := LEnv → Option (List (NKey × D))
def GsW (K : PySem.W.Frag) (ts : TS) (f : SemW) : Prop := ∀ (P : List (Nat × Addr)) (B0 F B H : Hp) (env : LEnv) (σ : L2.St) (kvs : List (NKey × D)), EnvOk K P B0 F B H env σ → f env = some kvs →
  ∀ Z : Ends, (∀ p σ' B' H' e, EnvOk K P B0 F B' H' e σ' → SlotOk K B' H' (.dn kvs) (some (some (.ref p))) → B' p = none → F p = none → Z.rt (.ref p) H') → ts Z σ H
structure GSsW (X : Cx) (st : List Stmt) (ts : TS) (f : SemW) : Prop where
  ps : PSs X st ts
  gs : GsW X.K ts f
def wRet (i : Nat) : SemW := fun env => match env[i]? with
  | some (.dn kvs) => some kvs
  | _ => none
def wSeq (f : SemS) (g : SemW) : SemW := fun env => (f env).bind fun r => match r with
  | .nx e => g e
  | _ => none
def runW (m : Nat) (fb : SemW) (ds : List D) : Option (List (NKey × D)) := fb (startE m ds)
def spW (K : PySem.W.Frag) (n : Nat) (fn : List D → Option (List (NKey × D))) : Sp := fun vs H Q _ => ∃ B ds kvs, vs.length = n ∧ Same B H ∧ IsAll K B vs ds ∧ fn ds = some kvs ∧
  ∀ p B' H', Grow B H B' H' → SlotOk K B' H' (.dn kvs) (some (some (.ref p))) → B' p = none → H p = none → Q (.ref p) H'
section
variable {X : Cx}
theorem gssw_ret {x : Str} {i : Nat} {p pos : Pos} (h : PE X (.Name x p) (tVar i)) : GSsW X [.Return (some (.Name x p)) pos] (tRet (tVar i)) (wRet i) := ⟨pss_one (ps_ret h), fun P B0 F B H env σ kvs E hf Z q => by
  unfold wRet at hf
  split at hf
  · rename_i k e
    cases hf
    obtain ⟨l, ws, a, b, c⟩ := E.at_ i _ e
    obtain ⟨o1, o2⟩ := E.own i _ l e ⟨rfl, a⟩
    exact ⟨_, a, q l σ B H env E ⟨l, ws, rfl, b, c⟩ o1 o2⟩
  · cases hf⟩
theorem gssw_cons {st : Stmt} {rest : List Stmt} {t u : TS} {f : SemS} {g : SemW} (h : GS X st t f) (h' : GSsW X rest u g) : GSsW X (st :: rest) (tSeq t u) (wSeq f g) := ⟨pss_cons h.ps h'.ps, fun P B0 F B H env σ kvs E hf Z q => by
  obtain ⟨r1, h1, h2⟩ := Option.bind_eq_some_iff.mp hf
  refine h.gs P B0 F B H env σ r1 E h1 _ ?_
  cases r1 with
  | nx e => exact fun σ' B' H' E' => h'.gs P B0 F B' H' e σ' kvs E' h2 Z q
  | rt d e => cases h2
  | bk e => cases h2
  | ct e => cases h2⟩
end
section
variable {Pr : Program} {w : World} {K : PySem.W.Frag} {mg : Str → Option Value} {base : Heap} {x qual : Str} {st : Stmt} {f : Addr} {fd : FuncData} {N ps : List Str} {k : Nat} {fb : SemW}
theorem fnOk_W (hF : Fun K x qual st f fd) (S : FnScope N ps (defScope st)) (hn : ps.length ≤ N.length)
    (hb : ∀ (cdv : Value) (A : Around) (outer : List Env) (s : Shared) (H : Hp) (E : XK), Room k (A.deeper (PyProof.Rows.envOfC qual (defScope st) s.heap.objs.size f cdv)) → ∃ t, GSsW (bodyX Pr w K mg base N qual st f cdv A outer s H E) (defBody st) t fb) :
    FnOk Pr w K mg base CX0 (k + 1) f fd ps (spW K ps.length (runW N.length fb)) := by
  refine Fun.ok hF S (fun vs H Q E ⟨_, _, _, h, _⟩ => h) fun cdv A outer s H vs Q E hr ⟨B, ds, kvs, hl, e, ia, hf, q⟩ => ?_
  obtain ⟨t, gt⟩ := hb cdv A outer s H E hr
  refine ⟨t, gt.ps, ?_⟩
  refine gt.gs [] B _ B H _ _ kvs (EnvOk.start (N := N) e ia (by rw [hl]; exact hn)) hf _ fun p σ' B' H' e' E' so bp fp => q p B' H' (E'.toGrow e) so bp ?_
  cases q1 : H p with
  | none => rfl
  | some o =>
    have b0 : B p = none := E'.b0.free bp
    rw [restF_of (by simp) b0 q1] at fp
    cases fp
end
def fCallW (n : Nat) (fn : List D → Option (List (NKey × D))) (r : SemL) : LEnv → Option (Slot × LEnv) := fun env => (r env).bind fun q => if q.1.length = n then (fn q.1).map fun kvs => (.dn kvs, q.2) else none
section
variable {X : Cx} {k n : Nat} {f : Addr} {fd : FuncData} {ps : List Str} {x : Str} {p pos : Pos} {e : Expr} {es : List Expr} {t : TA} {r : SemL}
theorem Gw.call {K : PySem.W.Frag} {fn : List D → Option (List (NKey × D))} {E : XK} (h : Ga K t r) : Gw K (tCall (spW K n fn) [] E t) (fCallW n fn r) := fun P B0 F B H env σ s env' E hf Q q => by
  obtain ⟨⟨ds, e1⟩, h1, h2⟩ := Option.bind_eq_some_iff.mp hf
  dsimp only at h2
  split at h2
  case isFalse => cases h2
  rename_i hn
  obtain ⟨kvs, h3, h4⟩ := Option.map_eq_some_iff.mp h2
  cases h4
  refine h P B0 F B H env σ ds _ E h1 _ fun vs B1 H1 E1 s1 i1 => ?_
  show spW K n fn (vs ++ []) H1 Q _
  rw [List.append_nil]
  refine ⟨B1, ds, kvs, by rw [i1.len]; exact hn, E1.bh, i1, h3, fun p B2 H2 g so bp hp => ?_⟩
  obtain ⟨_, b, c⟩ := E1.fresh hp
  exact q p B2 H2 (E1.grow g) (s1.trans g.b) rfl so bp b c
theorem gw_callW {fn : List D → Option (List (NKey × D))} (F : FnOk X.prog X.w X.K X.mg X.base CX0 k f fd ps (spW X.K n fn)) (hr : Room k X.A) (hm : X.mg x = some (.ref f)) (hk : PySem.W.keepIn X.K (.ref f) = true) (hb : Binds X.K fd ps []) (ha : GA X (e :: es) t r) (hg : Gl X x := by rfl)
    (h1 : (x == Str.ofString "__debug__") = false := by rfl) (h2 : starEach (e :: es) X.env = (false, eval e X.env) :: starEach es X.env := by rfl) (h3 : (backTo pos (starEach es X.env)).any (·.1) = false := by rfl) :
    GW1 X (.Call (.Name x p) (e :: es) [] pos) (tCall (spW X.K n fn) [] E0 t) (fCallW n fn r) := ⟨pe_call F hr hg hm hk hb .nil pass0 ha.pa h1 h2 h3, Gw.call ha.ga⟩
end
/-- len, list of a new dict -/
def fLenW (f : LEnv → Option (Slot × LEnv)) : Sem := fun env => (f env).bind fun p => match p.1 with
  | .dn kvs => some (.int ((kvs.length : Nat) : Int), p.2)
  | _ => none
def fListW (f : LEnv → Option (Slot × LEnv)) : SemL := fun env => (f env).bind fun p => match p.1 with
  | .dn kvs => some (kvs.map fun q => q.1.data, p.2)
  | _ => none
section
variable {X : Cx} {e : Expr} {te : TE} {f : LEnv → Option (Slot × LEnv)} {p pos : Pos}
theorem ge_lenW (h : GW1 X e te f) (hm : X.mg "len" = none) (hg : Gl X "len" := by rfl) (he : starEach [e] X.env = (false, eval e X.env) :: starEach [] X.env := by rfl) (hpl : (backTo pos (starEach [] X.env)).any (·.1) = false := by rfl) :
    GE X (.Call (.Name "len" p) [e] [] pos) (tCB (rLenN X.K) (tCons te tNil)) (fLenW f) := ⟨pe_callB call_lenN hg hm (by decide +kernel) (pa_cons h.pe pa_nil he) (by decide) (by decide) he hpl, fun P B0 F B H env σ d env' E hf Q q => by
  obtain ⟨⟨s, e1⟩, h1, h2⟩ := Option.bind_eq_some_iff.mp hf
  cases s with
  | dn kvs =>
    cases h2
    refine h.gw P B0 F B H env σ _ _ E h1 _ fun p B' H' E' sm ho so hb hF hn => ?_
    obtain ⟨l, ws, a, b, c⟩ := so
    cases a
    exact ⟨_, ws, rfl, b, c.keys E'.bh, by rw [c.len]; exact q _ B' H' E' sm (.int _)⟩
  | _ => cases h2⟩
theorem gn_listW (hc : X.calm = true) (h : GW1 X e te f) (hm : X.mg "list" = none) (hg : Gl X "list" := by rfl) (he : starEach [e] X.env = (false, eval e X.env) :: starEach [] X.env := by rfl) (hpl : (backTo pos (starEach [] X.env)).any (·.1) = false := by rfl) :
    GN X (.Call (.Name "list" p) [e] [] pos) (tCB (rListN X.K) (tCons te tNil)) (fListW f) := ⟨pe_callTy (call_listN hc) hg hm (by decide +kernel) (pa_cons h.pe pa_nil he) (by decide) (by decide) he hpl, fun P B0 F B H env σ ds env' E hf Q q => by
  obtain ⟨⟨s, e1⟩, h1, h2⟩ := Option.bind_eq_some_iff.mp hf
  cases s with
  | dn kvs =>
    cases h2
    refine h.gw P B0 F B H env σ _ _ E h1 _ fun p B' H' E' sm ho so hb hF hn => ?_
    obtain ⟨l, ws, a, b, c⟩ := so
    cases a
    refine ⟨_, ws, rfl, b, c.keys E'.bh, fun p2 hp => ?_⟩
    obtain ⟨x1, x2, x3⟩ := E'.fresh hp
    exact q p2 _ B' _ (E'.grow (Grow.open E'.bh hp)) sm c.keysAll x1 x2 x3 upd_same
  | _ => cases h2⟩
end

/-! ### a dict that is lent -/
def startL (m : Nat) (kvs : List (NKey × D)) (ds es : List D) : LEnv := ds.map Slot.val ++ .ln kvs :: startE (m - ds.length - 1) es
def lnAt (env : LEnv) (i : Nat) : Option (List (NKey × D)) := match env[i]? with
  | some (.ln kvs) => some kvs
  | _ => none
def runL (m j : Nat) (fb : SemS) (kvs : List (NKey × D)) (ds es : List D) : Option (D × List (NKey × D)) := (fb (startL m kvs ds es)).bind fun r => match r with
  | .rt d e => (lnAt e j).map fun z => (d, z)
  | .nx e => (lnAt e j).map fun z => (.none, z)
  | _ => none
/-- a def to which a dict is lent, behind j data, ahead of n -/
def spL (K : PySem.W.Frag) (j n : Nat) (fn : List (NKey × D) → List D → List D → Option (D × List (NKey × D))) : Sp := fun vs H Q _ => ∃ B l kvs as bs ds es d kvs', vs = as ++ .ref l :: bs ∧ as.length = j ∧ bs.length = n ∧ Same B H ∧ B l = none ∧ SlotOk K B H (.ln kvs) (some (some (.ref l))) ∧
  IsAll K B as ds ∧ IsAll K B bs es ∧ fn kvs ds es = some (d, kvs') ∧ ∀ v B' H', GrowR l B H B' H' → SlotOk K B' H' (.ln kvs') (some (some (.ref l))) → Is K B' v d → Q v H'
section
variable {K : PySem.W.Frag} {P : List (Nat × Addr)} {B0 F B H : Hp} {env : LEnv} {σ : L2.St}
theorem EnvOk.growS {B' H' : Hp} {i : Nat} {l : Addr} {s t : Slot} (E : EnvOk K P B0 F B H env σ) (he : env[i]? = some s) (ow : OwnA s σ[i]? l) (g : GrowR l B H B' H') (hs : SlotOk K B' H' t (some (some (.ref l)))) (ho : owns t = true) (hlt : isLent s = true → isLent t = true) :
    EnvOk K P B0 F B' H' (env.set i t) σ := by
  have hl := ow.2
  obtain ⟨bl, fl⟩ := E.own i _ l he ow
  refine ⟨E.b0.trans g.b, g.bh, fun a u h => ?_, by rw [List.length_set]; exact E.len, fun j u e => ?_, fun j u a e oa => ?_, fun j k u w a n e1 e2 o1 o2 => ?_, fun p hp => ?_⟩
  · have n : a ≠ l := fun z => by rw [z, fl] at h; cases h
    exact ⟨g.h a u n (E.fr a u h).1, (E.fr a u h).2.elim (fun z => g.n a u n (E.fr a u h).1 z) .inr⟩
  · rcases set_get e with ⟨rfl, rfl⟩ | ⟨n, e⟩
    · rw [hl]; exact hs
    · refine (E.at_ j u e).up g.b fun a w oa q => ?_
      exact g.h a w (fun z => E.sep i j _ u l n he e ow (by rw [← z]; exact oa)) q
  · rcases set_get e with ⟨rfl, rfl⟩ | ⟨n, e⟩
    · have q := oa.2
      rw [hl] at q; cases q
      exact ⟨g.l, fl⟩
    · have n2 : a ≠ l := fun z => E.sep i j _ u l n he e ow (by rw [← z]; exact oa)
      obtain ⟨w, hw, nt⟩ := (E.at_ j u e).there oa
      exact ⟨(g.n a w n2 hw (E.own j u a e oa).1).elim id (fun z => by rw [nt] at z; cases z), (E.own j u a e oa).2⟩
  · rcases set_get e1 with ⟨rfl, rfl⟩ | ⟨n1, f1⟩
    · rcases set_get e2 with ⟨rfl, _⟩ | ⟨n2, f2⟩
      · exact n rfl
      · have q := o1.2
        rw [hl] at q; cases q
        exact E.sep i k _ w l n he f2 ow o2
    · rcases set_get e2 with ⟨rfl, rfl⟩ | ⟨n2, f2⟩
      · have q := o2.2
        rw [hl] at q; cases q
        exact E.sep j i u _ l n f1 he o1 ow
      · exact E.sep j k u w a n f1 f2 o1 o2
  · obtain ⟨e, ds, q, ql⟩ := E.pin p hp
    by_cases n : i = p.1
    · subst n
      rw [he] at q
      cases q
      exact ⟨e, t, by rw [List.getElem?_set_self (List.getElem?_eq_some_iff.mp he).1], hlt ql⟩
    · exact ⟨e, ds, by rw [List.getElem?_set_ne n]; exact q, ql⟩
theorem startL_get {m : Nat} {kvs : List (NKey × D)} {ds es : List D} {i : Nat} {s : Slot} (h : (startL m kvs ds es)[i]? = some s) : (∃ d, ds[i]? = some d ∧ s = .val d) ∨ (i = ds.length ∧ s = .ln kvs) ∨ ∃ j, i = ds.length + 1 + j ∧ ((∃ d, es[j]? = some d ∧ s = .val d) ∨ s = .un) := by
  unfold startL at h
  by_cases hi : i < ds.length
  · rw [List.getElem?_append_left (by rw [List.length_map]; exact hi), List.getElem?_map] at h
    obtain ⟨d, h1, h2⟩ := Option.map_eq_some_iff.mp h
    exact .inl ⟨d, h1, h2.symm⟩
  · rw [List.getElem?_append_right (by rw [List.length_map]; omega), List.length_map] at h
    obtain ⟨j, hj⟩ : ∃ j, i = ds.length + j := ⟨i - ds.length, by omega⟩
    subst hj
    rw [show ds.length + j - ds.length = j from by omega] at h
    cases j with
    | zero => cases h; exact .inr (.inl ⟨rfl, rfl⟩)
    | succ j => exact .inr (.inr ⟨j, by omega, startE_get (by simpa using h)⟩)
theorem startL_len {m : Nat} {kvs : List (NKey × D)} {ds es : List D} (h : ds.length + 1 + es.length ≤ m) : (startL m kvs ds es).length = m := by
  unfold startL
  rw [List.length_append, List.length_map, List.length_cons, startE_len (by omega)]
  omega
theorem EnvOk.startL {N : List Str} {as bs : List V} {ds es : List D} {l : Addr} {kvs : List (NKey × D)} (e : Same B H) (hb : B l = none) (hs : SlotOk K B H (.ln kvs) (some (some (.ref l)))) (ia : IsAll K B as ds) (ib : IsAll K B bs es) (hl : as.length + 1 + bs.length ≤ N.length) :
    EnvOk K [(as.length, l)] B (restF B H (some l)) B H (GL.startL N.length kvs ds es) (L2.start N (as ++ .ref l :: bs)) := by
  have hd : ds.length = as.length := ia.len.symm
  have he : es.length = bs.length := ib.len.symm
  have at_l : (L2.start N (as ++ .ref l :: bs))[as.length]? = some (some (.ref l)) := start_get (by rw [List.getElem?_append_right (Nat.le_refl _), Nat.sub_self]; rfl)
  have nope : ∀ {i : Nat} {s : Slot} {a : Addr}, (GL.startL N.length kvs ds es)[i]? = some s → OwnA s (L2.start N (as ++ .ref l :: bs))[i]? a → i = as.length ∧ a = l := fun {i s a} h o => by
    rcases startL_get h with ⟨d, h1, rfl⟩ | ⟨rfl, rfl⟩ | ⟨j, rfl, ⟨d, h1, rfl⟩ | rfl⟩
    · cases o.1
    · have q := o.2
      rw [hd, at_l] at q
      cases q; exact ⟨hd, rfl⟩
    · cases o.1
    · cases o.1
  exact {
    b0 := Same.refl _
    bh := e
    fr := fun a o h => ⟨(restF_some h).2.2, .inl (restF_some h).2.1⟩
    len := by rw [start_len (by simp; omega), startL_len (by omega)]
    at_ := fun i s h => by
      rcases startL_get h with ⟨d, h1, rfl⟩ | ⟨rfl, rfl⟩ | ⟨j, rfl, ⟨d, h1, rfl⟩ | rfl⟩
      · obtain ⟨v, h2, h3⟩ := ia.get h1
        exact ⟨v, start_get (by rw [List.getElem?_append_left (List.getElem?_eq_some_iff.mp h2).1]; exact h2), h3⟩
      · rw [hd, at_l]; exact hs
      · obtain ⟨v, h2, h3⟩ := ib.get h1
        refine ⟨v, start_get ?_, h3⟩
        rw [hd, List.getElem?_append_right (by omega), show as.length + 1 + j - as.length = j + 1 from by omega]
        exact h2
      · trivial
    own := fun i s a h o => by
      obtain ⟨_, rfl⟩ := nope h o
      exact ⟨hb, by unfold restF; rw [if_pos rfl]⟩
    sep := fun i j s t a n h1 h2 o1 o2 => n ((nope h1 o1).1.trans (nope h2 o2).1.symm)
    pin := fun p hp => by
      rw [List.mem_singleton.mp hp]
      refine ⟨at_l, .ln kvs, ?_, rfl⟩
      show (GL.startL N.length kvs ds es)[as.length]? = _
      unfold GL.startL
      rw [List.getElem?_append_right (by rw [List.length_map]; omega), List.length_map, hd, Nat.sub_self]
      rfl }
theorem EnvOk.toGrowL {B' H' : Hp} {j : Nat} {l : Addr} {kvs' : List (NKey × D)} (e : Same B H) (E : EnvOk K [(j, l)] B (restF B H (some l)) B' H' env σ) (hr : lnAt env j = some kvs') : GrowR l B H B' H' ∧ SlotOk K B' H' (.ln kvs') (some (some (.ref l))) := by
  obtain ⟨p1, s, p2, _⟩ := E.pin (j, l) (List.mem_singleton.mpr rfl)
  dsimp only at p1 p2
  unfold lnAt at hr
  rw [p2] at hr
  cases s <;> cases hr
  have sl := E.at_ j _ p2
  rw [p1] at sl
  refine ⟨⟨E.b0, fun a o n h => ?_, E.bh, fun a o n h q => (E.fr a o (restF_of (fun z => n (Option.some.inj z)) q h)).2, (E.own j _ l p2 ⟨rfl, p1⟩).1⟩, sl⟩
  cases q : B a with
  | none => exact (E.fr a o (restF_of (fun z => n (Option.some.inj z)) q h)).1
  | some u => rw [e _ _ q] at h; cases h; exact E.bh _ _ (E.b0 _ _ q)
end
section
variable {Pr : Program} {w : World} {K : PySem.W.Frag} {mg : Str → Option Value} {base : Heap} {x qual : Str} {st : Stmt} {f : Addr} {fd : FuncData} {N ps : List Str} {k : Nat} {fb : SemS}
theorem fnOk_L (hF : Fun K x qual st f fd) (S : FnScope N ps (defScope st)) (hn : ps.length ≤ N.length) (j n : Nat) (hp : ps.length = j + 1 + n)
    (hb : ∀ (cdv : Value) (A : Around) (outer : List Env) (s : Shared) (H : Hp) (E : XK), Room k (A.deeper (PyProof.Rows.envOfC qual (defScope st) s.heap.objs.size f cdv)) → ∃ t, GSs (bodyX Pr w K mg base N qual st f cdv A outer s H E) (defBody st) t fb) :
    FnOk Pr w K mg base CX0 (k + 1) f fd ps (spL K j n (runL N.length j fb)) := by
  refine Fun.ok hF S (fun vs H Q E ⟨_, _, _, as, bs, _, _, _, _, h, h', h'', _⟩ => by rw [h, hp, List.length_append, List.length_cons, h', h'']; omega) fun cdv A outer s H vs Q E hr ⟨B, l, kvs, as, bs, ds, es, d, kvs', hv, hl, hl2, e, bl, hs, ia, ib, hf, q⟩ => ?_
  subst hv
  obtain ⟨t, gt⟩ := hb cdv A outer s H E hr
  refine ⟨t, gt.ps, ?_⟩
  obtain ⟨r, h1, h2⟩ := Option.bind_eq_some_iff.mp hf
  have st0 := EnvOk.startL (N := N) e bl hs ia ib (by omega)
  rw [hl] at st0
  refine gt.gs [(j, l)] B _ B H _ _ r st0 h1 _ ?_
  cases r with
  | nx e1 =>
    obtain ⟨z, h3, h4⟩ := Option.map_eq_some_iff.mp h2
    cases h4
    exact fun σ' B' H' E' => q _ B' H' (E'.toGrowL e h3).1 (E'.toGrowL e h3).2 .non
  | rt d1 e1 =>
    obtain ⟨z, h3, h4⟩ := Option.map_eq_some_iff.mp h2
    cases h4
    exact fun v σ' B' H' E' iv => q v B' H' (E'.toGrowL e h3).1 (E'.toGrowL e h3).2 iv
  | bk e1 => cases h2
  | ct e1 => cases h2
end
abbrev SemP := LEnv → Option ((List D × List D) × LEnv)
def Gal (K : PySem.W.Frag) (ta : TA) (i : Nat) (f : SemP) : Prop := ∀ (P : List (Nat × Addr)) (B0 F B H : Hp) (env : LEnv) (σ : L2.St) (ds es : List D) (env' : LEnv), EnvOk K P B0 F B H env σ → f env = some ((ds, es), env') →
  ∀ Q : List V → Hp → Prop, (∀ l as bs B' H', EnvOk K P B0 F B' H' env' σ → Same B B' → σ[i]? = some (some (.ref l)) → IsAll K B' as ds → IsAll K B' bs es → Q (as ++ .ref l :: bs) H') → ta σ H Q
structure GAL (X : Cx) (es : List Expr) (ta : TA) (i : Nat) (f : SemP) : Prop where
  pa : PA X es ta
  ga : Gal X.K ta i f
def pHere (i : Nat) (r : SemL) : SemP := fun env => (dnAt env i).bind fun _ => (r env).map fun q => (([], q.1), q.2)
def pCons (a : Sem) (r : SemP) : SemP := fun env => (a env).bind fun p => (r p.2).map fun q => ((p.1 :: q.1.1, q.1.2), q.2)
def fCallL (i j n : Nat) (fn : List (NKey × D) → List D → List D → Option (D × List (NKey × D))) (r : SemP) : Sem := fun env => (r env).bind fun q => (dnAt q.2 i).bind fun kvs => if q.1.1.length = j ∧ q.1.2.length = n then (fn kvs q.1.1 q.1.2).map fun z => (z.1, dnSet q.2 i z.2) else none
section
variable {X : Cx}
theorem gal_here {e : Expr} {es : List Expr} {i : Nat} {t : TA} {r : SemL} (h : PE X e (tVar i)) (h' : GA X es t r) (hs : starEach (e :: es) X.env = (false, eval e X.env) :: starEach es X.env := by rfl) : GAL X (e :: es) (tCons (tVar i) t) i (pHere i r) := ⟨pa_cons h h'.pa hs, fun P B0 F B H env σ ds es env' E hf Q q => by
  obtain ⟨kvs, h1, h2⟩ := Option.bind_eq_some_iff.mp hf
  obtain ⟨⟨es1, e1⟩, h3, h4⟩ := Option.map_eq_some_iff.mp h2
  cases h4
  obtain ⟨_, l, _, _, _, k1, _⟩ := dn_slot E h1
  exact ⟨_, k1, h'.ga P B0 F B H env σ es1 _ E h3 _ fun vs B' H' E' s ia => q l [] vs B' H' E' s k1 .nil ia⟩⟩
theorem gal_cons {e : Expr} {es : List Expr} {i : Nat} {te : TE} {t : TA} {f : Sem} {r : SemP} (h : GE X e te f) (h' : GAL X es t i r) (hs : starEach (e :: es) X.env = (false, eval e X.env) :: starEach es X.env := by rfl) : GAL X (e :: es) (tCons te t) i (pCons f r) := ⟨pa_cons h.pe h'.pa hs, fun P B0 F B H env σ ds es env' E hf Q q => by
  obtain ⟨⟨x, e1⟩, h1, h2⟩ := Option.bind_eq_some_iff.mp hf
  obtain ⟨⟨⟨ds1, es1⟩, e2⟩, h3, h4⟩ := Option.map_eq_some_iff.mp h2
  cases h4
  refine h.ge P B0 F B H env σ x e1 E h1 _ fun v B1 H1 E1 s1 i1 => ?_
  exact h'.ga P B0 F B1 H1 e1 σ ds1 _ _ E1 h3 _ fun l as bs B2 H2 E2 s2 hl ia ib => q l (v :: as) bs B2 H2 E2 (s1.trans s2) hl (.cons (i1.up s2) ia) ib⟩
theorem Ge.callL {K : PySem.W.Frag} {i j n : Nat} {fn : List (NKey × D) → List D → List D → Option (D × List (NKey × D))} {E : XK} {t : TA} {r : SemP} (h : Gal K t i r) : Ge K (tCall (spL K j n fn) [] E t) (fCallL i j n fn r) := fun P B0 F B H env σ d env' E hf Q q => by
  obtain ⟨⟨⟨ds, es⟩, e1⟩, h1, h2⟩ := Option.bind_eq_some_iff.mp hf
  obtain ⟨kvs, h3, h4⟩ := Option.bind_eq_some_iff.mp h2
  split at h4
  case isFalse => cases h4
  rename_i hn
  obtain ⟨⟨d', kvs'⟩, h5, h6⟩ := Option.map_eq_some_iff.mp h4
  cases h6
  refine h P B0 F B H env σ ds es e1 E h1 _ fun l as bs B1 H1 E1 s1 hl ia ib => ?_
  show spL K j n fn ((as ++ V.ref l :: bs) ++ []) H1 Q _
  rw [List.append_nil]
  obtain ⟨sl, l', ws, e, hs, k1, k2, k3, ow⟩ := dn_slot E1 h3
  rw [hl] at k1
  cases k1
  refine ⟨B1, _, kvs, as, bs, ds, es, _, kvs', rfl, by rw [ia.len]; exact hn.1, by rw [ib.len]; exact hn.2, E1.bh, (E1.own i _ _ e ow).1, ⟨_, ws, rfl, k2, k3⟩, ia, ib, h5, fun v B2 H2 g so iv => q v B2 H2 ?_ (s1.trans g.b) iv⟩
  unfold dnSet
  rw [e]
  rcases hs with rfl | rfl
  · exact E1.growS e ow g (t := .dn kvs') so rfl (fun z => by cases z)
  · exact E1.growS e ow g (t := .ln kvs') so rfl (fun _ => rfl)
theorem ge_callL {k i j n : Nat} {f : Addr} {fd : FuncData} {ps : List Str} {x : Str} {p pos : Pos} {e : Expr} {es : List Expr} {t : TA} {r : SemP} {fn : List (NKey × D) → List D → List D → Option (D × List (NKey × D))} (F : FnOk X.prog X.w X.K X.mg X.base CX0 k f fd ps (spL X.K j n fn)) (hr : Room k X.A) (hm : X.mg x = some (.ref f)) (hk : PySem.W.keepIn X.K (.ref f) = true) (hb : Binds X.K fd ps []) (ha : GAL X (e :: es) t i r) (hg : Gl X x := by rfl)
    (h1 : (x == Str.ofString "__debug__") = false := by rfl) (h2 : starEach (e :: es) X.env = (false, eval e X.env) :: starEach es X.env := by rfl) (h3 : (backTo pos (starEach es X.env)).any (·.1) = false := by rfl) :
    GE X (.Call (.Name x p) (e :: es) [] pos) (tCall (spL X.K j n fn) [] E0 t) (fCallL i j n fn r) := ⟨pe_call F hr hg hm hk hb .nil pass0 ha.pa h1 h2 h3, Ge.callL ha.ga⟩
end
end GL
/-! enumerate of a list or a tuple, the pairs known. -/
namespace PySem
open Sem (wp)
open AutoSeq1 (wpAny_loadPart')
set_option maxHeartbeats 1000000 in
theorem meets_enumerate_newB1 {v : Value} {o : Obj} {H : Heap → Prop} (B : Begins v o H) :
    Meets (Builtin.«enumerate.__new__» ⟨[.type "enumerate", v], []⟩) (fun _ R s => H s.heap ∧
      R (.ok (.ret (.ref (s.heap.push o).objs.size))) { s with heap := (s.heap.push o).push { cls := .type "enumerate", data := .fields #[.none, .bool false, .ref s.heap.objs.size, rawInt 0, .none, .none] } }) :=
  .of_wp fun prog w A R s h => by
    obtain ⟨hp, g, d, tk, os⟩ := s; obtain ⟨h1, h⟩ := h
    have hsub := sub_enumerate
    have q1 : ∀ {A' : Around} {E : Value → Shared → Prop} {Q : Value → Shared → Prop}, Q (.ref hp.objs.size) ⟨hp.push o, g, d, tk, os⟩ → wpAny (model prog w) A' (pyIter v) Q E ⟨hp, g, d, tk, os⟩ :=
      fun q => B.iter prog w _ _ ⟨hp, g, d, tk, os⟩ _ h1 q
    wp_walk using q1
    refine wpAny_stack_any fun st => wpAny_pure ?_
    split
    · rename_i c _ _ _ _ _
      cases (c == Value.type "enumerate")
      · wp_walk using q1
        exact ⟨_, rfl, h⟩
      · wp_walk using q1
        exact ⟨_, rfl, h⟩
    · wp_walk using q1
      exact ⟨_, rfl, h⟩
section
variable {prog : Program} {w : World} {A : Around} {E : Value → Shared → Prop} {s : Shared}
theorem enum_end_any {e it : Addr} {i : Int} {old : Value} {Q : Option Value → Shared → Prop} (he : IsEnum s.heap e it i old)
    (hd : ∀ (Q : Value → Shared → Prop) (E : Value → Shared → Prop), (∀ h' e, Heap.ExtBut it s.heap h' → (∃ o, h'.get? e = some o ∧ o.cls = .type "StopIteration") → E (.ref e) { s with heap := h' }) → wpAny (model prog w) A.in1 (Builtin.SmallTypes.nextOf (.ref it)) Q E s)
    (hQ : ∀ h', Heap.ExtBut it s.heap h' → Q none { s with heap := h' }) : wpAny (model prog w) A (pyNext (.ref e)) Q E s := by
  have hT : s.TypeIs (.ref e) "enumerate" := ⟨_, he, rfl⟩
  unfold pyNext
  refine wpAny_bind (wpAny_attempt (wpAny_callSpecial?_slot (name := Str.ofString "__next__") hT F.slot_enumerate_next
    (wpAny_call_entry F.slot_enumerate_next hT F.entry_enumerate_next ?_ (F.args_enumerate_next_1 _))))
  show wpAny _ _ (field (.ref e) 2 >>= _) _ _ _
  refine wpAny_bind (wpAny_field he rfl (x := .ref it) rfl ?_)
  refine wpAny_bind (hd _ _ fun h' x he' hx' => ?_)
  obtain ⟨o, ho, hc⟩ := hx'
  refine wpAny_bind (wpAny_isInstance (T := "StopIteration") (b := true) ⟨o, ho, hc⟩ isSubtype_stop ?_)
  exact wpAny_pure (hQ _ he')
theorem enum_begins1 {v : Value} {o : Obj} {H : Heap → Prop} {Q : Value → Shared → Prop} (B : Begins v o H) (h1 : H s.heap)
    (h : ∀ h', IsEnum h' (s.heap.objs.size + 1) s.heap.objs.size 0 .none → h'.get? s.heap.objs.size = some o → h'.objs.size = s.heap.objs.size + 2 →
      (∀ b o, s.heap.get? b = some o → h'.get? b = some o) → Q (.ref (s.heap.objs.size + 1)) { s with heap := h' }) :
    wpAny (model prog w) A (call (.type "enumerate") [v]) Q E s := by
  refine callType_new F.called_enumerate (by decide) (F.typeCall_enumerate_1 _) (F.newCall_enumerate_1 _) (fun obj => F.args_object_init_2 obj _) F.entry_enumerate_new
    (meets_enumerate_newB1 B) ⟨h1, ?_⟩
  have hz : (s.heap.push o).objs.size = s.heap.objs.size + 1 := Heap.size_push ..
  show _ ∧ _
  rw [hz]
  have he : IsEnum ((s.heap.push o).push { cls := .type "enumerate", data := .fields #[.none, .bool false, .ref s.heap.objs.size, rawInt 0, .none, .none] }) (s.heap.objs.size + 1) s.heap.objs.size 0 .none := by
    have := Heap.get?_push_size (s.heap.push o) (o := { cls := .type "enumerate", data := .fields #[.none, .bool false, .ref s.heap.objs.size, rawInt 0, .none, .none] }) rfl
    rw [hz] at this; exact this
  refine ⟨⟨_, he, rfl⟩, h _ he (Heap.get?_push_of_some _ (Heap.get?_push_size _ B.free)) (by rw [Heap.size_push, hz]) fun b o x => Heap.get?_push_of_some _ (Heap.get?_push_of_some _ x)⟩
end
end PySem
namespace GL
open PySem L2 PyProof.Rows
/-- what a sequence is at a -/
abbrev SqP := Hp → Addr → List V → Prop
def IteG (S : SqP) (a : Addr) : It :=
  ⟨fun i H => ∃ (xs : List V) (x : V), S H a xs ∧ xs[i]? = some x, fun i H v H' => ∃ T x o, v = .ref T ∧ H T = none ∧ TupObj o ∧ H' = upd H T (mkTup [.int (i : Nat), x] o) ∧ ∀ xs, S H a xs → xs[i]? = some x, fun i H => ∃ xs : List V, S H a xs ∧ xs.length ≤ i⟩
/-- a list's and a tuple's iterators -/
structure SqIt (P : Program) (w : World) (K : PySem.W.Frag) (S : SqP) where
  IsIt : Heap → Addr → Addr → Nat → Prop
  IsSq : Heap → Addr → Array Value → Prop
  cls : String
  begins : ∀ (t : Addr) (items : Array Value), Begins (.ref t) { cls := .type cls, data := .fields #[.ref t, .int 0 0] } fun h => IsSq h t items
  first : ∀ (h : Heap) (it t : Addr), h.get? it = some { cls := .type cls, data := .fields #[.ref t, .int 0 0] } → IsIt h it t 0
  draws : ∀ (A : Around), A.handled = none → ∀ (it t : Addr), t ≠ it → ∀ items : Array Value, Draws P w A it [it, t] items.size (fun i v => items[i]? = some v) (fun i h => IsIt h it t i ∧ IsSq h t items)
  fin : ∀ (A : Around), A.handled = none → ∀ (E : Value → Shared → Prop) (Q : Value → Shared → Prop) (s : Shared) (it t : Addr) (i : Nat) (items : Array Value), IsIt s.heap it t i → IsSq s.heap t items → items.size ≤ i →
    (∀ h' e, Heap.ExtBut it s.heap h' → (∃ o, h'.get? e = some o ∧ o.cls = .type "StopIteration") → E (.ref e) { s with heap := h' }) → wpAny (model P w) A (Builtin.SmallTypes.nextOf (.ref it)) Q E s
  lt : ∀ h t items, IsSq h t items → t < h.objs.size
  obj : ∀ h it t i, IsIt h it t i → ∃ o, h.get? it = some o ∧ ∀ v, o.data ≠ .cell v
  keep : ∀ (h h' : Heap) it t i, IsIt h it t i → (∀ o, h.get? it = some o → h'.get? it = some o) → IsIt h' it t i
  ofS : ∀ (X : Cx), X.prog = P → X.w = w → X.K = K → ∀ (pins : List (Addr × Obj)) (σ : L2.St) (H : Hp) (s : Shared) (a : Addr) (xs : List V), Inv X pins σ H s → S H a xs → ∃ its : List Value, Vals xs its ∧ IsSq s.heap a its.toArray ∧ xs.length ≤ sizeLine
  inj : ∀ (X : Cx), X.prog = P → X.w = w → X.K = K → ∀ (pins : List (Addr × Obj)) (σ : L2.St) (H : Hp) (s : Shared) (a : Addr) (xs ys : List V), Inv X pins σ H s → S H a xs → S H a ys → xs = ys
theorem turn_enumG {P : Program} {w : World} {K : PySem.W.Frag} {S : SqP} (Z : SqIt P w K S) {elts : List Expr} {kk : Nat} {tpos : Pos} (a e it : Addr) :
    Turn P w K (.Tuple elts kk tpos) (IteG S a) [e, it] e (fun i h => (∃ old, IsEnum h e it ((i : Nat) : Int) old) ∧ Z.IsIt h it a i ∧ e ≠ it ∧ a ≠ it ∧ a ≠ e) where
  mem := by simp
  obj := fun i h st b hb => by
    obtain ⟨⟨old, he⟩, hi, _⟩ := st
    have e' : b = e ∨ b = it := by simpa using hb
    rcases e' with z | z
    · rw [z]; exact ⟨_, he, fun v q => nomatch q⟩
    · rw [z]; exact Z.obj _ _ _ _ hi
  keep := fun i h h' st k => let ⟨⟨old, he⟩, hi, hne⟩ := st; ⟨⟨old, k e (by simp) _ he⟩, Z.keep _ _ _ _ _ hi fun o q => k it (by simp) o q, hne⟩
  item := by
    intro X hP hw hK hc i pins s σ H E I hf st hg
    obtain ⟨⟨old, he⟩, hit, hne, hai, hae⟩ := st
    obtain ⟨xs, x, hq, hx⟩ := hg
    obtain ⟨its, rv, p, hz⟩ := Z.ofS X hP hw hK pins σ H s a xs I hq
    obtain ⟨u, hu, ru⟩ := rv.get hx
    have hel : e < s.heap.objs.size := Heap.lt_size he
    have hil : it < s.heap.objs.size := by obtain ⟨_, q, _⟩ := Z.obj _ _ _ _ hit; exact Heap.lt_size q
    have hlt : i < its.toArray.size := by
      rw [List.size_toArray]
      exact (List.getElem?_eq_some_iff.mp hu).1
    subst hP hw hK
    refine wpAny_pyNext_enum_itemD (Z.draws _ (show X.A.in1.handled = none from I.ok.hd hc) it a hai its.toArray) he ⟨hit, p⟩ hlt hne (by simp only [List.mem_cons, List.not_mem_nil, or_false, not_or]; exact ⟨hne, fun z => hae z.symm⟩) fun x' h' tk hP ho hit' hT hsz hk => ?_
    have ex : x' = u := by
      have : its.toArray[i]? = some x' := hP
      rw [List.getElem?_toArray, hu] at this
      exact (Option.some.inj this).symm
    subst ex
    refine ⟨_, rfl, wpAny_letOwnedTupleGo_enum (s := { s with heap := h', toks := tk + 1 }) ho fun h'' he' sb => ?_⟩
    have hT2 : h''.get? s.heap.objs.size = some { cls := .type "tuple", data := .seq #[.int i tk, x'] } := (sb.2 _ (Nat.ne_of_gt hel)).trans hT
    have base : ∀ H', ObjOk X.prog X.w H' h'' s.heap.objs.size (.tup [.int (i : Nat), x]) := fun H' =>
      ⟨by show 2 ≤ sizeLine; decide, [.int i tk, x'], .cons ⟨_, rfl⟩ (.cons ru .nil), ⟨_, hT2, rfl, _, rfl⟩⟩
    have new : ObjOk X.prog X.w (upd H s.heap.objs.size (mkTup [.int (i : Nat), x] { cls := .type "tuple", data := .seq #[.int i tk, x'] })) h'' s.heap.objs.size (mkTup [.int (i : Nat), x] { cls := .type "tuple", data := .seq #[.int i tk, x'] }) := by
      cases hn : hasN [V.int (i : Nat), x] with
      | true => rw [mkTup_yes hn]; exact ⟨hT2, base _⟩
      | false => rw [mkTup_no hn]; exact base _
    have I1 := I.turnedNew (t' := tk + 1) (ch := [e, it]) (fun b ob hb q => (sb.2 b (fun z => hb (by simp [z]))).trans (hk b ob (fun z => hb (by simp [z])) (fun z => hb (by simp [z])) q)) hf (Nat.le_refl _) new
    refine ⟨.ref s.heap.objs.size, _, I1, rfl, ⟨_, x, _, rfl, I.hok.fresh (Nat.le_refl _), ⟨rfl, rfl⟩, rfl, fun ys hy => by rw [Z.inj X rfl rfl rfl pins σ H s a _ _ I hy hq]; exact hx⟩, ⟨⟨x', ?_⟩, Z.keep _ _ _ _ _ hit'.1 fun o q => (sb.2 it (Ne.symm hne)).trans q, hne, hai, hae⟩, fun b hb => ?_⟩
    · have e1 : ((i + 1 : Nat) : Int) = (i : Int) + 1 := by omega
      rw [e1]; exact he'
    · have hb' : b < s.heap.objs.size := by
        have e' : b = e ∨ b = it := by simpa using hb
        rcases e' with z | z
        · rw [z]; exact hel
        · rw [z]; exact hil
      rw [upd_ne (Nat.ne_of_lt hb')]
      exact (hf b hb).1
  done := by
    intro X hP hw hK hc i pins s σ H E I hf st hg
    obtain ⟨⟨old, he⟩, hit, hne, hai, hae⟩ := st
    obtain ⟨xs, hq, hx⟩ := hg
    obtain ⟨its, rv, p, hz⟩ := Z.ofS X hP hw hK pins σ H s a xs I hq
    obtain ⟨f0, f1, f2, f3, f4, f5⟩ := hf it (by simp)
    have hl := rv.length
    subst hP hw hK
    exact enum_end_any he (fun Q E hE => Z.fin _ (show X.A.in1.handled = none from I.ok.hd hc) E Q s it a i its.toArray hit p (by rw [List.size_toArray]; omega) hE) fun h' eb => ⟨rfl, I.turned (t' := s.toks) (fun b o hb q => eb b o hb q) f0 f1 f3 f4 f5⟩
  self := fun A i s Q E st h => let ⟨⟨_, he⟩, _⟩ := st; wpAny_pyIter_enum he h
def sqL (P : Program) (w : World) (K : PySem.W.Frag) : SqIt P w K (SqL K) where
  IsIt := fun h it t i => h.IsListIter it t i
  IsSq := fun h t items => h.IsList t items
  cls := "list_iterator"
  begins := fun t items => begins_list t items
  first := fun h it t e => ⟨_, e, rfl, rfl⟩
  draws := fun A hh it t hne items => Draws.list hh it t hne items
  fin := fun A hh E Q s it t i items h1 h2 hle hE => wpAny_nextOf_list_end hh h1 h2 (Array.getElem?_eq_none hle) hE
  lt := fun h t items x => by obtain ⟨o, e, _⟩ := x; exact Heap.lt_size e
  obj := fun h it t i x => by obtain ⟨o, ho, hc, hd⟩ := x; exact ⟨o, ho, fun v q => by rw [hd] at q; cases q⟩
  keep := fun h h' it t i x k => x.at k
  ofS := fun X hP hw hK pins σ H s a xs I h => by subst hP hw hK; obtain ⟨its, rv, p, hz⟩ := I.list h; exact ⟨its, rv, p.isList, hz⟩
  inj := fun X hP hw hK pins σ H s a xs ys I h h' => by subst hP hw hK; exact I.list_inj h h'
def sqT (P : Program) (w : World) (K : PySem.W.Frag) : SqIt P w K (SqT K) where
  IsIt := fun h it t i => h.IsTupleIter it t i
  IsSq := fun h t items => h.IsTuple t items
  cls := "tuple_iterator"
  begins := fun t items => begins_tuple t items
  first := fun h it t e => ⟨_, e, rfl, rfl⟩
  draws := fun A hh it t hne items => Draws.tuple hh it t hne items
  fin := fun A hh E Q s it t i items h1 h2 hle hE => wpAny_nextOf_tuple_end hh h1 h2 (Array.getElem?_eq_none hle) hE
  lt := fun h t items x => by obtain ⟨o, e, _⟩ := x; exact Heap.lt_size e
  obj := fun h it t i x => by obtain ⟨o, ho, hc, hd⟩ := x; exact ⟨o, ho, fun v q => by rw [hd] at q; cases q⟩
  keep := fun h h' it t i x k => x.at k
  ofS := fun X hP hw hK pins σ H s a xs I h => by subst hP hw hK; obtain ⟨its, rv, p, hz⟩ := I.tuple h; exact ⟨its, rv, p, hz⟩
  inj := fun X hP hw hK pins σ H s a xs ys I h h' => by subst hP hw hK; exact I.tuple_inj h h'
def iEnumG (S : SqP) (te : TE) : TI := fun σ H R => te σ H fun v H1 => ∃ a xs, v = .ref a ∧ S H1 a xs ∧ R (IteG S a) H1
theorem boot_enum : bootBuiltins "enumerate" = some (.type "enumerate") := by decide +kernel
section
variable {X : Cx}
theorem pi_enumG {S : SqP} (Z : SqIt X.prog X.w X.K S) {e : Expr} {te : TE} {p pos tpos : Pos} {elts : List Expr} {kk : Nat} (hg : Gl X "enumerate") (hm : X.mg "enumerate" = none) (he : PE X e te) (hs : starEach [e] X.env = (false, eval e X.env) :: starEach [] X.env) (hs1 : starEach [e] X.env = [(false, eval e X.env)]) :
    PI X (.Tuple elts kk tpos) (.Call (.Name "enumerate" p) [e] [] pos) (iEnumG S te) := by
  refine ⟨fun pins s σ H R I h => ?_⟩
  refine Call_ (ld_blt I hg hm boot_enum (PyProof.Rows.callWith_type1 ?_ hs1 rfl))
  rw [hs]
  refine Calls.spliced_cons (thn (he.run pins s σ H _ I h) fun u s1 ⟨x, H1, I1, rx, a, xs, ex, hq, q⟩ => ?_)
  subst ex
  cases rx
  refine Calls.spliced_nil ?_
  obtain ⟨its, rv, p', hz⟩ := Z.ofS X rfl rfl rfl pins σ H1 s1 a xs I1 hq
  have hal : a < s1.heap.objs.size := Z.lt _ _ _ p'
  refine enum_begins1 (Z.begins a its.toArray) p' fun h' he' hit hsz hk => wpAny_pyIter_enum he' ?_
  have I2 : Inv X pins σ H1 { s1 with heap := h' } := I1.kept (t' := s1.toks) hk
  refine ⟨s1.heap.objs.size + 1, [s1.heap.objs.size + 1, s1.heap.objs.size], _, _, H1, rfl, I2, turn_enumG Z a (s1.heap.objs.size + 1) s1.heap.objs.size, ⟨⟨.none, he'⟩, Z.first _ _ _ hit, Nat.succ_ne_self _, Nat.ne_of_lt hal, Nat.ne_of_lt (Nat.lt_succ_of_lt hal)⟩, fun b hb => ?_, q⟩
  have e' : b = s1.heap.objs.size + 1 ∨ b = s1.heap.objs.size := by simpa using hb
  have hle : s1.heap.objs.size ≤ b := by
    rcases e' with z | z
    · rw [z]; exact Nat.le_add_right _ _
    · rw [z]; exact Nat.le_refl _
  exact I1.fpOk hle (I1.hok.fresh hle)
def enumD (ds : List D) : List D := (List.range ds.length).zipWith (fun i d => .tuple [.int (i : Nat), d]) ds
theorem enumD_get {ds : List D} {i : Nat} {e : D} (h : (enumD ds)[i]? = some e) : ∃ d, ds[i]? = some d ∧ e = .tuple [.int (i : Nat), d] := by
  unfold enumD at h
  rw [List.getElem?_zipWith] at h
  cases h1 : ds[i]? with
  | none => rw [h1] at h; cases hh : (List.range ds.length)[i]? <;> rw [hh] at h <;> cases h
  | some d =>
    rw [h1, List.getElem?_range (List.getElem?_eq_some_iff.mp h1).1] at h
    cases h
    exact ⟨d, rfl, rfl⟩
theorem enumD_len (ds : List D) : (enumD ds).length = ds.length := by simp [enumD]
theorem it_enum {K : PySem.W.Frag} {S : SqP} {a : Addr} {vs : List V} {ds : List D} {B : Hp} (hS : ∀ B' H', Same B B' → Same B' H' → S H' a vs) (hl : IsAll K B vs ds) : ItOk K (IteG S a) (enumD ds) B where
  go := fun i B' H' e1 e2 hi => ⟨vs, vs[i]'(by rw [enumD_len] at hi; rw [hl.len]; exact hi), hS B' H' e1 e2, List.getElem?_eq_getElem _⟩
  stop := fun i B' H' e1 e2 hi => ⟨vs, hS B' H' e1 e2, by rw [enumD_len] at hi; rw [hl.len]; exact hi⟩
  yld := fun i B' H' H2 x d e1 e2 hd y => by
    obtain ⟨T, x1, o, ex, hT, ho, eH, y2⟩ := y
    subst ex eH
    obtain ⟨p, h1, h2⟩ := enumD_get hd
    subst h2
    obtain ⟨v, g1, g2⟩ := hl.get h1
    have z1 := y2 vs (hS B' H' e1 e2)
    rw [g1] at z1
    cases z1
    have g := Grow.new (o := mkTup [.int (i : Nat), x1] o) e2 hT
    exact ⟨_, g, .tup (.new ho) (.cons (.int _) (.cons ((g2.up e1).up g.b) .nil))⟩
def fEnumT (a : Sem) : SemL := fun env => (a env).bind fun p => match p.1 with
  | .tuple ds => some (enumD ds, p.2)
  | _ => none
def fEnumL (a : Sem) : SemL := fun env => (a env).bind fun p => match p.1 with
  | .list ds => some (enumD ds, p.2)
  | _ => none
theorem gi_enumT {e : Expr} {te : TE} {fa : Sem} {p pos tpos : Pos} {elts : List Expr} {kk : Nat} (hm : X.mg "enumerate" = none) (he : GE X e te fa) (hg : Gl X "enumerate" := by rfl) (hs : starEach [e] X.env = (false, eval e X.env) :: starEach [] X.env := by rfl) (hs1 : starEach [e] X.env = [(false, eval e X.env)] := by rfl) :
    GI X (.Tuple elts kk tpos) (.Call (.Name "enumerate" p) [e] [] pos) (iEnumG (SqT X.K) te) (fEnumT fa) := ⟨pi_enumG (sqT X.prog X.w X.K) hg hm he.pe hs hs1, fun P B0 F B H env σ ds env' E hf R q => by
  obtain ⟨⟨d, e1⟩, h1, h2⟩ := Option.bind_eq_some_iff.mp hf
  cases d with
  | tuple es =>
    cases h2
    refine he.ge P B0 F B H env σ _ _ E h1 _ fun v B' H' E' s iv => ?_
    cases iv with
    | tup ha hl => exact ⟨_, _, rfl, ha.sq E'.bh, q _ B' H' E' s (it_enum (fun B2 H2 e1 e2 => (ha.up e1).sq e2) hl)⟩
  | _ => cases h2⟩
theorem gi_enumL {e : Expr} {te : TE} {fa : Sem} {p pos tpos : Pos} {elts : List Expr} {kk : Nat} (hm : X.mg "enumerate" = none) (he : GE X e te fa) (hg : Gl X "enumerate" := by rfl) (hs : starEach [e] X.env = (false, eval e X.env) :: starEach [] X.env := by rfl) (hs1 : starEach [e] X.env = [(false, eval e X.env)] := by rfl) :
    GI X (.Tuple elts kk tpos) (.Call (.Name "enumerate" p) [e] [] pos) (iEnumG (SqL X.K) te) (fEnumL fa) := ⟨pi_enumG (sqL X.prog X.w X.K) hg hm he.pe hs hs1, fun P B0 F B H env σ ds env' E hf R q => by
  obtain ⟨⟨d, e1⟩, h1, h2⟩ := Option.bind_eq_some_iff.mp hf
  cases d with
  | list es =>
    cases h2
    refine he.ge P B0 F B H env σ _ _ E h1 _ fun v B' H' E' s iv => ?_
    cases iv with
    | lst ha hl => exact ⟨_, _, rfl, SqL.of (E'.bh _ _ ha), q _ B' H' E' s (it_enum (fun B2 H2 e1 e2 => SqL.of (e2 _ _ (e1 _ _ ha))) hl)⟩
  | _ => cases h2⟩
end
end GL
/-! Small constructs: x[i] = v, x[i], x[j] = a, b; pop(i); slices of what is looked at; x[::-1]; a, b = ..; sequences times numbers. -/
namespace GL
open PySem L2 PyProof.Rows

section
variable {K : PySem.W.Frag} {P : List (Nat × Addr)} {B0 F B H : Hp} {env : LEnv} {σ : L2.St}
/-- x[i] = v -/
def sSetI (n : Nat) (fi fv : Sem) : SemS := fun env => (fv env).bind fun p => match p.2[n]? with
  | some (.ol _) => (fi p.2).bind fun q => match q.2[n]?, q.1 with
    | some (.ol ds), .int k => (ixN ds.length k).map fun j => .nx (q.2.set n (.ol (ds.set j p.1)))
    | _, _ => none
  | _ => none
theorem Gs.setI {n : Nat} {ti tv : TE} {fi fv : Sem} (hi : Ge K ti fi) (hv : Ge K tv fv) : Gs K (tAsg tv (gSub (tVar n) ti rSetL)) (sSetI n fi fv) := fun P B0 F B H env σ r E hf Z q => by
  obtain ⟨⟨x, e1⟩, h1, hf⟩ := Option.bind_eq_some_iff.mp hf
  dsimp only at hf
  split at hf
  case h_2 => cases hf
  rename_i ds0 g0
  obtain ⟨⟨y, e2⟩, h2, hf⟩ := Option.bind_eq_some_iff.mp hf
  dsimp only at hf
  split at hf
  case h_2 => cases hf
  rename_i ds k g1
  obtain ⟨j, h3, h4⟩ := Option.map_eq_some_iff.mp hf
  cases h4
  refine hv P B0 F B H env σ x e1 E h1 _ fun v B' H' E' s iv => ?_
  obtain ⟨l, vs0, k1, _, _, _⟩ := E'.ol_at g0
  refine ⟨_, k1, hi P B0 F B' H' e1 σ _ e2 E' h2 _ fun u B2 H2 E2 s2 iu => ?_⟩
  cases iu
  obtain ⟨l', vs, m1, m2, ia, ow⟩ := E2.ol_at g1
  rw [k1] at m1
  cases m1
  refine ⟨l, vs, k, j, rfl, rfl, m2, by rw [ia.len]; exact h3, ?_⟩
  exact q σ B2 _ (E2.mut g1 ow rfl ⟨l, _, rfl, upd_same, ia.set j (iv.up s2)⟩ fun z => by first | cases z | exact z)
/-- x[i] = a, x[j] = b, both values first -/
def setO2 (n : Nat) (fi : Sem) (d : D) : LEnv → Option LEnv := fun e => match e[n]? with
  | some (.ol _) => (fi e).bind fun q => match q.2[n]?, q.1 with
    | some (.ol ds), .int k => (ixN ds.length k).map fun j => q.2.set n (.ol (ds.set j d))
    | _, _ => none
  | _ => none
def sSet2 (n : Nat) (fi fj fa fb : Sem) : SemS := fun env => (fa env).bind fun p => (fb p.2).bind fun q => (setO2 n fi p.1 q.2).bind fun e => (setO2 n fj q.1 e).map .nx
theorem setO2_ok {n : Nat} {ti : TE} {fi : Sem} {d : D} {v : V} {e e' : LEnv} (hi : Ge K ti fi) (E : EnvOk K P B0 F B H e σ) (iv : Is K B v d) (h : setO2 n fi d e = some e') (Q : L2.St → Hp → Prop) (q : ∀ B' H', EnvOk K P B0 F B' H' e' σ → Same B B' → Q σ H') : gSub (tVar n) ti rSetL v σ H Q := by
  unfold setO2 at h
  split at h
  case h_2 => cases h
  rename_i ds0 g0
  obtain ⟨⟨y, e2⟩, h2, hf⟩ := Option.bind_eq_some_iff.mp h
  dsimp only at hf
  split at hf
  case h_2 => cases hf
  rename_i ds k g1
  obtain ⟨j, h3, h4⟩ := Option.map_eq_some_iff.mp hf
  cases h4
  obtain ⟨l, vs0, k1, _, _, _⟩ := E.ol_at g0
  refine ⟨_, k1, hi P B0 F B H e σ _ e2 E h2 _ fun u B2 H2 E2 s2 iu => ?_⟩
  cases iu
  obtain ⟨l', vs, m1, m2, ia, ow⟩ := E2.ol_at g1
  rw [k1] at m1
  cases m1
  refine ⟨l, vs, k, j, rfl, rfl, m2, by rw [ia.len]; exact h3, ?_⟩
  exact q B2 _ (E2.mut g1 ow rfl ⟨l, _, rfl, upd_same, ia.set j (iv.up s2)⟩ fun z => by first | cases z | exact z) s2
theorem Gs.set2 {n : Nat} {ti tj ta tb : TE} {fi fj fa fb : Sem} (hi : Ge K ti fi) (hj : Ge K tj fj) (ha : Ge K ta fa) (hb : Ge K tb fb) : Gs K (tAsg (tTupN (tCons ta (tCons tb tNil))) (gTup K 2 (gCons (gSub (tVar n) ti rSetL) (gCons (gSub (tVar n) tj rSetL) gNil)))) (sSet2 n fi fj fa fb) := fun P B0 F B H env σ r E hf Z q => by
  obtain ⟨⟨x, e1⟩, h1, hf⟩ := Option.bind_eq_some_iff.mp hf
  obtain ⟨⟨y, e2⟩, h2, hf⟩ := Option.bind_eq_some_iff.mp hf
  obtain ⟨e3, h3, hf⟩ := Option.bind_eq_some_iff.mp hf
  obtain ⟨e4, h4, h5⟩ := Option.map_eq_some_iff.mp hf
  subst h5
  refine ha P B0 F B H env σ x e1 E h1 _ fun v B1 H1 E1 s1 i1 => ?_
  refine hb P B0 F B1 H1 e1 σ y e2 E1 h2 _ fun w B2 H2 E2 s2 i2 => ⟨by show 2 ≤ sizeLine; decide, fun p o hp ho => ?_⟩
  have g := Grow.new (o := mkTup [v, w] o) E2.bh hp
  have E3 := E2.grow g
  refine ⟨p, [v, w], rfl, TupAt.sq (B := upd B2 p (mkTup [v, w] o)) E3.bh (.new ho), rfl, ?_⟩
  refine ⟨_, _, rfl, setO2_ok hi E3 ((i1.up s2).up g.b) h3 _ fun B4 H4 E4 s4 => ?_⟩
  refine ⟨_, _, rfl, setO2_ok hj E4 ((i2.up g.b).up s4) h4 _ fun B5 H5 E5 s5 => ?_⟩
  exact ⟨rfl, q σ B5 H5 E5⟩
/-- x.pop(i) -/
def fPopAt (n : Nat) (fi : Sem) : Sem := fun env => match env[n]? with
  | some (.ol _) => (fi env).bind fun q => match q.2[n]?, q.1 with
    | some (.ol ds), .int k => if 0 ≤ k ∧ k < 1000000 then (ds[k.toNat]?).map fun d => (d, q.2.set n (.ol (ds.eraseIdx k.toNat))) else none
    | _, _ => none
  | _ => none
theorem IsAll.erase {vs : List V} {ds : List D} (h : IsAll K B vs ds) (i : Nat) : IsAll K B (vs.eraseIdx i) (ds.eraseIdx i) := by
  rw [List.eraseIdx_eq_take_drop_succ, List.eraseIdx_eq_take_drop_succ]
  exact (h.take i).app (h.drop _)
theorem Ge.popAt {n : Nat} {ti : TE} {fi : Sem} (hi : Ge K ti fi) : Ge K (tBM K "list" rPopAt (tVar n) (tCons ti tNil)) (fPopAt n fi) := fun P B0 F B H env σ d env' E hf Q q => by
  unfold fPopAt at hf
  split at hf
  case h_2 => cases hf
  rename_i ds0 g0
  obtain ⟨⟨y, e2⟩, h2, hf⟩ := Option.bind_eq_some_iff.mp hf
  dsimp only at hf
  split at hf
  case h_2 => cases hf
  rename_i ds k g1
  split at hf
  case isFalse => cases hf
  rename_i hz
  obtain ⟨d', h3, h4⟩ := Option.map_eq_some_iff.mp hf
  cases h4
  obtain ⟨l, vs0, k1, k2, _, _⟩ := E.ol_at g0
  refine ⟨_, k1, .inl ⟨rfl, _, SqL.of k2⟩, ?_⟩
  refine hi P B0 F B H env σ _ e2 E h2 _ fun u B2 H2 E2 s2 iu => ?_
  cases iu
  obtain ⟨l', vs, m1, m2, ia, ow⟩ := E2.ol_at g1
  rw [k1] at m1
  cases m1
  obtain ⟨v, n1, n2⟩ := ia.get h3
  have hl := (List.getElem?_eq_some_iff.mp n1).1
  refine ⟨l, vs, k, k.toNat, v, rfl, rfl, m2, by omega, by omega, seqIndex_of hz.1 (by omega), n1, ?_⟩
  exact q v B2 _ (E2.mut g1 ow rfl ⟨l, _, rfl, upd_same, ia.erase _⟩ fun z => by first | cases z | exact z) s2 n2
end
section
variable {X : Cx}
theorem gs_setI {o i value : Expr} {pos pos' : Pos} {n : Nat} {ti tv : TE} {fi fv : Sem} (ho : PE X o (tVar n)) (hi : GE X i ti fi) (hv : GE X value tv fv) (hs : swapsWithSole [.Subscript o i pos'] value pos.line X.env = pure false := by rfl) (hw : swappedStores [.Subscript o i pos'] value X.env = pure none := by rfl)
    (h1 : (assignEach [.Subscript o i pos'] X.env).map (·.2) = [assign (.Subscript o i pos') X.env] := by rfl)
    (ha : ∀ v, assign (.Subscript o i pos') X.env v = (do let ov ← holding [v] (eval o X.env); let iv ← holding [v, ov] (eval i X.env); standAt pos'; holding [v, ov, iv] (setItem ov iv v); release [v, ov, iv] []) := by intro _; rfl) :
    GS X (.Assign [.Subscript o i pos'] value pos) (tAsg tv (gSub (tVar n) ti rSetL)) (sSetI n fi fv) := ⟨ps_asg hv.pe (pg_sub ho hi.pe set_list ha) hs hw h1, Gs.setI hi.ge hv.ge⟩
theorem gs_set2 {o i o2 j a b : Expr} {pos p1 p2 pt pt2 : Pos} {kt k2} {n : Nat} {ti tj ta tb : TE} {fi fj fa fb : Sem} (hc : X.calm = true) (ho : PE X o (tVar n)) (ho2 : PE X o2 (tVar n)) (hi : GE X i ti fi) (hj : GE X j tj fj) (hva : GE X a ta fa) (hvb : GE X b tb fb)
    (hs : swapsWithSole [.Tuple [.Subscript o i p1, .Subscript o2 j p2] kt pt] (.Tuple [a, b] k2 pt2) pos.line X.env = pure false := by rfl) (hw : swappedStores [.Tuple [.Subscript o i p1, .Subscript o2 j p2] kt pt] (.Tuple [a, b] k2 pt2) X.env = pure none := by rfl)
    (h1 : (assignEach [.Tuple [.Subscript o i p1, .Subscript o2 j p2] kt pt] X.env).map (·.2) = [assign (.Tuple [.Subscript o i p1, .Subscript o2 j p2] kt pt) X.env] := by rfl)
    (hst1 : starEach [a, b] X.env = (false, eval a X.env) :: starEach [b] X.env := by rfl) (hst2 : starEach [b] X.env = (false, eval b X.env) :: starEach [] X.env := by rfl)
    (ha : ∀ v, assign (.Subscript o i p1) X.env v = (do let ov ← holding [v] (eval o X.env); let iv ← holding [v, ov] (eval i X.env); standAt p1; holding [v, ov, iv] (setItem ov iv v); release [v, ov, iv] []) := by intro _; rfl)
    (ha2 : ∀ v, assign (.Subscript o2 j p2) X.env v = (do let ov ← holding [v] (eval o2 X.env); let iv ← holding [v, ov] (eval j X.env); standAt p2; holding [v, ov, iv] (setItem ov iv v); release [v, ov, iv] []) := by intro _; rfl)
    (hp1 : (assignEach [.Subscript o i p1, .Subscript o2 j p2] X.env).map (·.2) = assign (.Subscript o i p1) X.env :: (assignEach [.Subscript o2 j p2] X.env).map (·.2) := by rfl) (hp2 : (assignEach [.Subscript o2 j p2] X.env).map (·.2) = assign (.Subscript o2 j p2) X.env :: (assignEach [] X.env).map (·.2) := by rfl)
    (hn : (assignEach [.Subscript o i p1, .Subscript o2 j p2] X.env).length = 2 := by rfl) (hst : (assignEach [.Subscript o i p1, .Subscript o2 j p2] X.env).findIdx? (·.1) = none := by rfl) :
    GS X (.Assign [.Tuple [.Subscript o i p1, .Subscript o2 j p2] kt pt] (.Tuple [a, b] k2 pt2) pos) (tAsg (tTupN (tCons ta (tCons tb tNil))) (gTup X.K 2 (gCons (gSub (tVar n) ti rSetL) (gCons (gSub (tVar n) tj rSetL) gNil)))) (sSet2 n fi fj fa fb) :=
  ⟨ps_asg (pe_tupN (pa_cons hva.pe (pa_cons hvb.pe pa_nil hst2) hst1)) (pg_tup hc (pgs_cons (pg_sub ho hi.pe set_list ha) (pgs_cons (pg_sub ho2 hj.pe set_list ha2) pgs_nil hp2) hp1) hn hst) hs hw h1, Gs.set2 hi.ge hj.ge hva.ge hvb.ge⟩
theorem ge_popAt {o e : Expr} {n : Nat} {te : TE} {f : Sem} {apos cpos : Pos} (ho : PE X o (tVar n)) (he : GE X e te f) (ha : attributeBase o "pop" X.env (eval o X.env) = eval o X.env := by rfl)
    (hp : ((backTo cpos (starEach [e] X.env)).all (fun x => !x.1) && (backToKw cpos (keywordEach [] X.env)).all (fun x => x.1.isSome) && decide (([e] : List Expr).length + ([] : List Keyword).length + (if ([] : List Keyword).isEmpty = true then 0 else 1) < 30)) = true := by rfl) (hl : (apos.endLine == cpos.line) = true := by rfl)
    (hs : starEach [e] X.env = (false, eval e X.env) :: starEach [] X.env := by rfl) (h5 : (backTo cpos (starEach [] X.env)).any (·.1) = false := by rfl) :
    GE X (.Call (.Attribute o "pop" apos) [e] [] cpos) (tBM X.K "list" rPopAt (tVar n) (tCons te tNil)) (fPopAt n f) :=
  ⟨pe_bm PySem.F.plainAttrs_list PySem.F.slot_list_pop PySem.F.type_list_pop mt_popAt ho (pa_cons he.pe pa_nil hs) ha hp hl hs h5, Ge.popAt he.ge⟩
/-! ### slices of what is looked at: lists -/
def slP (x : D) (lo hi : Option Int) : Option (List D) := match x with
  | .list ds => some (cutD ds lo hi)
  | _ => none
def fSlN (i : Nat) (lo hi : SemO) : SemL := fun env => (env[i]?.bind peekD).bind fun _ => (lo env).bind fun l => (hi l.2).bind fun h => (h.2[i]?.bind peekD).bind fun x => (slP x l.1 h.1).map fun d => (d, h.2)
/-- a name's list is sliced, a new list -/
theorem gn_sliceN {e : Expr} {i : Nat} {lo hi : Option Expr} {tl th : TO} {pos p2 : Pos} {fl fh : SemO} (h : PE X e (tVar i)) (hl : GO X lo tl fl) (hh : GO X hi th fh) : GN X (.Subscript e (.Slice lo hi none p2) pos) (tSl (rSlG X.K) (tVar i) tl th) (fSlN i fl fh) :=
  ⟨pe_slice (SlR.or sl_list sl_tupN) h hl.po hh.po, fun P B0 F B H env σ ds env' E hf Q q => by
    obtain ⟨x0, h0, hf⟩ := Option.bind_eq_some_iff.mp hf
    obtain ⟨⟨l, e2⟩, h3, h4⟩ := Option.bind_eq_some_iff.mp hf
    obtain ⟨⟨u, e3⟩, h5, h6⟩ := Option.bind_eq_some_iff.mp h4
    obtain ⟨x, h1, h2⟩ := Option.bind_eq_some_iff.mp h6
    obtain ⟨z, h7, h8⟩ := Option.map_eq_some_iff.mp h2
    cases h8
    obtain ⟨v, hv, _⟩ := peek_ok E h0
    refine ⟨v, hv, ?_⟩
    refine hl.go P B0 F B H env σ l e2 E h3 _ fun B2 H2 E2 s2 => ?_
    refine hh.go P B0 F B2 H2 e2 σ u _ E2 h5 _ fun B3 H3 E3 s3 => ?_
    obtain ⟨v', hv', pk⟩ := peek_ok E3 h1
    rw [hv] at hv'
    cases hv'
    cases x with
    | list es =>
      cases h7
      obtain ⟨a, vs, rfl, ha, il⟩ := pk.list E3.bh
      refine .inl ⟨_, _, rfl, SqL.of ha, fun p hp => ?_⟩
      obtain ⟨x1, x2, x3⟩ := E3.fresh hp
      exact q p _ B3 _ (E3.grow (Grow.open E3.bh hp)) (s2.trans s3) (il.cut l u) x1 x2 x3 upd_same
    | _ => cases h7⟩
/-! ### x[::-1] of a list -/
def fRevL (a : Sem) : SemL := fun env => (a env).bind fun p => match p.1 with
  | .list ds => some (ds.reverse, p.2)
  | _ => none
theorem IsAll.rev {K : PySem.W.Frag} {B : Hp} {vs : List V} {ds : List D} (h : IsAll K B vs ds) : IsAll K B vs.reverse ds.reverse := by
  induction ds generalizing vs with
  | nil => cases h; exact .nil
  | cons d ds ih => cases h with | cons h t => rw [List.reverse_cons, List.reverse_cons]; exact (ih t).snoc h
theorem gn_rev {e : Expr} {te : TE} {fa : Sem} {k : Nat} {p1 p2 p3 pos : Pos} (he : GP X e te fa) : GN X (.Subscript e (.Slice none none (some (.UnaryOp .USub (.Constant (.int 1) k p1) p2)) p3) pos) (tRevL X.K te) (fRevL fa) := ⟨pe_revL he.pe, fun P B0 F B H env σ ds env' E hf Q q => by
  obtain ⟨⟨x, e1⟩, h1, h2⟩ := Option.bind_eq_some_iff.mp hf
  cases x with
  | list es =>
    cases h2
    refine he.ge P B0 F B H env σ _ _ E h1 _ fun v B1 H1 E1 s1 i1 => ?_
    obtain ⟨a, vs, rfl, ha, il⟩ := i1.list E1.bh
    refine ⟨a, vs, rfl, SqL.of ha, fun p hp => ?_⟩
    obtain ⟨x1, x2, x3⟩ := E1.fresh hp
    exact q p _ B1 _ (E1.grow (Grow.open E1.bh hp)) s1 il.rev x1 x2 x3 upd_same
  | _ => cases h2⟩
/-! ### numbers, lists, tuples times a number -/
def dRep : D → D → Option D
  | .list xs, .int n => if 0 ≤ n ∧ n ≤ 1000 ∧ xs.length ≤ 1000 then some (.list (List.replicate n.toNat xs).flatten) else none
  | .tuple xs, .int n => if 2 ≤ n ∧ n ≤ 1000 ∧ xs.length ≤ 1000 ∧ xs ≠ [] then some (.tuple (List.replicate n.toNat xs).flatten) else none
  | _, _ => none
def rRepG (K : PySem.W.Frag) : R2 := fun x y H Q => rRep x y H Q ∨ rRepN K x y H Q
theorem rep_size {n m : Nat} (h1 : n ≤ 1000) (h2 : m ≤ 1000) : m * n ≤ sizeLine := Nat.le_trans (Nat.mul_le_mul h2 h1) (by rw [sizeLine_eq]; decide)
theorem og_rep : OpG X (binaryOp .Mult) (rRepG X.K) dRep := ⟨OpR.or' op_rep op_repN, by
  intro B H v u x y z e hv hu hg Q q
  cases x with
  | list xs =>
    cases y with
    | int n =>
      dsimp only [dRep] at hg
      split at hg
      case isFalse => cases hg
      rename_i hz
      cases hg
      obtain ⟨l, vs, rfl, hl, il⟩ := hv.list e
      refine .inl ⟨l, n, vs, rfl, hu.int, hl, by omega, by omega, by rw [il.len]; exact rep_size (by omega) hz.2.2, fun p hp => ?_⟩
      have g := Grow.new (o := .lst (List.replicate n.toNat vs).flatten) e hp
      exact q _ _ _ g (.lst upd_same ((il.rep _).up g.b))
    | _ => cases hg
  | tuple xs =>
    cases y with
    | int n =>
      dsimp only [dRep] at hg
      split at hg
      case isFalse => cases hg
      rename_i hz
      cases hg
      obtain ⟨l, vs, rfl, hl, il⟩ := hv.tup e
      refine .inr ⟨l, n, vs, rfl, hu.int, hl.sq e, fun z => hz.2.2.2 (by subst z; cases xs with | nil => rfl | cons _ _ => cases il), hz.1, hz.2.1, by rw [il.len]; exact hz.2.2.1, fun p o hp ho => ?_⟩
      have g := Grow.new (o := mkTup (List.replicate n.toNat vs).flatten o) e hp
      exact q _ _ _ g (.tup (.new ho) ((il.rep _).up g.b))
    | _ => cases hg
  | _ => cases hg⟩
end

/-! ### a, b = x, y -/
/-- a value for a slot: a datum, or a new object nobody else holds -/
def Fresh (K : PySem.W.Frag) (B H F : Hp) (env : LEnv) (σ : L2.St) (s : Slot) (v : V) : Prop := SlotOk K B H s (some (some v)) ∧ isLent s = false ∧ (owns s = true → ∃ p, v = .ref p ∧ B p = none ∧ F p = none ∧ ∀ (j : Nat) (t : Slot), env[j]? = some t → ¬ OwnA t σ[j]? p)
abbrev SemV := LEnv → Option (Slot × LEnv)
def Gv (K : PySem.W.Frag) (te : TE) (f : SemV) : Prop := ∀ (P : List (Nat × Addr)) (B0 F B H : Hp) (env : LEnv) (σ : L2.St) (s : Slot) (env' : LEnv), EnvOk K P B0 F B H env σ → f env = some (s, env') →
  ∀ Q : VK, (∀ v B' H', EnvOk K P B0 F B' H' env' σ → Same B B' → Fresh K B' H' F env' σ s v → Q v H') → te σ H Q
structure GV (X : Cx) (e : Expr) (te : TE) (f : SemV) : Prop where
  pe : PE X e te
  gv : Gv X.K te f
def vVal (f : Sem) : SemV := fun env => (f env).map fun p => (.val p.1, p.2)
def vList (f : SemL) : SemV := fun env => (f env).map fun p => (.ol p.1, p.2)
def vNew (f : LEnv → Option (Slot × LEnv)) : SemV := fun env => (f env).bind fun p => if isLent p.1 = false then some p else none
section
variable {X : Cx}
theorem gv_val {e : Expr} {te : TE} {f : Sem} (h : GE X e te f) : GV X e te (vVal f) := ⟨h.pe, fun P B0 F B H env σ s env' E hf Q q => by
  obtain ⟨⟨d, e1⟩, h1, h2⟩ := Option.map_eq_some_iff.mp hf
  cases h2
  exact h.ge P B0 F B H env σ d _ E h1 _ fun v B' H' E' sm iv => q v B' H' E' sm ⟨⟨v, rfl, iv⟩, rfl, fun z => by cases z⟩⟩
theorem gv_list {e : Expr} {te : TE} {f : SemL} (h : GN X e te f) : GV X e te (vList f) := ⟨h.pe, fun P B0 F B H env σ s env' E hf Q q => by
  obtain ⟨⟨d, e1⟩, h1, h2⟩ := Option.map_eq_some_iff.mp hf
  cases h2
  exact h.gn P B0 F B H env σ d _ E h1 _ fun p vs B' H' E' sm ia hb hF hn hl => q _ B' H' E' sm ⟨⟨p, vs, rfl, hl, ia⟩, rfl, fun _ => ⟨p, rfl, hb, hF, hn⟩⟩⟩
theorem gv_new {e : Expr} {te : TE} {f : LEnv → Option (Slot × LEnv)} (h : GW1 X e te f) : GV X e te (vNew f) := ⟨h.pe, fun P B0 F B H env σ s env' E hf Q q => by
  obtain ⟨⟨s1, e1⟩, h1, h2⟩ := Option.bind_eq_some_iff.mp hf
  split at h2
  case isFalse => cases h2
  rename_i hl
  cases h2
  exact h.gw P B0 F B H env σ _ _ E h1 _ fun p B' H' E' sm ho so hb hF hn => q _ B' H' E' sm ⟨so, hl, fun _ => ⟨p, rfl, hb, hF, hn⟩⟩⟩
/-- a slot gets such a value -/
theorem EnvOk.setF {K : PySem.W.Frag} {P : List (Nat × Addr)} {B0 F B H : Hp} {env : LEnv} {σ : L2.St} {i : Nat} {s : Slot} {v : V} (E : EnvOk K P B0 F B H env σ) (fr : Fresh K B H F env σ s v) (hi : noRow env i = true) : EnvOk K P B0 F B H (env.set i s) (σ.set i (some v)) := by
  obtain ⟨so, _, ow⟩ := fr
  cases ho : owns s with
  | true =>
    obtain ⟨p, rfl, hb, hF, hn⟩ := ow ho
    exact E.setO ho so hb hF hn (noRow_ne hi)
  | false =>
    cases s with
    | un => exact E.setU (noRow_ne hi)
    | val d =>
      obtain ⟨w, e, iw⟩ := so
      cases e
      exact E.setV iw (noRow_ne hi)
    | _ => cases ho
def sPar (i j : Nat) (fa fb : SemV) : SemS := fun env => (fa env).bind fun p => (fb p.2).bind fun q => if noRow q.2 i = true ∧ noRow (q.2.set i p.1) j = true ∧ i ≠ j then some (.nx ((q.2.set i p.1).set j q.1)) else none
theorem Gs.par {K : PySem.W.Frag} {i j : Nat} {ta tb : TE} {fa fb : SemV} (ha : Gv K ta fa) (hb : Gv K tb fb) : Gs K (tPar i j (tCons ta (tCons tb tNil))) (sPar i j fa fb) := fun P B0 F B H env σ r E hf Z q => by
  obtain ⟨⟨s, e1⟩, h1, hf⟩ := Option.bind_eq_some_iff.mp hf
  obtain ⟨⟨t, e2⟩, h2, hf⟩ := Option.bind_eq_some_iff.mp hf
  dsimp only at hf
  split at hf
  case isFalse => cases hf
  rename_i hz
  cases hf
  refine ha P B0 F B H env σ s e1 E h1 _ fun v B1 H1 E1 s1 f1 => ?_
  cases ho : owns s with
  | false =>
    refine hb P B0 F B1 H1 e1 σ t e2 E1 h2 _ fun w B2 H2 E2 s2 f2 => ⟨v, w, rfl, ?_⟩
    have f1' : Fresh K B2 H2 F e2 σ s v := ⟨f1.1.up s2 (fun a o oa _ => by rw [oa.1] at ho; cases ho), f1.2.1, (fun z => by rw [ho] at z; cases z)⟩
    have E3 := E2.setF f1' hz.1
    refine q _ B2 H2 (E3.setF ⟨f2.1, f2.2.1, fun z => ?_⟩ hz.2.1)
    obtain ⟨p, rfl, b1, b2, b3⟩ := f2.2.2 z
    refine ⟨p, rfl, b1, b2, fun k u hk ou => ?_⟩
    rcases set_get hk with ⟨rfl, rfl⟩ | ⟨n, hk⟩
    · rw [ou.1] at ho; cases ho
    · rw [List.getElem?_set_ne n] at ou; exact b3 k u hk ou
  | true =>
    obtain ⟨p, rfl, bp, fp, np⟩ := f1.2.2 ho
    have there : ∃ o, H1 p = some o := by
      obtain ⟨o, h, _⟩ := f1.1.there ⟨ho, rfl⟩
      exact ⟨o, h⟩
    obtain ⟨o, hp⟩ := there
    have nt : isTupO o = false := by
      obtain ⟨o', h, h'⟩ := f1.1.there ⟨ho, rfl⟩
      rw [hp] at h
      cases h
      exact h'
    have E1' := E1.addF hp bp np
    refine hb P B0 _ B1 H1 e1 σ t e2 E1' h2 _ fun w B2 H2 E2 s2 f2 => ⟨.ref p, w, rfl, ?_⟩
    obtain ⟨g1, g2, g3⟩ := E2.openF nt
    have E2' := E2.dropF fp
    have so : SlotOk K B2 H2 s (some (some (.ref p))) := f1.1.up s2 fun a o' oa ha => by
      obtain ⟨_, oa2⟩ := oa
      cases oa2
      rw [hp] at ha
      cases ha
      exact g1
    have E3 := E2'.setF (i := i) ⟨so, f1.2.1, fun _ => ⟨p, rfl, g2, fp, g3⟩⟩ hz.1
    refine q _ B2 H2 (E3.setF ⟨f2.1, f2.2.1, fun z => ?_⟩ hz.2.1)
    obtain ⟨p2, rfl, b1, b2, b3⟩ := f2.2.2 z
    have ne : p2 ≠ p := fun z => by rw [z, upd_same] at b2; cases b2
    refine ⟨p2, rfl, b1, by rw [upd_ne ne] at b2; exact b2, fun k u hk ou => ?_⟩
    have hil : i < σ.length := by
      have := hz.1
      unfold noRow at this
      cases q1 : e2[i]? with
      | none => rw [q1] at this; cases this
      | some s => rw [← E2.len]; exact (List.getElem?_eq_some_iff.mp q1).1
    rcases set_get hk with ⟨rfl, rfl⟩ | ⟨n, hk⟩
    · obtain ⟨_, ou⟩ := ou
      rw [List.getElem?_set_self hil] at ou
      cases ou
      exact ne rfl
    · rw [List.getElem?_set_ne n] at ou; exact b3 k u hk ou
theorem gs_par {i j : Nat} {x y : Str} {a b : Expr} {ta tb : TE} {fa fb : SemV} {px py pt pt2 pos : Pos} {kt k2} (hc : X.calm = true) (hN : X.N.Nodup) (ha : GV X a ta fa) (hb : GV X b tb fb) (hi : X.N[i]? = some x := by rfl) (hj : X.N[j]? = some y := by rfl) (hij : i ≠ j := by decide)
    (hx : X.env.scope.names.lookup x = some .local := by rfl) (hy : X.env.scope.names.lookup y = some .local := by rfl) (hst1 : starEach [a, b] X.env = (false, eval a X.env) :: starEach [b] X.env := by rfl) (hst2 : starEach [b] X.env = (false, eval b X.env) :: starEach [] X.env := by rfl)
    (hw : swappedStores [.Tuple [.Name x px, .Name y py] kt pt] (.Tuple [a, b] k2 pt2) X.env = pure (some [x, y]) := by rfl) (hs : swapsWithSole [.Tuple [.Name x px, .Name y py] kt pt] (.Tuple [a, b] k2 pt2) pos.line X.env = pure false := by rfl) :
    GS X (.Assign [.Tuple [.Name x px, .Name y py] kt pt] (.Tuple [a, b] k2 pt2) pos) (tPar i j (tCons ta (tCons tb tNil))) (sPar i j fa fb) := ⟨ps_par hc hN hi hj hij hx hy (pa_cons ha.pe (pa_cons hb.pe pa_nil hst2) hst1) hw hs, Gs.par ha.gv hb.gv⟩
end
end GL
/-! Expressions that may raise. -/
namespace GL
open PySem L2 PyProof.Rows

inductive Rx (α : Type) where
  | ok (d : α) (e : LEnv)
  | er (x : ExD) (e : LEnv)
def Rx.bind {α β : Type} (r : Rx α) (f : α → LEnv → Option (Rx β)) : Option (Rx β) := match r with
  | .ok d e => f d e
  | .er x e => some (.er x e)
abbrev SemE := LEnv → Option (Rx D)
abbrev SemTX := LEnv → Option (Rx Bool)
abbrev SemAX := LEnv → Option (Rx (List D))
section
variable (mg : Str → Option Value) (K : PySem.W.Frag) (P : List (Nat × Addr)) (B0 F B : Hp) (σ : L2.St) (W : WX)
def RxE (Q : VK) : Rx D → Prop
  | .ok d e => ∀ v B' H', EnvOk K P B0 F B' H' e σ → Same B B' → Is K B' v d → Q v H'
  | .er x e => ∀ cls dd B' H', EnvOk K P B0 F B' H' e σ → ExAt mg K B' H' x cls dd → W cls dd σ H'
def RxT (Q : Bool → Hp → Prop) : Rx Bool → Prop
  | .ok d e => ∀ B' H', EnvOk K P B0 F B' H' e σ → Same B B' → Q d H'
  | .er x e => ∀ cls dd B' H', EnvOk K P B0 F B' H' e σ → ExAt mg K B' H' x cls dd → W cls dd σ H'
def RxA (Q : List V → Hp → Prop) : Rx (List D) → Prop
  | .ok d e => ∀ vs B' H', EnvOk K P B0 F B' H' e σ → Same B B' → IsAll K B' vs d → Q vs H'
  | .er x e => ∀ cls dd B' H', EnvOk K P B0 F B' H' e σ → ExAt mg K B' H' x cls dd → W cls dd σ H'
end
def GeX (mg : Str → Option Value) (K : PySem.W.Frag) (W : WX) (te : TE) (f : SemE) : Prop := ∀ (P : List (Nat × Addr)) (B0 F B H : Hp) (env : LEnv) (σ : L2.St) (r : Rx D), EnvOk K P B0 F B H env σ → f env = some r → ∀ Q : VK, RxE mg K P B0 F B σ W Q r → te σ H Q
def GtX (mg : Str → Option Value) (K : PySem.W.Frag) (W : WX) (tt : TT) (f : SemTX) : Prop := ∀ (P : List (Nat × Addr)) (B0 F B H : Hp) (env : LEnv) (σ : L2.St) (r : Rx Bool), EnvOk K P B0 F B H env σ → f env = some r → ∀ Q : Bool → Hp → Prop, RxT mg K P B0 F B σ W Q r → tt σ H Q
def GaX (mg : Str → Option Value) (K : PySem.W.Frag) (W : WX) (ta : TA) (f : SemAX) : Prop := ∀ (P : List (Nat × Addr)) (B0 F B H : Hp) (env : LEnv) (σ : L2.St) (r : Rx (List D)), EnvOk K P B0 F B H env σ → f env = some r → ∀ Q : List V → Hp → Prop, RxA mg K P B0 F B σ W Q r → ta σ H Q
structure GEX (X : Cx) (W : WX) (e : Expr) (te : TE) (f : SemE) : Prop where
  pe : PE X e te
  ge : GeX X.mg X.K W te f
structure GTX (X : Cx) (W : WX) (e : Expr) (tt : TT) (f : SemTX) : Prop where
  pt : PT X e tt
  gt : GtX X.mg X.K W tt f
structure GAX (X : Cx) (W : WX) (es : List Expr) (ta : TA) (f : SemAX) : Prop where
  pa : PA X es ta
  ga : GaX X.mg X.K W ta f
def eLift (f : Sem) : SemE := fun env => (f env).map fun p => .ok p.1 p.2
def tLift (f : SemB) : SemTX := fun env => (f env).map fun p => .ok p.1 p.2
def aLift (f : SemL) : SemAX := fun env => (f env).map fun p => .ok p.1 p.2
def eCall (n : Nat) (fn : List D → Option Rs) (r : SemAX) : SemE := fun env => (r env).bind fun q => q.bind fun ds e => if ds.length = n then (fn ds).map fun z => match z with
  | .ok d => .ok d e
  | .er x => .er x e
  else none
/-- a def that raises nothing, arguments that may -/
def eCallP (n : Nat) (fn : List D → Option D) (r : SemAX) : SemE := fun env => (r env).bind fun q => q.bind fun ds e => if ds.length = n then (fn ds).map fun d => .ok d e else none
def eOp2 (g : D → D → Option D) (a b : SemE) : SemE := fun env => (a env).bind fun r => r.bind fun x e => (b e).bind fun q => q.bind fun y e2 => (g x y).map fun z => .ok z e2
def eLst (r : SemAX) : SemE := fun env => (r env).bind fun q => q.bind fun ds e => if ds.length ≤ 1000000 then some (.ok (.list ds) e) else none
def aNil : SemAX := fun env => some (.ok [] env)
def aCons (a : SemE) (r : SemAX) : SemAX := fun env => (a env).bind fun p => p.bind fun d e => (r e).bind fun q => q.bind fun ds e2 => some (.ok (d :: ds) e2)
def txTest (a : SemE) : SemTX := fun env => (a env).bind fun r => r.bind fun x e => match x with
  | .bool b => some (.ok b e)
  | _ => none
def txAnd (a b : SemTX) : SemTX := fun env => (a env).bind fun r => r.bind fun x e => if x = true then b e else some (.ok false e)
def txOr (a b : SemTX) : SemTX := fun env => (a env).bind fun r => r.bind fun x e => if x = true then some (.ok true e) else b e
def txNot (a : SemTX) : SemTX := fun env => (a env).bind fun r => r.bind fun x e => some (.ok (!x) e)
section
variable {mg : Str → Option Value} {K : PySem.W.Frag} {W : WX}
theorem GeX.lift {te : TE} {f : Sem} (h : Ge K te f) : GeX mg K W te (eLift f) := fun P B0 F B H env σ r E hf Q q => by
  obtain ⟨⟨d, e1⟩, h1, h2⟩ := Option.map_eq_some_iff.mp hf
  subst h2
  exact h P B0 F B H env σ d e1 E h1 Q q
theorem GtX.lift {te : TT} {f : SemB} (h : Gt K te f) : GtX mg K W te (tLift f) := fun P B0 F B H env σ r E hf Q q => by
  obtain ⟨⟨d, e1⟩, h1, h2⟩ := Option.map_eq_some_iff.mp hf
  subst h2
  exact h P B0 F B H env σ d e1 E h1 Q q
theorem GaX.lift {te : TA} {f : SemL} (h : Ga K te f) : GaX mg K W te (aLift f) := fun P B0 F B H env σ r E hf Q q => by
  obtain ⟨⟨d, e1⟩, h1, h2⟩ := Option.map_eq_some_iff.mp hf
  subst h2
  exact h P B0 F B H env σ d e1 E h1 Q q
theorem GeX.call {n : Nat} {fn : List D → Option Rs} {t : TA} {r : SemAX} (h : GaX mg K W t r) : GeX mg K W (tCallS (spX mg K n fn) (WE W) t) (eCall n fn r) := fun P B0 F B H env σ r' E hf Q q => by
  obtain ⟨r1, h1, h2⟩ := Option.bind_eq_some_iff.mp hf
  refine h P B0 F B H env σ r1 E h1 _ ?_
  cases r1 with
  | er x e => cases h2; exact q
  | ok ds e =>
    intro vs B1 H1 E1 s1 i1
    dsimp only [Rx.bind] at h2
    split at h2
    case isFalse => cases h2
    rename_i hn
    obtain ⟨z, h3, h4⟩ := Option.map_eq_some_iff.mp h2
    subst h4
    refine ⟨B1, ds, z, by rw [i1.len]; exact hn, E1.bh, i1, h3, ?_⟩
    cases z with
    | ok d => exact fun v B' H' g iv => q v B' H' (E1.grow g) (s1.trans g.b) iv
    | er x => exact fun cls d B' H' g xa => q cls d B' H' (E1.grow g) xa
theorem GeX.callP {n : Nat} {fn : List D → Option D} {E' : XK} {t : TA} {r : SemAX} (h : GaX mg K W t r) : GeX mg K W (tCall (spD K n fn) [] E' t) (eCallP n fn r) := fun P B0 F B H env σ r' E hf Q q => by
  obtain ⟨r1, h1, h2⟩ := Option.bind_eq_some_iff.mp hf
  refine h P B0 F B H env σ r1 E h1 _ ?_
  cases r1 with
  | er x e => cases h2; exact q
  | ok ds e =>
    intro vs B1 H1 E1 s1 i1
    dsimp only [Rx.bind] at h2
    split at h2
    case isFalse => cases h2
    rename_i hn
    obtain ⟨z, h3, h4⟩ := Option.map_eq_some_iff.mp h2
    subst h4
    show spD K n fn (vs ++ []) H1 Q _
    rw [List.append_nil]
    exact ⟨B1, ds, z, by rw [i1.len]; exact hn, E1.bh, i1, h3, fun v B2 H2 g iv => q v B2 H2 (E1.grow g) (s1.trans g.b) iv⟩
theorem GeX.op2 {r : R2} {g : D → D → Option D} {ta tb : TE} {fa fb : SemE} (h : OpS K r g) (ha : GeX mg K W ta fa) (hb : GeX mg K W tb fb) : GeX mg K W (tOp r ta tb) (eOp2 g fa fb) := fun P B0 F B H env σ r' E hf Q q => by
  obtain ⟨r1, h1, h2⟩ := Option.bind_eq_some_iff.mp hf
  refine ha P B0 F B H env σ r1 E h1 _ ?_
  cases r1 with
  | er x e => cases h2; exact q
  | ok x e1 =>
    intro v B1 H1 E1 s1 i1
    obtain ⟨r2, h3, h4⟩ := Option.bind_eq_some_iff.mp (show (fb e1).bind (fun q => q.bind fun y e2 => (g x y).map fun z => .ok z e2) = some r' from h2)
    refine hb P B0 F B1 H1 e1 σ r2 E1 h3 _ ?_
    cases r2 with
    | er x e => cases h4; exact q
    | ok y e2 =>
      intro u B2 H2 E2 s2 i2
      obtain ⟨z, h5, h6⟩ := Option.map_eq_some_iff.mp (show (g x y).map (fun z => Rx.ok z e2) = some r' from h4)
      subst h6
      refine h B2 H2 v u x y _ E2.bh (.fz (i1.up s2)) (.fz i2) h5 _ fun w B3 H3 g3 i3 => ?_
      exact q w B3 H3 (E2.grow g3) ((s1.trans s2).trans g3.b) i3
theorem GtX.test {te : TE} {f : SemE} (h : GeX mg K W te f) : GtX mg K W (tTest te) (txTest f) := fun P B0 F B H env σ r E hf Q q => by
  obtain ⟨r1, h1, h2⟩ := Option.bind_eq_some_iff.mp hf
  refine h P B0 F B H env σ r1 E h1 _ ?_
  cases r1 with
  | er x e => cases h2; exact q
  | ok x e1 =>
    intro v B1 H1 E1 s1 i1
    cases x with
    | bool b => cases h2; cases i1; exact ⟨b, rfl, q B1 H1 E1 s1⟩
    | _ => cases h2
theorem GtX.or {t u : TT} {f g : SemTX} (h : GtX mg K W t f) (h' : GtX mg K W u g) : GtX mg K W (tOr t u) (txOr f g) := fun P B0 F B H env σ r E hf Q q => by
  obtain ⟨r1, h1, h2⟩ := Option.bind_eq_some_iff.mp hf
  refine h P B0 F B H env σ r1 E h1 _ ?_
  cases r1 with
  | er x e => cases h2; exact q
  | ok x e1 =>
    intro B1 H1 E1 s1
    cases x with
    | true => cases h2; exact iteT (q B1 H1 E1 s1)
    | false =>
      refine iteF (h' P B0 F B1 H1 e1 σ r E1 h2 _ ?_)
      cases r with
      | ok b e2 => exact fun B2 H2 E2 s2 => q B2 H2 E2 (s1.trans s2)
      | er x e2 => exact q
theorem GtX.and {t u : TT} {f g : SemTX} (h : GtX mg K W t f) (h' : GtX mg K W u g) : GtX mg K W (tAnd t u) (txAnd f g) := fun P B0 F B H env σ r E hf Q q => by
  obtain ⟨r1, h1, h2⟩ := Option.bind_eq_some_iff.mp hf
  refine h P B0 F B H env σ r1 E h1 _ ?_
  cases r1 with
  | er x e => cases h2; exact q
  | ok x e1 =>
    intro B1 H1 E1 s1
    cases x with
    | false => cases h2; exact iteF (q B1 H1 E1 s1)
    | true =>
      refine iteT (h' P B0 F B1 H1 e1 σ r E1 h2 _ ?_)
      cases r with
      | ok b e2 => exact fun B2 H2 E2 s2 => q B2 H2 E2 (s1.trans s2)
      | er x e2 => exact q
end
section
variable {X : Cx} {W : WX}
theorem gex_lift {e : Expr} {te : TE} {f : Sem} (h : GE X e te f) : GEX X W e te (eLift f) := ⟨h.pe, GeX.lift h.ge⟩
theorem gtx_lift {e : Expr} {te : TT} {f : SemB} (h : GT X e te f) : GTX X W e te (tLift f) := ⟨h.pt, GtX.lift h.gt⟩
theorem gax_lift {e : List Expr} {te : TA} {f : SemL} (h : GA X e te f) : GAX X W e te (aLift f) := ⟨h.pa, GaX.lift h.ga⟩
theorem gax_nil : GAX X W [] tNil aNil := ⟨pa_nil, fun P B0 F B H env σ r E hf Q q => by cases hf; exact q [] B H E (Same.refl _) .nil⟩
theorem gax_cons {e : Expr} {es : List Expr} {te : TE} {t : TA} {f : SemE} {r : SemAX} (h : GEX X W e te f) (h' : GAX X W es t r) (hs : starEach (e :: es) X.env = (false, eval e X.env) :: starEach es X.env := by rfl) : GAX X W (e :: es) (tCons te t) (aCons f r) := ⟨pa_cons h.pe h'.pa hs, fun P B0 F B H env σ r' E hf Q q => by
  obtain ⟨r1, h1, h2⟩ := Option.bind_eq_some_iff.mp hf
  refine h.ge P B0 F B H env σ r1 E h1 _ ?_
  cases r1 with
  | er x e => cases h2; exact q
  | ok x e1 =>
    intro v B1 H1 E1 s1 i1
    obtain ⟨r2, h3, h4⟩ := Option.bind_eq_some_iff.mp (show (r e1).bind (fun q => q.bind fun ds e2 => some (Rx.ok (x :: ds) e2)) = some r' from h2)
    refine h'.ga P B0 F B1 H1 e1 σ r2 E1 h3 _ ?_
    cases r2 with
    | er x e => cases h4; exact q
    | ok ds e2 => cases h4; exact fun vs B2 H2 E2 s2 i2 => q (v :: vs) B2 H2 E2 (s1.trans s2) (.cons (i1.up s2) i2)⟩
theorem gex_call {k n : Nat} {f : Addr} {fd : FuncData} {ps : List Str} {x : Str} {p pos : Pos} {e : Expr} {es : List Expr} {t : TA} {r : SemAX} {fn : List D → Option Rs} (tk : Takes X W) (F : FnOk X.prog X.w X.K X.mg X.base (L2.CX X.prog X.w) k f fd ps (spX X.mg X.K n fn)) (hr : Room k X.A) (hm : X.mg x = some (.ref f)) (hk : PySem.W.keepIn X.K (.ref f) = true) (hb : Binds X.K fd ps []) (ha : GAX X W (e :: es) t r) (hg : Gl X x := by rfl)
    (h1 : (x == Str.ofString "__debug__") = false := by rfl) (h2 : starEach (e :: es) X.env = (false, eval e X.env) :: starEach es X.env := by rfl) (h3 : (backTo pos (starEach es X.env)).any (·.1) = false := by rfl) :
    GEX X W (.Call (.Name x p) (e :: es) [] pos) (tCallS (spX X.mg X.K n fn) (WE W) t) (eCall n fn r) := ⟨pe_callS F hr hg hm hk hb (fun σ => passAt tk σ) ha.pa h1 h2 h3, GeX.call ha.ga⟩
theorem gex_callP {k n : Nat} {f : Addr} {fd : FuncData} {ps : List Str} {x : Str} {p pos : Pos} {e : Expr} {es : List Expr} {t : TA} {r : SemAX} {fn : List D → Option D} (F : FnOk X.prog X.w X.K X.mg X.base CX0 k f fd ps (spD X.K n fn)) (hr : Room k X.A) (hm : X.mg x = some (.ref f)) (hk : PySem.W.keepIn X.K (.ref f) = true) (hb : Binds X.K fd ps []) (ha : GAX X W (e :: es) t r) (hg : Gl X x := by rfl)
    (h1 : (x == Str.ofString "__debug__") = false := by rfl) (h2 : starEach (e :: es) X.env = (false, eval e X.env) :: starEach es X.env := by rfl) (h3 : (backTo pos (starEach es X.env)).any (·.1) = false := by rfl) :
    GEX X W (.Call (.Name x p) (e :: es) [] pos) (tCall (spD X.K n fn) [] E0 t) (eCallP n fn r) := ⟨pe_call F hr hg hm hk hb .nil pass0 ha.pa h1 h2 h3, GeX.callP ha.ga⟩
theorem gex_lst {es : List Expr} {pos : Pos} {t : TA} {r : SemAX} (h : GAX X W es t r) : GEX X W (.List es pos) (tLst t) (eLst r) := ⟨by exact pe_lst h.pa, fun P B0 F B H env σ r' E hf Q q => by
  obtain ⟨r1, h1, h2⟩ := Option.bind_eq_some_iff.mp hf
  refine h.ga P B0 F B H env σ r1 E h1 _ ?_
  cases r1 with
  | er x e => cases h2; exact q
  | ok ds e1 =>
    dsimp only [Rx.bind] at h2
    split at h2
    case isFalse => cases h2
    rename_i hz
    cases h2
    refine fun vs B1 H1 E1 s1 i1 => ⟨by rw [i1.len]; exact sz_ok hz, fun p hp => ?_⟩
    have g := Grow.new (o := .lst vs) E1.bh hp
    exact q _ _ _ (E1.grow g) (s1.trans g.b) (.lst upd_same (i1.up g.b))⟩
theorem gex_cmp {op : CmpOp} {r : R2} {g : D → D → Option D} {a b : Expr} {pos : Pos} {ta tb : TE} {fa fb : SemE} (h : OpG X (compareOp op) r g) (ha : GEX X W a ta fa) (hb : GEX X W b tb fb) (hm : behindInMarks op b = false) :
    GEX X W (.Compare a [op] [b] pos) (tOp r ta tb) (eOp2 g fa fb) := ⟨pe_cmpR h.op ha.pe hb.pe hm, GeX.op2 h.sem ha.ge hb.ge⟩
theorem gtx_cmp {op : CmpOp} {r : R2} {g : D → D → Option D} {a b : Expr} {pos : Pos} {ta tb : TE} {fa fb : SemE} (h : OpG X (compareOp op) r g) (ha : GEX X W a ta fa) (hb : GEX X W b tb fb) (hm : behindInMarks op b = false) :
    GTX X W (.Compare a [op] [b] pos) (tTest (tOp r ta tb)) (txTest (eOp2 g fa fb)) := ⟨pt_cmpR h.op ha.pe hb.pe hm, GtX.test (GeX.op2 h.sem ha.ge hb.ge)⟩
theorem gtx_val {e : Expr} {te : TE} {f : SemE} (h : GEX X W e te f) (he : ∀ whole, isTrue e X.env whole = (do let v ← whole; standAt e.pos; holding [v] (truthy v)) := by intro _; rfl) : GTX X W e (tB te) (txTest f) :=
  ⟨pt_val h.pe he, GtX.test h.ge⟩
theorem gtx_not {a : Expr} {pos : Pos} {t : TT} {f : SemTX} (h : GTX X W a t f) : GTX X W (.UnaryOp .Not a pos) (tNot t) (txNot f) := ⟨pt_not h.pt, fun P B0 F B H env σ r E hf Q q => by
  obtain ⟨r1, h1, h2⟩ := Option.bind_eq_some_iff.mp hf
  refine h.gt P B0 F B H env σ r1 E h1 _ ?_
  cases r1 with
  | er x e => cases h2; exact q
  | ok x e1 => cases h2; exact fun B' H' E' s' => q B' H' E' s'⟩
/-! ### statements -/
def xIfX (t : SemTX) (f g : SemX) : SemX := fun env => (t env).bind fun r => match r with
  | .ok b e => if b = true then f e else g e
  | .er x e => some (.ex x e)
theorem gsx_ifX {c : Expr} {a b : List Stmt} {pos : Pos} {t : TT} {u w : TS} {f : SemTX} {g k : SemX} (hc : GTX X W c t f) (ha : GSsX X W a u g) (hb : GSsX X W b w k) : GSX X W (.If c a b pos) (tIfS t u w) (xIfX f g k) := ⟨ps_if hc.pt ha.ps hb.ps, fun P B0 F B H env σ r E hf Z q => by
  obtain ⟨r1, h1, h2⟩ := Option.bind_eq_some_iff.mp hf
  refine hc.gt P B0 F B H env σ r1 E h1 _ ?_
  cases r1 with
  | er x e => cases h2; exact fun cls dd B' H' E' xa => q cls dd σ B' H' E' xa
  | ok b e1 =>
    intro B' H' E' s'
    cases b with
    | true => exact iteT (ha.gs P B0 F B' H' e1 σ r E' h2 Z q)
    | false => exact iteF (hb.gs P B0 F B' H' e1 σ r E' h2 Z q)⟩
def xAsgX (i : Nat) (f : SemE) : SemX := fun env => (f env).bind fun r => match r with
  | .ok d e => if noRow e i = true then some (.fl (.nx (e.set i (.val d)))) else none
  | .er x e => some (.ex x e)
theorem gsx_setX {i : Nat} {x : Str} {e : Expr} {pos pos' : Pos} {te : TE} {f : SemE} (hN : X.N.Nodup) (h : GEX X W e te f) (hi : X.N[i]? = some x := by rfl) (hx : Loc X.env.scope x := by first | exact .inl rfl | exact .inr rfl) (hs : swapsWith e (some (.Name x pos')) pos.line X.env = pure false := by rfl)
    (hf : X.fn x = true ∨ X.env.scope.names.lookup x = some .local := by first | exact .inl rfl | exact .inr rfl) : GSX X W (.Assign [.Name x pos'] e pos) (tAsg te (gName i)) (xAsgX i f) := ⟨ps_set hN hi hx h.pe hs hf, fun P B0 F B H env σ r E hf Z q => by
  obtain ⟨r1, h1, h2⟩ := Option.bind_eq_some_iff.mp hf
  refine h.ge P B0 F B H env σ r1 E h1 _ ?_
  cases r1 with
  | er x e => cases h2; exact fun cls dd B' H' E' xa => q cls dd σ B' H' E' xa
  | ok d e1 =>
    dsimp only at h2
    split at h2
    case isFalse => cases h2
    rename_i hz
    cases h2
    exact fun v B' H' E' s iv => q _ B' H' (E'.setV iv (noRow_ne hz))⟩
def xRetX (f : SemE) : SemX := fun env => (f env).map fun r => match r with
  | .ok d e => .fl (.rt d e)
  | .er x e => .ex x e
theorem gsx_retX {e : Expr} {pos : Pos} {te : TE} {f : SemE} (h : GEX X W e te f) : GSX X W (.Return (some e) pos) (tRet te) (xRetX f) := ⟨ps_ret h.pe, fun P B0 F B H env σ r E hf Z q => by
  obtain ⟨r1, h1, h2⟩ := Option.map_eq_some_iff.mp hf
  subst h2
  refine h.ge P B0 F B H env σ r1 E h1 _ ?_
  cases r1 with
  | er x e => exact fun cls dd B' H' E' xa => q cls dd σ B' H' E' xa
  | ok d e1 => exact fun v B' H' E' s iv => q v σ B' H' E' iv⟩
def xExprX (f : SemE) : SemX := fun env => (f env).map fun r => match r with
  | .ok _ e => .fl (.nx e)
  | .er x e => .ex x e
theorem gsx_exprX {e : Expr} {pos : Pos} {te : TE} {f : SemE} (h : GEX X W e te f) (hs : swapsWith e none pos.line X.env = pure false := by rfl) : GSX X W (.Expr e pos) (tDrop te) (xExprX f) := ⟨ps_expr h.pe hs, fun P B0 F B H env σ r E hf Z q => by
  obtain ⟨r1, h1, h2⟩ := Option.map_eq_some_iff.mp hf
  subst h2
  refine h.ge P B0 F B H env σ r1 E h1 _ ?_
  cases r1 with
  | er x e => exact fun cls dd B' H' E' xa => q cls dd σ B' H' E' xa
  | ok d e1 => exact fun v B' H' E' s iv => q σ B' H' E'⟩
end
end GL
set_option maxHeartbeats 4000000
/-! Several except clauses with names. -/
namespace L2
open PySem PySem.Spec PyProof.Rows
/-- what the clauses wish of an exception of the body, one after the other; slot i is the name's -/
def wManyAs (K : PySem.W.Frag) (Wout : WX) (D : Ends) : List (Value × Nat × (Addr → Value → Option Addr → TS)) → WX
  | [] => Wout
  | (c, i, ts) :: r => fun cls d σ H => ∃ b, PySem.W.exmOne K cls c = some b ∧
    (b = true → ∀ a, H a = none → ts a cls d { nx := fun σ' H' => D.nx (σ'.set i none) H', rt := D.rt, bk := fun σ' H' => D.bk (σ'.set i none) H', ct := fun σ' H' => D.ct (σ'.set i none) H' } (σ.set i (some (.ref a))) H) ∧ (b = false → wManyAs K Wout D r cls d σ H)
inductive HdsAs (X : Cx) : List ExceptHandler → List (Value × Nat × (Addr → Value → Option Addr → TS)) → Prop
  | nil : HdsAs X [] []
  | cons {x n : Str} {i : Nat} {c : Value} {ts : Addr → Value → Option Addr → TS} {b₀ : Stmt} {suite : List Stmt} {np pos' : Pos} {hds : List ExceptHandler} {l : List (Value × Nat × (Addr → Value → Option Addr → TS))} (hc : Names X x c) (hi : X.N[i]? = some n) (hln : X.env.kindOf n = some .local)
      (hsu : ∀ (a : Addr) (oe : Obj) (cls : Value) (d : Option Addr) (pn : List (Addr × Obj)), Zc cls d oe → (∃ vs, oe.data = .fields vs) → PSs (X.suite a ((a, oe) :: pn)) (b₀ :: suite) (ts a cls d)) (r : HdsAs X hds l) :
      HdsAs X (.ExceptHandler (some (.Name x np)) (some n) (b₀ :: suite) pos' :: hds) ((c, i, ts) :: l)
section
variable {X : Cx} {body : List Stmt} {h₀ : ExceptHandler} {hds : List ExceptHandler} {l : List (Value × Nat × (Addr → Value → Option Addr → TS))} {pos : Pos} {tb : WX → TS} {Wout : WX}
theorem ps_try_manyAs (hs : X.stack = X.env :: X.outer) (hf : X.env.frame = some X.env.locals) (hN : X.N.Nodup) (tk : Takes X Wout)
    (hb : ∀ (W : WX) (pn : List (Addr × Obj)) (xe : Value → Shared → Prop), Takes (X.tr pn xe) W → PassesOwn (model X.prog X.w) X.A X.env xe → PSs (X.tr pn xe) body (tb W))
    (hh : HdsAs X (h₀ :: hds) l) : PS X (.Try body (h₀ :: hds) [] [] pos) (fun D σ H => tb (wManyAs X.K Wout D l) D σ H) := by
  refine ⟨fun pins s σ H D I h => ?_⟩
  have ok := I.ok
  have hfr : X.A.frames = some (X.env :: X.outer) := by rw [ok.frames, hs]
  refine wpAny_Try_except ?_
  refine wpAny_mono ((hb (wManyAs X.K Wout D l) (X.pn ++ pins) (fun e s₁ => wpAny (model X.prog X.w) X.A (noteFrame e X.env) (fun _ s₂ => wpAny (model X.prog X.w) X.A (setFlight e none) (fun _ s₃ =>
    wpAny (model X.prog X.w) X.A (handleBy e X.env (h₀ :: hds)) (SP X pins D) X.xe s₃) X.xe s₂) X.xe s₁) (fun u s' xx => ?_) PassesOwn.looking).run [] s σ H D (I.toTry _) h) (fun f s1 hsp => ?_) (fun e s1 he => he)
  · -- the catch
    obtain ⟨a, B, sI, pins', σ', H', cls, d, rfl, J', nb, up, sky, na, os, ag, w⟩ := xx
    have J : Inv X pins σ' H' sI := J'.ofTry ok
    have sky' : Sky B (X.env :: X.outer) a (Zc cls d) X.env.locals s'.heap := by rw [← hs]; exact sky
    show wpAny (model X.prog X.w) X.A (noteFrame (.ref a) X.env) _ _ _
    refine Sky.land Zc.steady hfr hf sky' fun h3 fl3 up3 => ?_
    have J3 : Inv X pins σ' H' { s' with heap := h3 } := J.landed nb fl3.1 (up.trans up3) os ag
    obtain ⟨oe3, vs3, he3, hz3, hd3⟩ := fl3.there
    have notFr : ∀ {h : Heap} {o : Obj} {vs : Array Value}, h.FunFrames B (X.env :: X.outer) → h.get? a = some o → o.data = .fields vs → a ∉ frs (X.env :: X.outer) := fun {h o vs} ff e dd hm => by
      obtain ⟨_, o', e', hnf⟩ := ff.mem hm
      rw [e] at e'; cases e'
      exact hnf _ dd
    have nfr := notFr fl3.2.2.1 he3 hd3
    have nL : a ≠ X.env.locals := fun z => nfr (List.mem_filterMap.mpr ⟨X.env, List.mem_cons_self, by rw [hf, z]⟩)
    have nF : a ∉ X.fs := fun hm => by
      obtain ⟨e, he, q⟩ := List.mem_filterMap.mp hm
      exact nfr (List.mem_filterMap.mpr ⟨e, List.mem_cons_of_mem _ he, q⟩)
    have S3 := J3.suite he3 hd3 na nL nF
    have go : ∀ {hds' : List ExceptHandler} {l' : List (Value × Nat × (Addr → Value → Option Addr → TS))}, HdsAs X hds' l' → wManyAs X.K Wout D l' cls d σ' H' →
        wpAny (model X.prog X.w) X.A (handleBy (.ref a) X.env hds') (SP X pins D) X.xe { s' with heap := h3 } := by
      intro hds' l' hk
      induction hk with
      | nil =>
        intro w
        refine wpAny_handleBy_nil ?_
        obtain ⟨k1, k2, k3, oe, vs, T, oT, ts', he, hz, hd, h1, hr⟩ := id fl3
        unfold PySem.passOn
        refine wpAny_bind (wpAny_field he hd h1 ?_)
        rw [if_neg (show ¬ ((Value.ref T == Value.none) = true) from by simp)]
        have fin : wpAny (model X.prog X.w) X.A (setFlight (.ref a) X.env.frame) (fun _ s4 => wpAny (model X.prog X.w) X.A (throw (.ref a) : Sem Flow) (SP X pins D) X.xe s4) X.xe { s' with heap := h3 } := by
          rw [hf]
          refine HandSPX.setFlight_upZ fl3 fun h4 hh4 up4 => wpAny_throw (tk _ _ ?_)
          exact ⟨a, B, sI, pins, σ', H', cls, d, rfl, J, nb, (up.trans up3).trans up4, .inr (.inr (by rw [hs]; exact hh4)), na, os, ag, w⟩
        first
          | exact wpAny_bind (wpAny_pure (wpAny_bind fin))
          | exact wpAny_bind fin
      | @cons x n i c ts b₀ suite np pos' hds2 l2 hc hi hln hsu r ih =>
        intro w
        obtain ⟨b, hb1, hyes, hno⟩ := w
        have hloc : Loc X.env.scope n := .inl hln
        refine wpAny_handleBy_cons (codeAny_handlers_test ?_) (by intro q; cases q)
        have LT : PySem.W.Looks (model X.prog X.w) h3 (typeOf (.ref a)) cls := fun A Q E s k q => wpAny_typeOf_ref (k _ _ he3) (by rw [hz3.1]; exact q)
        have LM := PySem.W.exm_one (M := model X.prog X.w) (J3.kIn) LT hb1
        have test : ∀ {Q : Value → Shared → Prop} {E : Value → Shared → Prop}, Q c { s' with heap := h3 } → wpAny (model X.prog X.w) (X.A.mark (some (.ref a))) (eval (.Name x np) X.env) Q E { s' with heap := h3 } := fun {Q E} q => by
          obtain ⟨hg, hdbg, hm | ⟨hm, hv, hnn⟩⟩ := hc
          · exact ld_glob (X := X.suite a ((a, oe3) :: (X.pn ++ pins))) S3 hg hm q hdbg
          · exact ld_blt (X := X.suite a ((a, oe3) :: (X.pn ++ pins))) S3 hg hm hv q hnn hdbg
        refine test (LM.here ?_)
        cases b with
        | true =>
          refine codeAny_handlers_suite_as ?_
          refine HandSPX.lands_againZ fl3 fun h4 fl4 up4 => ?_
          have J4 : Inv X pins σ' H' { s' with heap := h4 } := J.landed nb fl4.1 ((up.trans up3).trans up4) os ag
          obtain ⟨oe4, vs4, he4, hz4, hd4⟩ := fl4.there
          have S4 := J4.suite he4 hd4 na nL nF
          refine store_ok (X := X.suite a ((a, oe4) :: (X.pn ++ pins))) (v := .ref a) S4 hN hi hloc rfl (fun s5 S5 => ?_) (.inr hln)
          refine wpAny_mono ((hsu a oe4 cls d (X.pn ++ pins) hz4 ⟨_, hd4⟩).run [] s5 _ H' _ S5 (hyes rfl a na)) (fun f s6 hsp => ?_) (fun _ _ z => False.elim z)
          have end_ : ∀ {σ6 : St} {H6 : Hp} {Q : Shared → Prop}, Inv (X.suite a ((a, oe4) :: (X.pn ++ pins))) [] σ6 H6 s6 → (∀ s7, Inv X pins (σ6.set i none) H6 s7 → Q s7) →
              wpAny (model X.prog X.w) X.A (do bindName X.env n .none; unbindBehindTheSuite X.env n pos') (fun _ s7 => Q s7) X.xe s6 := fun {σ6 H6 Q} S6 hq => gone_ok (S6.unsuite ok) hN hi hln hq
          cases f with
          | next =>
            obtain ⟨σ6, H6, S6, q6⟩ := hsp
            exact end_ S6 fun s7 J7 => ⟨_, _, J7, q6⟩
          | brk =>
            obtain ⟨σ6, H6, S6, q6⟩ := hsp
            exact end_ S6 fun s7 J7 => ⟨_, _, J7, q6⟩
          | cont =>
            obtain ⟨σ6, H6, S6, q6⟩ := hsp
            exact end_ S6 fun s7 J7 => ⟨_, _, J7, q6⟩
          | ret u =>
            obtain ⟨v6, σ6, H6, S6, r6, q6⟩ := hsp
            exact end_ S6 fun s7 J7 => ⟨_, _, _, J7, r6, q6⟩
        | false =>
          show wpAny _ X.A (handleBy (.ref a) X.env hds2) _ _ _
          exact ih (hno rfl)
    exact go hh w
  · cases f with
    | next =>
      obtain ⟨σ', H', J', q⟩ := hsp
      exact wpAny_execs_nil ⟨σ', H', J'.ofTry ok, q⟩
    | brk =>
      obtain ⟨σ', H', J', q⟩ := hsp
      exact ⟨σ', H', J'.ofTry ok, q⟩
    | cont =>
      obtain ⟨σ', H', J', q⟩ := hsp
      exact ⟨σ', H', J'.ofTry ok, q⟩
    | ret u =>
      obtain ⟨v, σ', H', J', r, q⟩ := hsp
      exact ⟨v, σ', H', J'.ofTry ok, r, q⟩
end
end L2
namespace GL
open PySem L2 PyProof.Rows
section
variable {X : Cx} {W : WX}
structure GWX (X : Cx) (W : WX) (e : Expr) (tt : TT) (f : SemTX) : Prop where
  pw : PW X e tt
  gt : GtX X.mg X.K W tt f
theorem GWX.gt' {e : Expr} {tt : TT} {f : SemTX} (h : GWX X W e tt f) : GTX X W e tt f := ⟨h.pw.pt, h.gt⟩
theorem gwx_and1 {a : Expr} {pos : Pos} {t : TT} {f : SemTX} (h : GTX X W a t f) : GWX X W (.BoolOp .And [a] pos) t f := ⟨pw_and1 h.pt, h.gt⟩
theorem gwx_or1 {a : Expr} {pos : Pos} {t : TT} {f : SemTX} (h : GTX X W a t f) : GWX X W (.BoolOp .Or [a] pos) t f := ⟨pw_or1 h.pt, h.gt⟩
theorem gwx_and {a b : Expr} {rest : List Expr} {pos : Pos} {t u : TT} {f g : SemTX} (h : GTX X W a t f) (h' : GWX X W (.BoolOp .And (b :: rest) pos) u g) : GWX X W (.BoolOp .And (a :: b :: rest) pos) (tAnd t u) (txAnd f g) := ⟨pw_and h.pt h'.pw, GtX.and h.gt h'.gt⟩
theorem gwx_or {a b : Expr} {rest : List Expr} {pos : Pos} {t u : TT} {f g : SemTX} (h : GTX X W a t f) (h' : GWX X W (.BoolOp .Or (b :: rest) pos) u g) : GWX X W (.BoolOp .Or (a :: b :: rest) pos) (tOr t u) (txOr f g) := ⟨pw_or h.pt h'.pw, GtX.or h.gt h'.gt⟩
end
/-! ### several clauses -/
abbrev HSem := Str × Nat × SemS
def sCatch (hs : List HSem) (x : ExD) (e : LEnv) : Option Fl := match hs with
  | [] => none
  | (c, i, sf) :: r => if x.cls = c then (if noRow e i = true then (sf (e.set i .un)).bind (unset i) else none) else sCatch r x e
def sTryM (hs : List HSem) (xb : SemX) : SemS := fun env => (xb env).bind fun r => match r with
  | .fl r => some r
  | .ex x e => sCatch hs x e
/-- the clauses and what they do -/
inductive HdsG (X : Cx) : List ExceptHandler → List HSem → List (Value × Nat × (Addr → Value → Option Addr → TS)) → Prop
  | nil : HdsG X [] [] []
  | cons {c n : Str} {i : Nat} {C : Addr} {sf : SemS} {b0 : Stmt} {suite : List Stmt} {np pos' : Pos} {hds : List ExceptHandler} {hs : List HSem} {l : List (Value × Nat × (Addr → Value → Option Addr → TS))}
      (hm : X.mg c = some (.ref C)) (te : PySem.W.exmOne X.K (.ref C) (.ref C) = some true) (nf : ∀ c' ∈ hs.map (·.1), ∀ C', X.mg c' = some (.ref C') → PySem.W.exmOne X.K (.ref C') (.ref C) = some false)
      (hsu : ∀ (a : Addr) (oe : Obj) (cls : Value) (d : Option Addr) (pn : List (Addr × Obj)), Zc cls d oe → (∃ vs, oe.data = .fields vs) → ∃ ts, GSs (X.suite a ((a, oe) :: pn)) (b0 :: suite) ts sf)
      (r : HdsG X hds hs l) (hi : X.N[i]? = some n := by rfl) (hl : X.env.kindOf n = some .local := by rfl) (hg : Gl X c := by rfl) (hd : (c == Str.ofString "__debug__") = false := by rfl) :
      HdsG X (.ExceptHandler (some (.Name c np)) (some n) (b0 :: suite) pos' :: hds) ((c, i, sf) :: hs) ((.ref C, i, fun _ _ _ => cS X.K sf) :: l)
theorem HdsG.as {X : Cx} {hds : List ExceptHandler} {hs : List HSem} {l : List (Value × Nat × (Addr → Value → Option Addr → TS))} (h : HdsG X hds hs l) : HdsAs X hds l := by
  induction h with
  | nil => exact .nil
  | cons hm te nf hsu _ hi hl hg hd ih => exact .cons ⟨hg, hd, .inl hm⟩ hi hl (fun a oe cls d pn hz hv => (hsu a oe cls d pn hz hv).elim fun _ h => h.canon) ih
theorem HdsG.wish {X : Cx} {hds : List ExceptHandler} {hs : List HSem} {l : List (Value × Nat × (Addr → Value → Option Addr → TS))} (h : HdsG X hds hs l) {P : List (Nat × Addr)} {B0 F B H : Hp} {e : LEnv} {σ : L2.St} {x : ExD} {r : Fl} {Z : Ends} (E : EnvOk X.K P B0 F B H e σ) (hr : sCatch hs x e = some r) (q : FlOk X.K P B0 F Z r) {C : Addr} (hC : X.mg x.cls = some (.ref C)) (d : Option Addr) :
    wManyAs X.K noW Z l (.ref C) d σ H := by
  induction h with
  | nil => cases hr
  | @cons c n i C' sf b0 suite np pos' hds hs l hm te nf hsu r' hi hl hg hd ih =>
    unfold sCatch at hr
    split at hr
    · rename_i ec
      rw [ec, hm] at hC
      cases hC
      split at hr
      case isFalse => cases hr
      rename_i hz
      obtain ⟨r2, h3, h4⟩ := Option.bind_eq_some_iff.mp hr
      refine ⟨true, te, fun _ a ha => ⟨P, B0, F, B, _, r2, E.setU (noRow_ne hz), h3, ?_⟩, fun z => nomatch z⟩
      cases r2 with
      | nx e2 =>
        dsimp only [unset] at h4
        split at h4
        · rename_i hr2; cases h4; exact fun σ2 B2 H2 E2 => q _ B2 H2 (E2.setU (noRow_ne hr2))
        · cases h4
      | rt d2 e2 => cases h4; exact q
      | bk e2 =>
        dsimp only [unset] at h4
        split at h4
        · rename_i hr2; cases h4; exact fun σ2 B2 H2 E2 => q _ B2 H2 (E2.setU (noRow_ne hr2))
        · cases h4
      | ct e2 =>
        dsimp only [unset] at h4
        split at h4
        · rename_i hr2; cases h4; exact fun σ2 B2 H2 E2 => q _ B2 H2 (E2.setU (noRow_ne hr2))
        · cases h4
    · have mem : x.cls ∈ hs.map (·.1) := by
        clear ih nf r'
        induction hs with
        | nil => cases hr
        | cons hd tl ih2 =>
          obtain ⟨c2, i2, f2⟩ := hd
          unfold sCatch at hr
          split at hr
          · rename_i ec; rw [ec]; exact List.mem_cons_self
          · exact List.mem_cons_of_mem _ (ih2 hr)
      exact ⟨false, nf _ mem C hC, (fun z => by cases z), fun _ => ih hr⟩
section
variable {X : Cx}
theorem gs_tryM {h0 : ExceptHandler} {hds : List ExceptHandler} {hs : List HSem} {l : List (Value × Nat × (Addr → Value → Option Addr → TS))} {body : List Stmt} {pos : Pos} {xb : SemX} (hst : X.stack = X.env :: X.outer) (hfr : X.env.frame = some X.env.locals) (hN : X.N.Nodup) (hh : HdsG X (h0 :: hds) hs l)
    (hb : ∀ (W : WX) (pn : List (Addr × Obj)) (xe : Value → Shared → Prop), Takes (X.tr pn xe) W → PassesOwn (model X.prog X.w) X.A X.env xe → ∃ ts, GSsX (X.tr pn xe) W body ts xb) :
    GS X (.Try body (h0 :: hds) [] [] pos) (fun D σ H => cXs X.mg X.K xb (wManyAs X.K noW D l) D σ H) (sTryM hs xb) :=
  ⟨ps_try_manyAs (tb := cXs X.mg X.K xb) hst hfr hN takes0 (fun W pn xe tk po => (hb W pn xe tk po).elim fun _ h => h.canon) hh.as, fun P B0 F B H env σ r E hf Z q => by
    obtain ⟨r1, h1, h2⟩ := Option.bind_eq_some_iff.mp hf
    refine ⟨P, B0, F, B, env, r1, E, h1, ?_⟩
    cases r1 with
    | fl r1 => cases h2; exact q
    | ex x e =>
      intro cls d σ' B' H' E' ⟨C', m1, m2, _⟩
      subst m2
      exact hh.wish E' h2 q m1 d⟩
end
end GL
/-! Lambdas without arguments (perhaps one parameter with a number for its default): made, and called in the frame that made them. -/
namespace GL
open PySem L2 PyProof.Rows LamX

/-- a lambda: its text, the default's number -/
structure Lam where
  params : Arguments
  body : Expr
  scope : Scope
  dflt : Option (Str × Int)
/-- the function object -/
def lamO (q : Str) (L : Lam) (cl : List (Str × Addr)) (dV : Value) (f c' : Addr) : HO := .ext fun h => ∃ pm ctv doc, h.get? f = some (PySem.W.kdv_obj "<lambda>" q L.params (.expr L.body) L.scope cl dV doc pm c' ctv)
theorem lamO_ok {P : Program} {w : World} {H : Hp} {h : Heap} {q : Str} {L : Lam} {cl : List (Str × Addr)} {dV : Value} {f c' : Addr} (e : ∃ pm ctv doc, h.get? f = some (PySem.W.kdv_obj "<lambda>" q L.params (.expr L.body) L.scope cl dV doc pm c' ctv)) : ObjOk P w H h f (lamO q L cl dV f c') := by
  obtain ⟨pm, ctv, doc, e'⟩ := e
  exact ⟨⟨pm, ctv, doc, e'⟩, ⟨_, e'⟩, fun h1 h2 ⟨pm, ctv, doc, e⟩ k => ⟨pm, ctv, doc, k _ e⟩⟩
abbrev lq (X : Cx) : Str := X.env.qual ++ "<lambda>"
/-- the default's tuple -/
def DfAt (H : Hp) (L : Lam) (dV : Value) : Prop := match L.dflt with
  | none => dV = .none
  | some (_, i) => ∃ T, dV = .ref T ∧ H T = some (.tup [.int i])
/-- at f stands the lambda, made in this frame -/
def LamAt (X : Cx) (H : Hp) (L : Lam) (f : Addr) : Prop := ∃ c' dV, H f = some (lamO (lq X) L (cloFrom X.env.cells L.scope.names []) dV f c') ∧ H c' = some (CodeO c' (lq X)) ∧ DfAt H L dV
/-- the table at P: positions that are not in done have no code yet -/
def TabP (H : Hp) (P : Addr) (done : List Pos) : Prop := ∃ ps : Array Value, H P = some (.tbl ps) ∧ TriplesOk ps.toList ∧ ∀ pos : Pos, (∀ p ∈ done, (p.line == pos.line && p.col == pos.col) = false) → codeAmong pos ps.toList = none
theorem TabP.nil {H : Hp} {P : Addr} (h : H P = some (.tbl #[])) : TabP H P [] := ⟨#[], h, True.intro, fun pos _ => by simp [codeAmong]⟩
theorem among_none {pos p' : Pos} {c : Value} (l : List Value) (h : TriplesOk l) (h1 : codeAmong p' l = none) (h2 : (pos.line == p'.line && pos.col == p'.col) = false) : codeAmong p' (l ++ [rawInt pos.line, rawInt pos.col, c]) = none := by
  fun_induction TriplesOk l with
  | case1 =>
    simp only [List.nil_append, rawInt, codeAmong]
    have e : (((pos.line : Nat) : Int) == (p'.line : Int) && ((pos.col : Nat) : Int) == (p'.col : Int)) = false := by
      rw [Bool.and_eq_false_iff] at h2 ⊢
      rcases h2 with h2 | h2
      · left
        rw [beq_eq_false_iff_ne] at h2 ⊢
        omega
      · right
        rw [beq_eq_false_iff_ne] at h2 ⊢
        omega
    rw [if_neg (by rw [e]; exact Bool.false_ne_true)]
  | case2 a t b u x rest ih =>
    simp only [List.cons_append, codeAmong] at h1 ⊢
    split at h1
    · cases h1
    · rename_i q
      rw [if_neg q]
      exact ih h h1
  | case3 l h1 h2 => exact h.elim
section
variable {X : Cx} {pins : List (Addr × Obj)} {σ : L2.St} {H : Hp} {s : Shared}
/-- the heap behind the making, T the default's tuple -/
def mkL (X : Cx) (H : Hp) (P : Addr) (ps : Array Value) (L : Lam) (dV : Value) (c' f : Addr) : Hp := upd (upd (upd H P (.tbl ps)) c' (CodeO c' (lq X))) f (lamO (lq X) L (cloFrom X.env.cells L.scope.names []) dV f c')
theorem lam_tail {c P : Addr} {L : Lam} {pos : Pos} {done : List Pos} {dV : Value} {E : Value → Shared → Prop} {Q : Value → Shared → Prop} (I : Inv X pins σ H s) (TB : TabB X.base X.mg c P) (hcode : X.env.code = .ref c) (hT : TabP H P done) (hp : ∀ p ∈ done, (p.line == pos.line && p.col == pos.col) = false)
    (hfree : ∀ y ∈ L.scope.names, y.2 = .free → ∃ c, X.env.cells.lookup y.1 = some c)
    (h : ∀ ps c' f s', Inv X pins σ (mkL X H P ps L dV c' f) s' → H c' = none → H f = none → f ≠ c' → c' ≠ P → f ≠ P → TabP (mkL X H P ps L dV c' f) P (pos :: done) → Q (.ref f) s') :
    wpAny (model X.prog X.w) X.A (makeTail "<lambda>" (lq X) L.params (.expr L.body) L.scope X.env dV .none none pos pos.line) Q E s := by
  obtain ⟨ps, hP, ht, hn⟩ := hT
  have hP' : s.heap.get? P = some { cls := .none, data := .fields ps } := I.hok P _ hP
  refine PySem.W.kdv_makeTail (mg := X.mg) (c := c) (P := P) (ps := ps) (closure_ok hfree) I.ok.glob (I.mod.glob.keeps I.bk) hcode (TB.code.keeps I.bk) hP' ht (hn pos hp) TB.gP (TB.bm.keeps I.bk) fun c' ctv doc h' tk hx hge hlt hrec htb => ?_
  obtain ⟨c2, oc, vs, t, e2, hoc, hd, hv⟩ := hrec
  cases e2
  have hsz : s.heap.objs.size ≤ h'.objs.size := Nat.le_trans hge (Nat.le_of_lt hlt)
  have nC : H c' = none := I.hok.fresh hge
  have nF : H h'.objs.size = none := I.hok.fresh hsz
  have nFc : h'.objs.size ≠ c' := Nat.ne_of_gt hlt
  have nPc : c' ≠ P := fun z => by rw [z, hP] at nC; cases nC
  have nFP : h'.objs.size ≠ P := fun z => by rw [z, hP] at nF; cases nF
  have I1 := inv_table (t' := tk) (more := #[rawInt pos.line, rawInt pos.col, .ref c']) (h' := h') (q := lq X) I hP (fun b o hb e => hx b o hb e) htb hge ⟨oc, vs, t, hoc, hd, hv⟩
  have I2 : Inv X pins σ (mkL X H P (ps ++ #[rawInt pos.line, rawInt pos.col, .ref c']) L dV c' h'.objs.size) { s with heap := h'.push (PySem.W.kdv_obj "<lambda>" (lq X) L.params (.expr L.body) L.scope (cloFrom X.env.cells L.scope.names []) dV doc ((X.mg "__name__").getD .none) c' ctv), toks := tk } :=
    I1.laid (t' := tk) (fun b o e => Heap.get?_push_of_some _ e) (Nat.le_refl _) (lamO_ok ⟨_, _, _, Heap.get?_push_size _ rfl⟩)
  have eL : (ps ++ #[rawInt pos.line, rawInt pos.col, .ref c']).toList = ps.toList ++ [rawInt pos.line, rawInt pos.col, .ref c'] := by simp
  refine h _ c' _ _ I2 nC nF nFc nPc nFP ⟨_, by unfold mkL; rw [upd_ne (Ne.symm nFP), upd_ne (Ne.symm nPc), upd_same], by rw [eL]; exact PySem.TriplesOk_snoc _ _ _ _ ht, fun p' hp' => ?_⟩
  rw [eL]
  exact among_none _ ht (hn p' fun p m => hp' p (List.mem_cons_of_mem _ m)) (hp' pos List.mem_cons_self)
/-- what the making is -/
def tLam (X : Cx) (L : Lam) (P : Addr) (pos : Pos) (done : List Pos) : TE := fun _ H Q => TabP H P done ∧ match L.dflt with
  | none => ∀ ps c' f, H c' = none → H f = none → f ≠ c' → c' ≠ P → f ≠ P → TabP (mkL X H P ps L .none c' f) P (pos :: done) → Q (.ref f) (mkL X H P ps L .none c' f)
  | some (_, i) => ∀ T, H T = none → ∀ ps c' f, upd H T (.tup [.int i]) c' = none → upd H T (.tup [.int i]) f = none → f ≠ c' → c' ≠ P → f ≠ P → TabP (mkL X (upd H T (.tup [.int i])) P ps L (.ref T) c' f) P (pos :: done) → Q (.ref f) (mkL X (upd H T (.tup [.int i])) P ps L (.ref T) c' f)
theorem TabP.up {P : Addr} {done : List Pos} {H' : Hp} (h : TabP H P done) (e : ∀ o, H P = some o → H' P = some o) : TabP H' P done := let ⟨ps, a, b⟩ := h; ⟨ps, e _ a, b⟩
theorem pe_lam0 {c P : Addr} {L : Lam} {pos : Pos} {done : List Pos} (TB : TabB X.base X.mg c P) (hcode : X.env.code = .ref c) (hp : ∀ p ∈ done, (p.line == pos.line && p.col == pos.col) = false) (hfree : X.Ok → ∀ y ∈ L.scope.names, y.2 = .free → ∃ c, X.env.cells.lookup y.1 = some c) (hdef : defaultsOf L.params X.env = ([], [])) (hd : L.dflt = none) :
    PE X (.Lambda L.params L.body L.scope pos) (tLam X L P pos done) := by
  refine ⟨fun pins s σ H Q I h => ?_⟩
  obtain ⟨hT, h⟩ := h
  rw [hd] at h
  refine PySem.W.kla_eval hdef ?_
  rw [makeFunction_eq]
  simp only [List.zip_nil_right, List.filterMap_nil, List.isEmpty_nil, if_true, pure_bind]
  exact lam_tail I TB hcode hT hp (hfree I.ok) fun ps c' f s' I' a b d e g T' => ⟨.ref f, _, I', rfl, h ps c' f a b d e g T'⟩
theorem pe_lam1 {c P : Addr} {L : Lam} {pos p1 : Pos} {j} {a : Str} {i : Int} {done : List Pos} (TB : TabB X.base X.mg c P) (hcode : X.env.code = .ref c) (hp : ∀ p ∈ done, (p.line == pos.line && p.col == pos.col) = false) (hfree : X.Ok → ∀ y ∈ L.scope.names, y.2 = .free → ∃ c, X.env.cells.lookup y.1 = some c) (hdef : L.params.defaults = [.Constant (.int i) j p1]) (hk : L.params.kw_defaults = []) (hd : L.dflt = some (a, i)) :
    PE X (.Lambda L.params L.body L.scope pos) (tLam X L P pos done) := by
  refine ⟨fun pins s σ H Q I h => ?_⟩
  obtain ⟨hT, h⟩ := h
  rw [hd] at h
  refine PySem.W.kdv_lam (by rw [hdef]; rfl) hk ?_
  rw [hdef]
  refine PySem.W.kdv_all1 (thn ((pe_int (X := X) (i := i) (j := j) (pos := p1)).run pins s σ H (fun v H' => v = .int i ∧ H' = H) I ⟨rfl, rfl⟩) fun u s1 ⟨v, H1, I1, rv, ev, eH⟩ => PySem.W.kdv_all0 ?_)
  subst ev eH
  obtain ⟨t, rfl⟩ := rv
  rw [makeFunction_eq]
  simp only [List.zip_nil_right, List.filterMap_nil, List.isEmpty_nil, if_true, pure_bind, List.isEmpty_cons, Bool.false_eq_true, if_false]
  refine wpAny_bind (wpAny_newTextTuple ?_)
  have nT : H1 s1.heap.objs.size = none := I1.hok.fresh (Nat.le_refl _)
  have I2 : Inv X pins σ (upd H1 s1.heap.objs.size (.tup [.int i])) { s1 with heap := s1.heap.push { cls := .type "tuple", data := .seq [Value.int i t].toArray } } :=
    I1.laid (t' := s1.toks) (fun b o e => Heap.get?_push_of_some _ e) (Nat.le_refl _) (show ObjOk X.prog X.w _ _ _ (.tup [.int i]) from ⟨by show 1 ≤ sizeLine; decide, [.int i t], .cons ⟨t, rfl⟩ .nil, IsTup.new _ _⟩)
  have hT2 : TabP (upd H1 s1.heap.objs.size (.tup [.int i])) P done := hT.up fun o e => by rw [upd_ne (fun z => by rw [z, nT] at e; cases e)]; exact e
  exact lam_tail I2 TB hcode hT2 hp (hfree I.ok) fun ps c' f s' I' a b d e g T' => ⟨.ref f, _, I', rfl, h _ nT ps c' f a b d e g T'⟩
end
end GL
/-! A lambda is called in the frame that made it. -/
namespace GL
open PySem L2 PyProof.Rows LamX

structure LamSc (N : List Str) (sc scope : Scope) : Prop where
  kind : scope.kind = .function
  co : scope.isCoroutine = false
  gen : scope.isGenerator = false
  cel : ∀ y ∈ scope.names, y.2 ≠ .cell
  loc : ∀ y ∈ scope.names, y.2 = .local → y.1 ∉ N
  free : ∀ y ∈ scope.names, y.2 = .free → sc.names.lookup y.1 = some .cell ∨ sc.names.lookup y.1 = some .free
def lamScB (N : List Str) (sc scope : Scope) : Bool :=
  decide (scope.kind = .function) && !scope.isCoroutine && !scope.isGenerator && scope.names.all fun y => !decide (y.2 = .cell) && (!decide (y.2 = .local) || !decide (y.1 ∈ N)) && (!decide (y.2 = .free) || decide (sc.names.lookup y.1 = some .cell) || decide (sc.names.lookup y.1 = some .free))
theorem lamSc_by {N : List Str} {sc scope : Scope} (h : lamScB N sc scope = true) : LamSc N sc scope := by
  unfold lamScB at h
  simp only [Bool.and_eq_true, Bool.or_eq_true, Bool.not_eq_true', decide_eq_true_eq, decide_eq_false_iff_not, List.all_eq_true] at h
  obtain ⟨⟨⟨h1, h2⟩, h3⟩, h4⟩ := h
  refine ⟨h1, h2, h3, fun y hy => (h4 y hy).1.1, fun y hy e => ?_, fun y hy e => ?_⟩
  · rcases (h4 y hy).1.2 with z | z
    · exact absurd e z
    · exact z
  · rcases (h4 y hy).2 with (z | z) | z
    · exact absurd e z
    · exact .inl z
    · exact .inr z
theorem LamSc.has {X : Cx} {scope : Scope} (L : LamSc X.N X.env.scope scope) (ok : X.Ok) : ∀ y ∈ scope.names, y.2 = .free → ∃ c, X.env.cells.lookup y.1 = some c := fun y hy e => by
  rcases L.free y hy e with k | k
  · exact ok.has _ (.inl k)
  · exact ok.has _ (.inr k)
section
variable {X : Cx} {pins : List (Addr × Obj)} {σ : L2.St} {H : Hp} {s : Shared}
theorem lam_startO {E : XK} {scope : Scope} {f c' : Addr} {h₁ : Heap} {tk : Nat} {m1 : Str → Option Value} (I : Inv X pins σ H s) (L : LamSc X.N X.env.scope scope) (hd : X.A.handled = none)
    (hns : h₁.Ns s.heap.objs.size m1) (kp : ∀ b o, s.heap.get? b = some o → h₁.get? b = some o) :
    Inv (lamCx X X.A X.stack s H E scope f c') [] σ H { s with heap := h₁, toks := tk } := by
  have e0 := I.env0
  have hfree := L.has I.ok
  have cm : ∀ {y c}, (cloFrom X.env.cells scope.names []).lookup y = some c → X.env.cells.lookup y = some c := fun {y c} e => by
    rcases cloFrom_mem (PySem.mem_of_lookup e) with hm | ⟨h1, h2⟩
    · cases hm
    · obtain ⟨c1, hc⟩ := hfree _ h1 rfl
      have hc : X.env.cells.lookup y = some c1 := hc
      have e2 : c = c1 := by
        rw [h2, hc] <;> rfl
      rw [e2]
      exact hc
  have look : ∀ {y}, scope.names.lookup y = some .free → ∃ c, (cloFrom X.env.cells scope.names []).lookup y = some c := fun {y} hl => by
    have hy : (y, NameKind.free) ∈ scope.names := PySem.mem_of_lookup hl
    exact mem_lookup (cloFrom_has (cells := X.env.cells) (acc := []) hy)
  have cellK : ∀ {c : Addr} {v : Option Value}, s.heap.IsCell c v → h₁.IsCell c v := fun {c v} ⟨o, ho, hd⟩ => ⟨o, kp _ _ ho, hd⟩
  have noA : ∀ b : Addr, b ∉ (lamCx X X.A X.stack s H E scope f c').ex := fun b z => absurd (show b ∈ ([] : List Addr) from z) (by simp)
  refine ⟨⟨e0.mod, L.kind, rfl, rfl, Nat.le_refl _, fun y z c e1 e2 => I.ok.inj y z c (cm e1) (cm e2), fun y hy => ?_, fun y c z _ => ?_, fun _ => hd, Around.frames_deeper e0.frames, .inr ⟨rfl, rfl⟩, fun b z => absurd z (noA b), e0.bs, e0.bsz, fun b _ _ => noA b,
      fun b z => absurd z (noA b), e0.funs, e0.frf⟩,
    rfl, e0.bare, Un.kept kp, ⟨_, hns, fun i y v e1 e2 e3 => ?_⟩, fun y c e => ?_, e0.hok.fresh (Nat.le_refl _), fun y c e => ?_, fun q hq => absurd (show q ∈ ([] : List (Addr × Obj)) ++ [] from hq) (by simp), e0.hok.kept kp, I.len⟩
  · have hy : scope.names.lookup y = some .cell ∨ scope.names.lookup y = some .free := hy
    rcases hy with hy | hy
    · exact absurd rfl (L.cel _ (PySem.mem_of_lookup hy))
    · exact look hy
  · have z : false = true := z
    cases z
  · have e3 : Vis scope y := e3
    rcases e3 with k | k | k
    · exact absurd (List.mem_of_getElem? e1) (L.loc _ (PySem.mem_of_lookup k) rfl)
    · exact absurd rfl (L.cel _ (PySem.mem_of_lookup k))
    · obtain ⟨m, hn, hl⟩ := I.loc
      have hvis : Vis X.env.scope y := (L.free _ (PySem.mem_of_lookup k) rfl).elim (fun k => .inr (.inl k)) (fun k => .inr (.inr k))
      obtain ⟨w', r, q⟩ := hl i y v e1 e2 hvis
      obtain ⟨c2, h2⟩ := look k
      refine ⟨w', r, .inr ⟨.inr k, c2, h2, ?_⟩⟩
      have c1 := cm h2
      rcases q with ⟨k', _⟩ | ⟨_, c3, e', z⟩
      · have k' : X.env.scope.names.lookup y = some .local := k'
        rcases L.free _ (PySem.mem_of_lookup k) rfl with k2 | k2 <;> rw [show X.env.scope.names.lookup y = _ from k2] at k' <;> cases k'
      · rw [c1] at e'
        cases e'
        exact cellK z
  · obtain ⟨w', z⟩ := I.cell y c (cm e)
    exact ⟨w', cellK z⟩
  · exact I.freeC y c (cm e)
/-- a body's reading, whatever its context -/
def cEX (mg : Str → Option Value) (K : PySem.W.Frag) (f : SemE) (W : WX) : TE := fun σ H Q => ∃ P B0 F B env r, EnvOk K P B0 F B H env σ ∧ f env = some r ∧ RxE mg K P B0 F B σ W Q r
theorem GEX.canon {W : WX} {e : Expr} {te : TE} {f : SemE} (h : GEX X W e te f) : PE X e (cEX X.mg X.K f W) := ⟨fun pns s σ H Q I ⟨P, B0, F, B, env, r, E, hf, q⟩ => h.pe.run pns s σ H Q I (h.ge P B0 F B H env σ r E hf Q q)⟩
/-- what must be known of a lambda to call it: its names, how it binds, its body -/
structure LamOk (X : Cx) (k : Nat) (L : Lam) (fe : SemE) : Prop where
  sc : LamSc X.N X.env.scope L.scope
  bind0 : L.dflt = none → ∀ (q : Str) (cl : List (Str × Addr)) (doc pm cv ctv : Value), bindArgs (PySem.W.kdv_fn "<lambda>" q L.params (.expr L.body) L.scope cl .none doc pm cv ctv) ⟨[], []⟩ = pure []
  bind1 : ∀ a i, L.dflt = some (a, i) → L.scope.names.lookup a = some .local ∧ ∀ (q : Str) (cl : List (Str × Addr)) (doc pm cv ctv : Value) (T : Addr) (v : Value), ∃ kf : Option (Array Value) → PySem.Sem (List (Str × Value)), bindArgs (PySem.W.kdv_fn "<lambda>" q L.params (.expr L.body) L.scope cl (.ref T) doc pm cv ctv) ⟨[], []⟩ = (seqItems? (.ref T) >>= kf) ∧ kf (some #[v]) = pure [(a, v)]
  body : ∀ (A : Around) (outer : List Env) (s : Shared) (H : Hp) (E : XK) (f c' : Addr), Room k (A.deeper (lamEnv X L.scope s.heap.objs.size f c')) → Takes (lamCx X A outer s H E L.scope f c') (fun cls d _ H => E cls d H) → ∃ te, GEX (lamCx X A outer s H E L.scope f c') (fun cls d _ H => E cls d H) L.body te fe
/-- a() in the own frame -/
def tWork (X : Cx) (i : Nat) (Ls : List (Lam × SemE)) (W : WX) : TE := fun σ H Q => ∃ f L fe, (L, fe) ∈ Ls ∧ σ[i]? = some (some (.ref f)) ∧ LamAt X H L f ∧ cEX X.mg X.K fe (fun cls d _ H' => W cls d σ H') σ H Q
theorem pe_work {W : WX} {k i : Nat} {a : Str} {Ls : List (Lam × SemE)} {p1 p2 : Pos} (tk : Takes X W) (hc : X.calm = true) (hr : Room (k + 1) X.A) (hL : ∀ q ∈ Ls, LamOk X k q.1 q.2) (hN : X.N[i]? = some a := by rfl) (hv : Vis X.env.scope a := by first | exact Or.inl rfl | exact Or.inr (Or.inl rfl) | exact Or.inr (Or.inr rfl)) (hd : (a == ("__debug__" : Str)) = false := by decide) (hcd : (a == ("__classdict__" : Str)) = false := by decide) :
    PE X (.Call (.Name a p1) [] [] p2) (tWork X i Ls W) := by
  refine ⟨fun pins s σ H Q I h => ?_⟩
  obtain ⟨f, L, fe, hm, hs, ⟨c', dV, hf, hc', hdf⟩, hb⟩ := h
  have ok := hL _ hm
  refine wpAny_Call_Name_kw (thn ((pe_var (X := X) (pos := p1) (i := i) hN hv hd hcd).run pins s σ H (fun v H1 => v = .ref f ∧ H1 = H) I ⟨.ref f, hs, rfl, rfl⟩) fun u s1 ⟨v, H1, I1, r1, ev, eH⟩ => ?_)
  subst ev eH
  obtain rfl : u = Value.ref f := r1
  obtain ⟨⟨pm, ctv, doc, of1⟩, _, _⟩ := I1.hok f _ hf
  refine PySem.W.callWith_F0 ⟨_, _, _, _, of1⟩ ?_
  obtain ⟨⟨oc, vs, t, hoc, hdc, hvc⟩, _, _⟩ := I1.hok c' _ hc'
  have rc : codeAny (model X.prog X.w) X.A (.call (.ref f) ⟨[], []⟩) (CR (L2.CX X.prog X.w) X.stack X.prog X.w H1 s1 Q (fun cls d H' => W cls d σ H')) s1 := by
    refine PySem.W.kla_callFunE hr.depth of1 rfl ok.sc.co ok.sc.gen rfl ⟨c', oc, vs, t, rfl, hoc, hdc, hvc⟩ ?_
    have fin : ∀ binds : List (Str × Value), (∀ y ∈ binds, L.scope.names.lookup y.1 = some .local) →
        wpAny (model X.prog X.w) X.A.in1 (newFunctionEnv L.scope mainGlobals (cloFrom X.env.cells L.scope.names []) binds ((lq X) ++ ".<locals>.") (some f) (.ref c') none builtinsNs)
        (fun env s₂ => s₂.heap.NoLimit ∧ codeAny (model X.prog X.w) X.A (.expr L.body env) (CR (L2.CX X.prog X.w) X.stack X.prog X.w H1 s1 Q (fun cls d H' => W cls d σ H')) s₂) (fun e s' => CR (L2.CX X.prog X.w) X.stack X.prog X.w H1 s1 Q (fun cls d H' => W cls d σ H') (.error e) s') s1 := fun binds hbl => by
      refine wpAny_newFunctionEnv (fun y hy => ok.sc.cel y hy) hbl (fun h₁ hns hsb => ⟨I1.nolimit.fresh _ hsb, ?_⟩) ok.sc.kind
      show codeAny _ _ (.expr L.body (lamEnv X L.scope s1.heap.objs.size f c')) _ _
      have kp : ∀ b o, s1.heap.get? b = some o → h₁.get? b = some o := fun b o e => hsb.extBut b o (Nat.ne_of_lt (Heap.lt_size e)) (Heap.get?_push_of_some _ e)
      have J : Inv (lamCx X X.A X.stack s1 H1 (fun cls d H' => W cls d σ H') L.scope f c') [] σ H1 { s1 with heap := h₁, toks := s1.toks + binds.length } :=
        lam_startO I1 ok.sc (I1.ok.hd hc) hns kp
      have tk2 : Takes (lamCx X X.A X.stack s1 H1 (fun cls d H' => W cls d σ H') L.scope f c') (fun cls d _ H => W cls d σ H) := takes_of (E := fun cls d H' => W cls d σ H') rfl rfl rfl rfl
      obtain ⟨te, gb⟩ := ok.body X.A X.stack s1 H1 (fun cls d H' => W cls d σ H') f c' (hr.deeper _) tk2
      have hb' : cEX X.mg X.K fe (fun cls d _ H' => W cls d σ H') σ H1 Q := hb
      refine PySem.W.kla_codeExpr (wpAny_mono ((gb.canon).run [] _ σ H1 Q J hb') (fun v s' hq => ?_) fun e s' hq => hq)
      obtain ⟨w', H', J', rv, q⟩ := hq
      exact ⟨w', H', J'.os, J'.bare, J'.base, J'.hok, rv, q⟩
    unfold DfAt at hdf
    cases hdd : L.dflt with
    | none =>
      rw [hdd] at hdf
      subst hdf
      have hb0 := ok.bind0 hdd (lq X) (cloFrom X.env.cells L.scope.names []) doc pm (.ref c') ctv
      show wpAny _ _ (bindArgs (PySem.W.kdv_fn "<lambda>" (lq X) L.params (.expr L.body) L.scope (cloFrom X.env.cells L.scope.names []) .none doc pm (.ref c') ctv) ⟨[], []⟩) _ _ _
      rw [hb0]
      exact wpAny_pure (fin [] (fun y hy => by cases hy))
    | some q =>
      obtain ⟨a', i'⟩ := q
      rw [hdd] at hdf
      obtain ⟨T, eT, hT⟩ := hdf
      subst eT
      obtain ⟨hl, hbd⟩ := ok.bind1 a' i' hdd
      obtain ⟨_, its, rv, tp⟩ := I1.hok T _ hT
      cases rv with
      | @cons _ v _ _ r1 r2 =>
        cases r2
        obtain ⟨oT, e1, e2, n, e3⟩ := tp
        obtain ⟨kf, k1, k2⟩ := hbd (lq X) (cloFrom X.env.cells L.scope.names []) doc pm (.ref c') ctv T v
        refine BindsTo.of_defaults (s := s1) rfl e1 e3 k1 k2 _ _ _ _ (fin [(a', v)] (fun y hy => by rw [List.mem_singleton.mp hy]; exact hl))
  refine wpAny_call (codeAny_mono rc fun r s' hq => ?_)
  cases r with
  | error e => exact tk e s' (XE.of_call I1 (fun _ _ _ h => h) hq)
  | ok fl =>
    cases fl with
    | ret u => exact I1.after hq
    | next => exact False.elim hq
    | brk => exact False.elim hq
    | cont => exact False.elim hq
end
end GL
/-! for work in [lambda: .., ..]: try: work() except ..: the last statements of a law. -/
namespace GL
open PySem L2 PyProof.Rows LamX

theorem DfAt.up {H H' : Hp} {L : Lam} {dV : Value} (e : Same H H') (h : DfAt H L dV) : DfAt H' L dV := by
  unfold DfAt at h ⊢
  cases hd : L.dflt with
  | none => rw [hd] at h; exact h
  | some q => rw [hd] at h; obtain ⟨T, a, b⟩ := h; exact ⟨T, a, e _ _ b⟩
theorem LamAt.up {X : Cx} {H H' : Hp} {L : Lam} {f : Addr} (e : Same H H') (h : LamAt X H L f) : LamAt X H' L f := by
  obtain ⟨c', dV, a, b, c⟩ := h
  exact ⟨c', dV, e _ _ a, e _ _ b, c.up e⟩
section
variable {K : PySem.W.Frag} {Pn : List (Nat × Addr)} {B0 F B H : Hp} {env : LEnv} {σ : L2.St}
theorem EnvOk.notTbl {P : Addr} {ps : Array Value} (E : EnvOk K Pn B0 F B H env σ) (hP : H P = some (.tbl ps)) (j : Nat) (t : Slot) (e : env[j]? = some t) : ¬ OwnA t σ[j]? P := fun oa => by
  obtain ⟨o1, o2⟩ := oa
  have q := E.at_ j t e
  cases t with
  | un => cases o1
  | val d => cases o1
  | ol ds => obtain ⟨l, vs, e, q, i⟩ := q; rw [o2] at e; cases e; rw [hP] at q; cases q
  | row st => obtain ⟨l, vs, e, q, i⟩ := q; rw [o2] at e; cases e; rw [hP] at q; cases q
  | dk ds => obtain ⟨l, vs, e, q, i⟩ := q; rw [o2] at e; cases e; rw [hP] at q; cases q
  | dt ds => obtain ⟨l, vs, e, q, i⟩ := q; rw [o2] at e; cases e; rw [hP] at q; cases q
  | dn ds => obtain ⟨l, vs, e, q, i⟩ := q; rw [o2] at e; cases e; rw [hP] at q; unfold dnO at q; cases q
  | ln ds => obtain ⟨l, vs, e, q, i⟩ := q; rw [o2] at e; cases e; rw [hP] at q; unfold dnO at q; cases q
/-- new objects that will not change; the table at P may -/
theorem EnvOk.more {P : Addr} {ps : Array Value} {S : List Addr} {H' : Hp} (E : EnvOk K Pn B0 F B H env σ) (hP : H P = some (.tbl ps)) (bP : B P = none) (fP : F P = none) (hk : ∀ b o, H b = some o → b ≠ P → H' b = some o) (hS : ∀ b ∈ S, H b = none) :
    EnvOk K Pn B0 F (fun a => if a ∈ S then H' a else B a) H' env σ ∧ Same B (fun a => if a ∈ S then H' a else B a) := by
  have sb : Same B (fun a => if a ∈ S then H' a else B a) := fun a o h => by
    show (if a ∈ S then H' a else B a) = _
    rw [if_neg (fun m => by have := E.bh _ _ h; rw [hS a m] at this; cases this)]
    exact h
  have nS : ∀ {a o}, H a = some o → a ∉ S := fun {a o} h m => by rw [hS a m] at h; cases h
  refine ⟨⟨E.b0.trans sb, fun a o h => ?_, fun a o h => ?_, E.len, fun i s e => ?_, fun i s a e oa => ?_, E.sep, E.pin⟩, sb⟩
  · have h' : (if a ∈ S then H' a else B a) = some o := h
    split at h'
    · exact h'
    · exact hk a o (E.bh _ _ h') (fun z => by rw [z, bP] at h'; cases h')
  · obtain ⟨h1, h2⟩ := E.fr a o h
    refine ⟨hk a o h1 (fun z => by rw [z, fP] at h; cases h), ?_⟩
    show (if a ∈ S then H' a else B a) = none ∨ _
    rw [if_neg (nS h1)]
    exact h2
  · exact (E.at_ i s e).up sb fun a o oa h => hk a o h fun z => by rw [z] at oa; exact E.notTbl hP i s e oa
  · obtain ⟨h1, h2⟩ := E.own i s a e oa
    obtain ⟨u, hu, _⟩ := (E.at_ i s e).there oa
    refine ⟨?_, h2⟩
    show (if a ∈ S then H' a else B a) = none
    rw [if_neg (nS hu)]
    exact h1
/-- a few others' objects are let go -/
theorem EnvOk.lessF {P : Addr} (E : EnvOk K Pn B0 F B H env σ) : EnvOk K Pn B0 (fun a => if a = P then none else F a) B H env σ :=
  { E with
    fr := fun a o h => by
      have h' : (if a = P then none else F a) = some o := h
      split at h'
      · cases h'
      · exact E.fr a o h'
    own := fun i s a e oa => ⟨(E.own i s a e oa).1, by
      show (if a = P then none else F a) = none
      split
      · rfl
      · exact (E.own i s a e oa).2⟩ }
end
/-! ### a list of lambdas -/
def tLams (X : Cx) (P : Addr) : List (Lam × Pos) → List Pos → TA
  | [], _ => tNil
  | (L, pos) :: r, done => tCons (tLam X L P pos done) (tLams X P r (pos :: done))
inductive LamsAt (X : Cx) (B : Hp) : List Addr → List (Lam × Pos) → Prop
  | nil : LamsAt X B [] []
  | cons {f : Addr} {fs : List Addr} {L : Lam} {pos : Pos} {r : List (Lam × Pos)} : LamAt X B L f → LamsAt X B fs r → LamsAt X B (f :: fs) ((L, pos) :: r)
theorem LamsAt.up {X : Cx} {B B' : Hp} (e : Same B B') {fs : List Addr} {Ls : List (Lam × Pos)} (h : LamsAt X B fs Ls) : LamsAt X B' fs Ls := by
  induction h with
  | nil => exact .nil
  | cons a _ ih => exact .cons (a.up e) ih
theorem LamsAt.app {X : Cx} {B : Hp} {fs gs : List Addr} {Ls Ms : List (Lam × Pos)} (h : LamsAt X B fs Ls) (h' : LamsAt X B gs Ms) : LamsAt X B (fs ++ gs) (Ls ++ Ms) := by
  induction h with
  | nil => exact h'
  | cons a _ ih => exact .cons a ih
theorem LamsAt.len {X : Cx} {B : Hp} {fs : List Addr} {Ls : List (Lam × Pos)} (h : LamsAt X B fs Ls) : fs.length = Ls.length := by
  induction h with
  | nil => rfl
  | cons _ _ ih => simp [ih]
section
variable {X : Cx} {Pn : List (Nat × Addr)} {B0 F B H : Hp} {env : LEnv} {σ : L2.St}
theorem lam_ok {P : Addr} {L : Lam} {pos : Pos} {done : List Pos} (E : EnvOk X.K Pn B0 F B H env σ) (hT : TabP H P done) (bP : B P = none) (fP : F P = none) (Q : VK)
    (q : ∀ f B' H', EnvOk X.K Pn B0 F B' H' env σ → Same B B' → B' P = none → TabP H' P (pos :: done) → LamAt X B' L f → Q (.ref f) H') : tLam X L P pos done σ H Q := by
  refine ⟨hT, ?_⟩
  obtain ⟨ps0, hP, _⟩ := id hT
  cases hd : L.dflt with
  | none =>
    intro ps c' f hc hf nfc ncp nfp T'
    obtain ⟨E', sb⟩ := E.more (S := [f, c']) (H' := mkL X H P ps L .none c' f) hP bP fP (fun b o h n => by
      unfold mkL
      rw [upd_ne (fun z => by rw [z, hf] at h; cases h), upd_ne (fun z => by rw [z, hc] at h; cases h), upd_ne n]
      exact h) (fun b hb => by
      rcases List.mem_cons.mp hb with z | z
      · rw [z]; exact hf
      · rw [List.mem_singleton.mp z]; exact hc)
    refine q f _ _ E' sb ?_ T' ⟨c', .none, ?_, ?_, ?_⟩
    · show (if P ∈ [f, c'] then _ else B P) = none
      rw [if_neg (by simp only [List.mem_cons, List.not_mem_nil, or_false, not_or]; exact ⟨Ne.symm nfp, Ne.symm ncp⟩)]
      exact bP
    · show (if f ∈ [f, c'] then _ else B f) = _
      rw [if_pos (by simp)]
      unfold mkL
      rw [upd_same]
    · show (if c' ∈ [f, c'] then _ else B c') = _
      rw [if_pos (by simp)]
      unfold mkL
      rw [upd_ne (Ne.symm nfc), upd_same]
    · unfold DfAt; rw [hd]
  | some p =>
    obtain ⟨a, i⟩ := p
    intro T hTn ps c' f hc hf nfc ncp nfp T'
    have tc : c' ≠ T := fun z => by rw [z, upd_same] at hc; cases hc
    have tf : f ≠ T := fun z => by rw [z, upd_same] at hf; cases hf
    have hc0 : H c' = none := by rw [upd_ne tc] at hc; exact hc
    have hf0 : H f = none := by rw [upd_ne tf] at hf; exact hf
    have tP : P ≠ T := fun z => by rw [← z, hP] at hTn; cases hTn
    obtain ⟨E', sb⟩ := E.more (S := [f, c', T]) (H' := mkL X (upd H T (.tup [.int i])) P ps L (.ref T) c' f) hP bP fP (fun b o h n => by
      unfold mkL
      rw [upd_ne (fun z => by rw [z, hf0] at h; cases h), upd_ne (fun z => by rw [z, hc0] at h; cases h), upd_ne n, upd_ne (fun z => by rw [z, hTn] at h; cases h)]
      exact h) (fun b hb => by
      rcases List.mem_cons.mp hb with z | z
      · rw [z]; exact hf0
      · rcases List.mem_cons.mp z with z | z
        · rw [z]; exact hc0
        · rw [List.mem_singleton.mp z]; exact hTn)
    refine q f _ _ E' sb ?_ T' ⟨c', .ref T, ?_, ?_, ?_⟩
    · show (if P ∈ [f, c', T] then _ else B P) = none
      rw [if_neg (by simp only [List.mem_cons, List.not_mem_nil, or_false, not_or]; exact ⟨Ne.symm nfp, Ne.symm ncp, tP⟩)]
      exact bP
    · show (if f ∈ [f, c', T] then _ else B f) = _
      rw [if_pos (by simp)]
      unfold mkL
      rw [upd_same]
    · show (if c' ∈ [f, c', T] then _ else B c') = _
      rw [if_pos (by simp)]
      unfold mkL
      rw [upd_ne (Ne.symm nfc), upd_same]
    · unfold DfAt
      rw [hd]
      refine ⟨T, rfl, ?_⟩
      show (if T ∈ [f, c', T] then _ else B T) = _
      rw [if_pos (by simp)]
      unfold mkL
      rw [upd_ne (Ne.symm tf), upd_ne (Ne.symm tc), upd_ne (Ne.symm tP), upd_same]
theorem lams_ok {P : Addr} : ∀ (Ls : List (Lam × Pos)) (done : List Pos) {B H : Hp}, EnvOk X.K Pn B0 F B H env σ → TabP H P done → B P = none → F P = none → ∀ Q : List V → Hp → Prop,
    (∀ fs B' H', EnvOk X.K Pn B0 F B' H' env σ → Same B B' → B' P = none → (∃ done', done' = (Ls.map (·.2)).reverse ++ done ∧ TabP H' P done') → LamsAt X B' fs Ls → Q (fs.map V.ref) H') → tLams X P Ls done σ H Q
  | [], done, B, H, E, hT, bP, fP, Q, q => q [] B H E (Same.refl _) bP ⟨done, by simp, hT⟩ .nil
  | (L, pos) :: r, done, B, H, E, hT, bP, fP, Q, q => by
    show tLam X L P pos done σ H fun x H1 => tLams X P r (pos :: done) σ H1 fun xs H2 => Q (x :: xs) H2
    refine lam_ok E hT bP fP _ fun f B1 H1 E1 s1 b1 T1 l1 => ?_
    refine lams_ok r (pos :: done) E1 T1 b1 fP _ fun fs B2 H2 E2 s2 b2 T2 l2 => ?_
    obtain ⟨d', e', T2⟩ := T2
    exact q (f :: fs) B2 H2 E2 (s1.trans s2) b2 ⟨d', by rw [e']; simp, T2⟩ (.cons (l1.up s2) l2)
end
/-! ### the loop -/
def sForLam (hs : List HSem) (iw : Nat) : List SemE → SemS
  | [] => fun env => some (.nx env)
  | fe :: r => fun env => if noRow env iw = true then (sTryM hs (xExprX fe) (env.set iw .un)).bind fun r1 => match r1 with
    | .nx e => sForLam hs iw r e
    | .ct e => sForLam hs iw r e
    | .bk e => some (.nx e)
    | .rt d e => some (.rt d e)
    else none
theorem LamOk.tr {X : Cx} {pn : List (Addr × Obj)} {xe : Value → Shared → Prop} {k : Nat} {L : Lam} {fe : SemE} (h : LamOk X k L fe) : LamOk (X.tr pn xe) k L fe := ⟨h.sc, h.bind0, h.bind1, h.body⟩
/-- the try statement in the loop -/
abbrev tTryL (X : Cx) (iw : Nat) (Ls : List (Lam × SemE)) (l : List (Value × Nat × (Addr → Value → Option Addr → TS))) : TS := fun D σ H => tDrop (tWork X iw Ls (wManyAs X.K noW D l)) D σ H
theorem ps_tryL {X : Cx} {k iw : Nat} {a : Str} {Ls : List (Lam × SemE)} {h0 : ExceptHandler} {hds : List ExceptHandler} {hs : List HSem} {l : List (Value × Nat × (Addr → Value → Option Addr → TS))} {p1 p2 p3 pos : Pos} (hst : X.stack = X.env :: X.outer) (hfr : X.env.frame = some X.env.locals) (hN : X.N.Nodup) (hc : X.calm = true) (hr : Room (k + 1) X.A) (hL : ∀ q ∈ Ls, LamOk X k q.1 q.2) (hh : HdsG X (h0 :: hds) hs l)
    (hNi : X.N[iw]? = some a := by rfl) (hv : Vis X.env.scope a := by first | exact Or.inl rfl | exact Or.inr (Or.inl rfl) | exact Or.inr (Or.inr rfl)) (hd : (a == ("__debug__" : Str)) = false := by decide) (hcd : (a == ("__classdict__" : Str)) = false := by decide)
    (hs' : swapsWith (.Call (.Name a p1) [] [] p2) none p3.line X.env = pure false := by rfl) : PS X (.Try [.Expr (.Call (.Name a p1) [] [] p2) p3] (h0 :: hds) [] [] pos) (tTryL X iw Ls l) :=
  ps_try_manyAs (tb := fun W => tDrop (tWork X iw Ls W)) hst hfr hN L2.takes0 (fun W pn xe tk po => pss_one (ps_expr (pe_work (X := X.tr pn xe) tk hc hr (fun q hq => (hL q hq).tr) hNi hv hd hcd) hs')) hh.as
theorem tryL_ok {X : Cx} {iw : Nat} {Ls : List (Lam × SemE)} {hds : List ExceptHandler} {hs : List HSem} {l : List (Value × Nat × (Addr → Value → Option Addr → TS))} (hh : HdsG X hds hs l) {Pn : List (Nat × Addr)} {B0 F B H : Hp} {env : LEnv} {σ : L2.St} {f : Addr} {L : Lam} {fe : SemE} {r : Fl} {Z : Ends}
    (E : EnvOk X.K Pn B0 F B H env σ) (hm : (L, fe) ∈ Ls) (hσ : σ[iw]? = some (some (.ref f))) (hl : LamAt X B L f) (hf : sTryM hs (xExprX fe) env = some r) (q : FlOk X.K Pn B0 F Z r) : tTryL X iw Ls l Z σ H := by
  obtain ⟨r1, h1, h2⟩ := Option.bind_eq_some_iff.mp hf
  obtain ⟨r2, h3, h4⟩ := Option.map_eq_some_iff.mp h1
  subst h4
  refine ⟨f, L, fe, hm, hσ, hl.up E.bh, Pn, B0, F, B, env, r2, E, h3, ?_⟩
  cases r2 with
  | ok d e => cases h2; exact fun v B' H' E' s iv => q σ B' H' E'
  | er x e =>
    intro cls dd B' H' E' ⟨C', m1, m2, _⟩
    subst m2
    exact hh.wish E' h2 q m1 dd
theorem LamsAt.get {X : Cx} {B : Hp} {fs : List Addr} {Ls : List (Lam × Pos)} (h : LamsAt X B fs Ls) {j : Nat} {f : Addr} (e : fs[j]? = some f) : ∃ L pos, Ls[j]? = some (L, pos) ∧ LamAt X B L f := by
  induction h generalizing j with
  | nil => simp at e
  | cons a _ ih =>
    cases j with
    | zero => simp at e; subst e; exact ⟨_, _, rfl, a⟩
    | succ j => simpa using ih (by simpa using e)
/-- the walk over the lambdas -/
theorem loopL_ok {X : Cx} {iw : Nat} {Ms : List (Lam × Pos)} {fes : List SemE} {hds : List ExceptHandler} {hs : List HSem} {l : List (Value × Nat × (Addr → Value → Option Addr → TS))} (hh : HdsG X hds hs l) (hlen : fes.length = Ms.length) {Pn : List (Nat × Addr)} {B0 F B H : Hp} {env : LEnv} {σ : L2.St} {a : Addr} {fs : List Addr} {r : Fl} {Z : Ends}
    (E : EnvOk X.K Pn B0 F B H env σ) (ha : B a = some (.lst (fs.map V.ref))) (hl : LamsAt X B fs Ms) (hf : sForLam hs iw fes env = some r) (q : FlOk X.K Pn B0 F Z r) (te : TE) (ht : ∀ Q : VK, Q (.ref a) H → te σ H Q) :
    tFor (iSeq X.K te) (gName iw) (tTryL X iw ((Ms.map (·.1)).zip fes) l) Z σ H := by
  refine ht _ ⟨a, rfl, .inl ⟨⟨_, SqL.of (E.bh _ _ ha)⟩, ?_⟩⟩
  refine ⟨fun i m σ H => m = fes.length - i ∧ i ≤ fes.length ∧ ∃ B1 env, EnvOk X.K Pn B0 F B1 H env σ ∧ Same B B1 ∧ sForLam hs iw (fes.drop i) env = some r, ⟨_, rfl, Nat.zero_le _, B, env, E, Same.refl _, hf⟩, ?_⟩
  rintro i m σ1 H1 ⟨rfl, hle, B1, env1, E1, sB, hf1⟩
  have hfl : fs.length = fes.length := by rw [hl.len, hlen]
  have sq : SqL X.K H1 a (fs.map V.ref) := SqL.of (E1.bh _ _ (sB _ _ ha))
  by_cases hlt : i < fes.length
  · have hfi : fs[i]? = some (fs[i]'(by omega)) := List.getElem?_eq_getElem (by omega)
    obtain ⟨L, pos, hL1, hL2⟩ := hl.get hfi
    refine .inr ⟨⟨_, V.ref (fs[i]'(by omega)), sq, by rw [List.getElem?_map, hfi]; rfl⟩, fun σ2 H2 => ∃ m', m' < fes.length - i ∧ (m' = fes.length - (i + 1) ∧ i + 1 ≤ fes.length ∧ ∃ B1 env, EnvOk X.K Pn B0 F B1 H2 env σ2 ∧ Same B B1 ∧ sForLam hs iw (fes.drop (i + 1)) env = some r), fun σ2 H2 h => h, fun x H2 hy => ?_⟩
    obtain ⟨eH, y⟩ := hy
    subst eH
    have ex : x = .ref (fs[i]'(by omega)) := by
      have := y _ sq
      rw [List.getElem?_map, hfi] at this
      exact (Option.some.inj this).symm
    subst ex
    rw [List.drop_eq_getElem_cons hlt] at hf1
    unfold sForLam at hf1
    split at hf1
    case isFalse => cases hf1
    rename_i hnr
    obtain ⟨r1, h1, h2⟩ := Option.bind_eq_some_iff.mp hf1
    have E2 : EnvOk X.K Pn B0 F B1 H2 (env1.set iw .un) (σ1.set iw (some (.ref (fs[i]'(by omega))))) := E1.setU (noRow_ne hnr)
    have hil : iw < σ1.length := by
      unfold noRow at hnr
      cases q1 : env1[iw]? with
      | none => rw [q1] at hnr; cases hnr
      | some s => rw [← E1.len]; exact (List.getElem?_eq_some_iff.mp q1).1
    have mem : (L, fes[i]) ∈ (Ms.map (·.1)).zip fes := by
      refine List.mem_of_getElem? (i := i) ?_
      rw [List.getElem?_zip_eq_some]
      exact ⟨by rw [List.getElem?_map, hL1]; rfl, List.getElem?_eq_getElem hlt⟩
    refine tryL_ok hh E2.rebase mem (List.getElem?_set_self hil) (hL2.up sB) h1 ?_
    have next : ∀ (e : LEnv), sForLam hs iw (fes.drop (i + 1)) e = some r → ∀ σ4 B4 H4, EnvOk X.K Pn B1 F B4 H4 e σ4 → ∃ m', m' < fes.length - i ∧ (m' = fes.length - (i + 1) ∧ i + 1 ≤ fes.length ∧ ∃ B1 env, EnvOk X.K Pn B0 F B1 H4 env σ4 ∧ Same B B1 ∧ sForLam hs iw (fes.drop (i + 1)) env = some r) :=
      fun e he σ4 B4 H4 E4 => ⟨_, by omega, rfl, hlt, B4, e, E4.back E1.b0, sB.trans E4.b0, he⟩
    cases r1 with
    | nx e => exact fun σ4 B4 H4 E4 => next e h2 σ4 B4 H4 E4
    | ct e => exact fun σ4 B4 H4 E4 => next e h2 σ4 B4 H4 E4
    | bk e => cases h2; exact fun σ4 B4 H4 E4 => q σ4 B4 H4 (E4.back E1.b0)
    | rt d e => cases h2; exact fun v σ4 B4 H4 E4 i4 => q v σ4 B4 H4 (E4.back E1.b0) i4
  · have e : i = fes.length := by omega
    subst e
    rw [List.drop_length] at hf1
    cases hf1
    exact .inl ⟨⟨_, sq, by rw [List.length_map]; omega⟩, q _ _ _ E1⟩
end GL
/-! The tail of a law that makes lambdas. -/
namespace GL
open PySem L2 PyProof.Rows LamX

def GsT (K : PySem.W.Frag) (Pt : Addr) (ts : TS) (f : SemS) : Prop := ∀ (Pn : List (Nat × Addr)) (B0 F B H : Hp) (env : LEnv) (σ : L2.St) (d : D) (e : LEnv), EnvOk K Pn B0 F B H env σ → F Pt = some (.tbl #[]) → f env = some (.rt d e) →
  ∀ Z : Ends, (∀ F' v σ' B' H', EnvOk K Pn B0 F' B' H' e σ' → Is K B' v d → Z.rt v H') → ts Z σ H
structure GSsT (X : Cx) (Pt : Addr) (st : List Stmt) (ts : TS) (f : SemS) : Prop where
  ps : PSs X st ts
  gs : GsT X.K Pt ts f
section
variable {X : Cx} {Pt : Addr}
theorem gsst_cons {st : Stmt} {rest : List Stmt} {t u : TS} {f g : SemS} (h : GS X st t f) (h' : GSsT X Pt rest u g) : GSsT X Pt (st :: rest) (tSeq t u) (sSeq f g) := ⟨pss_cons h.ps h'.ps, fun Pn B0 F B H env σ d e E hF hf Z q => by
  obtain ⟨r1, h1, h2⟩ := Option.bind_eq_some_iff.mp hf
  refine h.gs Pn B0 F B H env σ r1 E h1 _ ?_
  cases r1 with
  | nx e1 => exact fun σ' B' H' E' => h'.gs Pn B0 F B' H' e1 σ' d e E' hF h2 Z q
  | rt d1 e1 => cases h2; exact fun v σ' B' H' E' i => q F v σ' B' H' E' i
  | bk e1 => cases h2
  | ct e1 => cases h2⟩
theorem gsst_lift {st : List Stmt} {t : TS} {f : SemS} (h : GSs X st t f) : GSsT X Pt st t f := ⟨h.ps, fun Pn B0 F B H env σ d e E hF hf Z q => h.gs Pn B0 F B H env σ _ E hf Z fun v σ' B' H' E' i => q F v σ' B' H' E' i⟩
/-! ### lists of lambdas -/
theorem pla_nil {P : Addr} {done : List Pos} : PA X [] (tLams X P [] done) := pa_nil
theorem pla_0 {c P : Addr} {params : Arguments} {body : Expr} {scope : Scope} {pos : Pos} {done : List Pos} {es : List Expr} {Ms : List (Lam × Pos)} (TB : TabB X.base X.mg c P) (hcode : X.env.code = .ref c) (hr : PA X es (tLams X P Ms (pos :: done))) (hsc : LamSc X.N X.env.scope scope) (hp : ∀ p ∈ done, (p.line == pos.line && p.col == pos.col) = false) (hdef : defaultsOf params X.env = ([], []))
    (hs : starEach (.Lambda params body scope pos :: es) X.env = (false, eval (.Lambda params body scope pos) X.env) :: starEach es X.env := by rfl) : PA X (.Lambda params body scope pos :: es) (tLams X P ((⟨params, body, scope, none⟩, pos) :: Ms) done) :=
  pa_cons (pe_lam0 (L := ⟨params, body, scope, none⟩) TB hcode hp (fun ok => hsc.has ok) hdef rfl) hr hs
theorem pla_1 {c P : Addr} {params : Arguments} {body : Expr} {scope : Scope} {pos p1 : Pos} {j} {a : Str} {i : Int} {done : List Pos} {es : List Expr} {Ms : List (Lam × Pos)} (TB : TabB X.base X.mg c P) (hcode : X.env.code = .ref c) (hr : PA X es (tLams X P Ms (pos :: done))) (hsc : LamSc X.N X.env.scope scope) (hp : ∀ p ∈ done, (p.line == pos.line && p.col == pos.col) = false) (hdef : params.defaults = [.Constant (.int i) j p1]) (hk : params.kw_defaults = [])
    (hs : starEach (.Lambda params body scope pos :: es) X.env = (false, eval (.Lambda params body scope pos) X.env) :: starEach es X.env := by rfl) : PA X (.Lambda params body scope pos :: es) (tLams X P ((⟨params, body, scope, some (a, i)⟩, pos) :: Ms) done) :=
  pa_cons (pe_lam1 (L := ⟨params, body, scope, some (a, i)⟩) TB hcode hp (fun ok => hsc.has ok) hdef hk rfl) hr hs
end
section
variable {K : PySem.W.Frag} {Pn : List (Nat × Addr)} {B0 F B H : Hp} {env : LEnv} {σ : L2.St}
/-- a new list of what is told, put into B -/
theorem EnvOk.newB {p : Addr} {vs : List V} (E : EnvOk K Pn B0 F B H env σ) (hp : H p = none) : EnvOk K Pn B0 F (upd B p (.lst vs)) (upd H p (.lst vs)) env σ ∧ Same B (upd B p (.lst vs)) :=
  ⟨E.grow (Grow.new E.bh hp), (Grow.new (o := .lst vs) E.bh hp).b⟩
end
section
variable {X : Cx} {Pt : Addr}
theorem tab_start {Pn : List (Nat × Addr)} {B0 F B H : Hp} {env : LEnv} {σ : L2.St} (E : EnvOk X.K Pn B0 F B H env σ) (hF : F Pt = some (.tbl #[])) :
    EnvOk X.K Pn B0 (fun a => if a = Pt then none else F a) B H env σ ∧ TabP H Pt [] ∧ B Pt = none ∧ (fun a => if a = Pt then none else F a) Pt = none := by
  obtain ⟨h1, h2⟩ := E.fr _ _ hF
  exact ⟨E.lessF, .nil h1, h2.elim id (fun z => by cases z), if_pos rfl⟩
/-- for work in [lambda: .., ..]: try: work() except ..; then the rest -/
theorem gsst_forL {k iw : Nat} {es : List Expr} {Ms : List (Lam × Pos)} {fes : List SemE} {a : Str} {h0 : ExceptHandler} {hds : List ExceptHandler} {hs : List HSem} {l : List (Value × Nat × (Addr → Value → Option Addr → TS))} {p0 p1 p2 p3 pos pos1 pos2 : Pos} {rest : List Stmt} {u : TS} {g : SemS}
    (hst : X.stack = X.env :: X.outer) (hfr : X.env.frame = some X.env.locals) (hN : X.N.Nodup) (hc : X.calm = true) (hr : Room (k + 1) X.A) (hp : PassesOwn (model X.prog X.w) X.A X.env X.xe) (hla : PA X es (tLams X Pt Ms [])) (hlen : fes.length = Ms.length) (hsz : Ms.length ≤ sizeLine) (hL : ∀ q ∈ (Ms.map (·.1)).zip fes, LamOk X k q.1 q.2) (hh : HdsG X (h0 :: hds) hs l) (hrest : GSs X rest u g)
    (hNi : X.N[iw]? = some a := by rfl) (hx : Loc X.env.scope a := by first | exact .inl rfl | exact .inr rfl) (hfn : X.fn a = true ∨ X.env.scope.names.lookup a = some .local := by first | exact .inl rfl | exact .inr rfl | assumption) (hv : Vis X.env.scope a := by first | exact Or.inl rfl | exact Or.inr (Or.inl rfl) | exact Or.inr (Or.inr rfl)) (hd : (a == ("__debug__" : Str)) = false := by decide) (hcd : (a == ("__classdict__" : Str)) = false := by decide)
    (hs' : swapsWith (.Call (.Name a p1) [] [] p2) none p3.line X.env = pure false := by rfl) (hf : ∀ x, foldedSetIterable (.List es pos1) X.env x = pure x := by intro _; rfl) :
    GSsT X Pt (.For (.Name a p0) (.List es pos1) [.Try [.Expr (.Call (.Name a p1) [] [] p2) p3] (h0 :: hds) [] [] pos] [] pos2 :: rest)
      (tSeq (tFor (iSeq X.K (tLst (tLams X Pt Ms []))) (gName iw) (tTryL X iw ((Ms.map (·.1)).zip fes) l)) u) (sSeq (sForLam hs iw fes) g) := by
  refine ⟨pss_cons (ps_for hp hc (pi_seq (pe_lst hla)) (pg_name hN hNi hx hfn) (pss_one (ps_tryL hst hfr hN hc hr hL hh hNi hv hd hcd hs')) hf) hrest.ps, fun Pn B0 F B H env σ d e E hF hf Z q => ?_⟩
  obtain ⟨r1, h1, h2⟩ := Option.bind_eq_some_iff.mp hf
  obtain ⟨E0, T0, b0, f0⟩ := tab_start E hF
  refine lams_ok Ms [] E0 T0 b0 f0 _ fun fs B1 H1 E1 s1 b1 _ l1 => ?_
  refine ⟨by rw [List.length_map, l1.len]; exact hsz, fun p hp => ?_⟩
  obtain ⟨E2, s2⟩ := E1.newB (vs := fs.map V.ref) hp
  refine loopL_ok (te := fun _ H' Q => Q (.ref p) H') (Z := { Z with nx := u Z }) hh hlen E2 upd_same (l1.up s2) h1 ?_ fun Q h => h
  cases r1 with
  | nx e1 => exact fun σ' B' H' E' => hrest.gs Pn B0 _ B' H' e1 σ' _ E' h2 Z fun v σ' B' H' E' i => q _ v σ' B' H' E' i
  | rt d1 e1 => cases h2; exact fun v σ' B' H' E' i => q _ v σ' B' H' E' i
  | bk e1 => cases h2
  | ct e1 => cases h2
end
end GL
/-! works = [lambda: ..]; for work in works + [lambda a=0: ..]: ..; and the law's own frame with its table. -/
namespace GL
open PySem L2 PyProof.Rows LamX

def sUn (i : Nat) : SemS := fun env => if noRow env i = true then some (.nx (env.set i .un)) else none
section
variable {X : Cx} {Pt : Addr}
theorem gsst_forL2 {k iw iv : Nat} {es es2 : List Expr} {Ms Ms2 : List (Lam × Pos)} {fes : List SemE} {a b : Str} {h0 : ExceptHandler} {hds : List ExceptHandler} {hs : List HSem} {l : List (Value × Nat × (Addr → Value → Option Addr → TS))} {p0 p1 p2 p3 p4 p5 p6 p6' pos pos1 pos2 pos3 : Pos} {rest : List Stmt} {u : TS} {g : SemS}
    (hst : X.stack = X.env :: X.outer) (hfr : X.env.frame = some X.env.locals) (hN : X.N.Nodup) (hc : X.calm = true) (hr : Room (k + 1) X.A) (hp : PassesOwn (model X.prog X.w) X.A X.env X.xe) (hla : PA X es (tLams X Pt Ms [])) (hla2 : PA X es2 (tLams X Pt Ms2 ((Ms.map (·.2)).reverse ++ []))) (hlen : fes.length = (Ms ++ Ms2).length) (hsz : (Ms ++ Ms2).length ≤ sizeLine) (hL : ∀ q ∈ ((Ms ++ Ms2).map (·.1)).zip fes, LamOk X k q.1 q.2) (hh : HdsG X (h0 :: hds) hs l) (hrest : GSs X rest u g)
    (hvb : PE X (.Name b p5) (tVar iv))
    (hNi : X.N[iw]? = some a := by rfl) (hx : Loc X.env.scope a := by first | exact .inl rfl | exact .inr rfl) (hfn : X.fn a = true ∨ X.env.scope.names.lookup a = some .local := by first | exact .inl rfl | exact .inr rfl | assumption) (hv : Vis X.env.scope a := by first | exact Or.inl rfl | exact Or.inr (Or.inl rfl) | exact Or.inr (Or.inr rfl)) (hd : (a == ("__debug__" : Str)) = false := by decide) (hcd : (a == ("__classdict__" : Str)) = false := by decide)
    (hNb : X.N[iv]? = some b := by rfl) (hxb : Loc X.env.scope b := by first | exact .inl rfl | exact .inr rfl) (hfb : X.fn b = true ∨ X.env.scope.names.lookup b = some .local := by first | exact .inl rfl | exact .inr rfl | assumption)
    (hsb : swapsWith (.List es pos1) (some (.Name b p4)) pos3.line X.env = pure false := by rfl)
    (hs' : swapsWith (.Call (.Name a p1) [] [] p2) none p3.line X.env = pure false := by rfl) (hf : ∀ x, foldedSetIterable (.BinOp (.Name b p5) .Add (.List es2 p6) p6') X.env x = pure x := by intro _; rfl) :
    GSsT X Pt (.Assign [.Name b p4] (.List es pos1) pos3 :: .For (.Name a p0) (.BinOp (.Name b p5) .Add (.List es2 p6) p6') [.Try [.Expr (.Call (.Name a p1) [] [] p2) p3] (h0 :: hds) [] [] pos] [] pos2 :: rest)
      (tSeq (tAsg (tLst (tLams X Pt Ms [])) (gName iv)) (tSeq (tFor (iSeq X.K (tOp rCat (tVar iv) (tLst (tLams X Pt Ms2 ((Ms.map (·.2)).reverse ++ []))))) (gName iw) (tTryL X iw (((Ms ++ Ms2).map (·.1)).zip fes) l)) u)) (sSeq (sUn iv) (sSeq (sForLam hs iw fes) g)) := by
  refine ⟨pss_cons (ps_set hN hNb hxb (pe_lst hla) hsb hfb) (pss_cons (ps_for hp hc (pi_seq (pe_op op_cat hvb (pe_lst hla2))) (pg_name hN hNi hx hfn) (pss_one (ps_tryL hst hfr hN hc hr hL hh hNi hv hd hcd hs')) hf) hrest.ps), fun Pn B0 F B H env σ d e E hF hf Z q => ?_⟩
  obtain ⟨r0, h1, h2⟩ := Option.bind_eq_some_iff.mp hf
  unfold sUn at h1
  split at h1
  case isFalse => cases h1
  rename_i hnr
  cases h1
  obtain ⟨r1, h1, h2⟩ := Option.bind_eq_some_iff.mp h2
  obtain ⟨E0, T0, b0, f0⟩ := tab_start E hF
  refine lams_ok Ms [] E0 T0 b0 f0 _ fun fs B1 H1 E1 s1 b1 T1 l1 => ?_
  obtain ⟨dn, edn, T1⟩ := T1
  have hz := hsz
  rw [List.length_append] at hz
  refine ⟨by rw [List.length_map, l1.len]; omega, fun p hp => ?_⟩
  obtain ⟨E2, s2⟩ := E1.newB (vs := fs.map V.ref) hp
  obtain ⟨ps1, hP1, _⟩ := id T1
  have pP : Pt ≠ p := fun z => by rw [← z, hP1] at hp; cases hp
  have il : iv < σ.length := by
    unfold noRow at hnr
    cases q1 : env[iv]? with
    | none => rw [q1] at hnr; cases hnr
    | some s => rw [← E1.len]; exact (List.getElem?_eq_some_iff.mp q1).1
  have E3 := E2.setU (i := iv) (x := some (.ref p)) (noRow_ne hnr)
  refine ⟨.ref p, List.getElem?_set_self il, ?_⟩
  refine lams_ok Ms2 _ E3 (by rw [← edn]; exact T1.up fun o h => by rw [upd_ne pP]; exact h) (by rw [upd_ne pP]; exact b1) f0 _ fun fs2 B3 H3 E4 s3 b3 _ l2 => ?_
  refine ⟨by rw [List.length_map, l2.len]; omega, fun p2 hp2 => ?_⟩
  obtain ⟨E5, s5⟩ := E4.newB (vs := fs2.map V.ref) hp2
  refine ⟨p, p2, fs.map V.ref, fs2.map V.ref, rfl, rfl, E5.bh _ _ (s5 _ _ (s3 _ _ upd_same)), upd_same, by rw [List.length_map, List.length_map, l1.len, l2.len]; omega, fun p3 hp3 => ?_⟩
  obtain ⟨E6, s6⟩ := E5.newB (vs := fs.map V.ref ++ fs2.map V.ref) hp3
  refine loopL_ok (te := fun _ H' Q => Q (.ref p3) H') (Z := { Z with nx := u Z }) (fs := fs ++ fs2) hh hlen E6 (by rw [List.map_append]; exact upd_same) (((l1.up s2).up (s3.trans (s5.trans s6))).app (l2.up (s5.trans s6))) h1 ?_ fun Q h => h
  cases r1 with
  | nx e1 => exact fun σ' B' H' E' => hrest.gs Pn B0 _ B' H' e1 σ' _ E' h2 Z fun v σ' B' H' E' i => q _ v σ' B' H' E' i
  | rt d1 e1 => cases h2; exact fun v σ' B' H' E' i => q _ v σ' B' H' E' i
  | bk e1 => cases h2
  | ct e1 => cases h2
end
/-! ### the law's frame -/
/-- script at 0, row at 1, then the others; sd: where the draws begin -/
def lawS (sd : Int) (m : Nat) (ns : List Int) : LEnv := .un :: .row ⟨ns, 0, sd, 0⟩ :: List.replicate m .un
theorem lawS_get {sd : Int} {m : Nat} {ns : List Int} {i : Nat} {s : Slot} (h : (lawS sd m ns)[i]? = some s) : s = .un ∨ i = 1 ∧ s = .row ⟨ns, 0, sd, 0⟩ := by
  match i, h with
  | 0, h => cases h; exact .inl rfl
  | 1, h => cases h; exact .inr ⟨rfl, rfl⟩
  | i + 2, h =>
    have h' : (List.replicate m Slot.un)[i]? = some s := h
    rw [List.getElem?_replicate] at h'
    split at h'
    · cases h'; exact .inl rfl
    · cases h'
def spLawT (K : PySem.W.Frag) (P : Addr) : Sp := fun vs H Q _ => H P = some (.tbl #[]) ∧ ∃ (a : Addr) (ns : List Int), vs = [.ref a] ∧ SqL K H a (ns.map V.int) ∧ ns.length ≤ 63 ∧ ∀ H', Q (.bl true) H'
theorem fnOk_lawT {Pr : Program} {w : World} {K : PySem.W.Frag} {mg : Str → Option Value} {base : Heap} {x qual : Str} {st : Stmt} {f c P : Addr} {N : List Str} {a b : Str} {k m : Nat} {sd : Int} {fb : SemS} {rest : List Stmt} {oc kV doc pm ct : Value} {od an : Option Addr} {osl : Array (Option Value)}
    (lk : K.lookup f = some ⟨oc, od, .func (PySem.W.fnOf x qual (defArgs st) (defBody st) (defScope st) .none kV doc pm an (.ref c) ct), osl⟩) (hcd : PySem.W.codeIn K (.ref c) qual = true) (S : FnScope (a :: b :: N) [a] (defScope st)) (hm : N.length = m)
    (hp : ∀ (cdv : Value) (A : Around) (outer : List Env) (s : Shared) (H : Hp) (E : XK), ∃ st0, defBody st = st0 :: rest ∧ PS (bodyX Pr w K mg base (a :: b :: N) qual st f cdv A outer s H E) st0 (tAsg (tLst (tCons (tVar 0) (tCons (tC (.int 0)) (tCons (tC (.int sd)) (tCons (tC (.int 0)) tNil))))) (gName 1)))
    (hb : ∀ (A : Around) (outer : List Env) (s : Shared) (H : Hp) (E : XK), Room k (A.deeper (PyProof.Rows.envOfC qual (defScope st) s.heap.objs.size f (.ref c))) → ∃ t, GSsT (bodyX Pr w K mg base (a :: b :: N) qual st f (.ref c) A outer s H E) P rest t fb)
    (hv : ∀ ns : List Int, ns.length ≤ 63 → ∃ e, fb (lawS sd m ns) = some (.rt (.bool true) e)) :
    FnOk Pr w K mg base CX0 (k + 1) f (PySem.W.fnOf x qual (defArgs st) (defBody st) (defScope st) .none kV doc pm an (.ref c) ct) [a] (spLawT K P) := by
  refine fn_of lk hcd S (fun vs H Q E ⟨_, _, _, h, _⟩ => by rw [h]; rfl) fun A outer s H vs Q E hr ⟨hT, ad, ns, hvs, hs, hn, q⟩ => ?_
  subst hvs
  obtain ⟨t, gt⟩ := hb A outer s H E hr
  obtain ⟨st0, eb, p0⟩ := hp (.ref c) A outer s H E
  refine ⟨_, (by rw [eb]; exact pss_cons p0 gt.ps : PSs (bodyX Pr w K mg base (a :: b :: N) qual st f (.ref c) A outer s H E) (defBody st) _).nox, ?_⟩
  obtain ⟨e, he⟩ := hv ns hn
  have h0 : (L2.start (a :: b :: N) [V.ref ad])[0]? = some (some (.ref ad)) := rfl
  refine ⟨_, h0, by show 4 ≤ sizeLine; rw [sizeLine_eq]; decide, fun l hl => ?_⟩
  have lP : P ≠ l := fun z => by rw [← z, hT] at hl; cases hl
  have hsl : SqL K (fun y => if y = P then none else H y) ad (ns.map V.int) := by
    rcases hs with (h | ⟨o, h⟩) | h
    · have z : ad ≠ P := fun z => by rw [z, hT] at h; cases h
      exact .inl (.inl (by show (if ad = P then none else H ad) = _; rw [if_neg z]; exact h))
    · have z : ad ≠ P := fun z => by rw [z, hT] at h; cases h
      exact .inl (.inr ⟨o, by show (if ad = P then none else H ad) = _; rw [if_neg z]; exact h⟩)
    · exact .inr h
  have bh : Same (fun y => if y = P then none else H y) (upd H l (.lst [.ref ad, .int 0, .int sd, .int 0])) := fun y o h => by
    have h' : (if y = P then none else H y) = some o := h
    split at h'
    · cases h'
    · rw [upd_ne (ne_of_none h' hl)]; exact h'
  have bl : (fun y => if y = P then none else H y) l = none := by
    show (if l = P then none else H l) = none
    rw [if_neg (Ne.symm lP)]; exact hl
  have E0 : EnvOk K [] (fun y => if y = P then none else H y) (fun y => if y = P then some (.tbl #[]) else none) (fun y => if y = P then none else H y) (upd H l (.lst [.ref ad, .int 0, .int sd, .int 0])) (lawS sd m ns) ((L2.start (a :: b :: N) [V.ref ad]).set 1 (some (.ref l))) := {
    b0 := Same.refl _
    bh := bh
    fr := fun y o h => by
      have h' : (if y = P then some (.tbl #[]) else none) = some o := h
      split at h'
      · rename_i z
        cases h'
        subst z
        exact ⟨by rw [upd_ne lP]; exact hT, .inl (if_pos rfl)⟩
      · cases h'
    len := by
      rw [List.length_set, start_len (by simp)]
      unfold lawS
      simp [hm]
    at_ := fun i s h => by
      rcases lawS_get h with rfl | ⟨rfl, rfl⟩
      · trivial
      · exact ⟨l, ad, by rw [List.getElem?_set_self (by rw [start_len (by simp)]; simp)], upd_same, hsl⟩
    own := fun i s y h o => by
      rcases lawS_get h with rfl | ⟨rfl, rfl⟩
      · cases o.1
      · have q := o.2
        rw [List.getElem?_set_self (by rw [start_len (by simp)]; simp)] at q
        cases q
        exact ⟨bl, if_neg (Ne.symm lP)⟩
    sep := fun i j s t y n h1 h2 o1 o2 => by
      rcases lawS_get h1 with rfl | ⟨rfl, rfl⟩
      · cases o1.1
      · rcases lawS_get h2 with rfl | ⟨rfl, rfl⟩
        · cases o2.1
        · exact n rfl
    pin := fun p hp => by cases hp }
  exact gt.gs [] _ _ _ _ _ _ _ _ E0 (if_pos rfl) he _ fun F' v σ' B' H' E' iv => by
    cases iv
    exact q H'
/-! ### the table's place -/
def tabOf (K : PySem.W.Frag) (c : Addr) : Addr := match K.lookup c with
  | some ⟨_, _, .fields vs, _⟩ => (match (vs[11]? : Option Value) with | some (.ref P) => P | _ => 0)
  | _ => 0
theorem own_tab {K : PySem.W.Frag} {h : Heap} {fa c P : Addr} {o : Obj} {fd : FuncData} (ot : OwnTab K fa h) (lk : K.lookup fa = some o) (ho : o.data = .func fd) (hc : fd.code = .ref c) (e : PySem.W.codeHdIn K c P = true) : h.get? P = some { cls := .none, data := .fields #[] } := by
  unfold PySem.W.codeHdIn at e
  split at e
  · rename_i vs _ hk
    simp only [Bool.and_eq_true] at e
    obtain ⟨⟨⟨⟨⟨e1, e2⟩, e3⟩, e4⟩, e5⟩, e6⟩ := e
    split at e1
    · rename_i P' h11
      have hP : P' = P := beq_iff_eq.mp e1
      subst hP
      exact ot c P' o fd _ _ vs _ lk ho hc hk h11
    · cases e1
  · cases e
/-- what the end asks of the law's promise -/
theorem lawAt_of {l : PySem.W.OpenLaw} {w : World} {K : PySem.W.Frag} {mg : Str → Option Value} {fa c : Addr} {h : Heap} {k : Nat} {x : Str} {o : Obj} {fd : FuncData} (KX : K.In h) (ot : OwnTab K fa h) (lk : K.lookup fa = some o) (ho : o.data = .func fd) (hc : fd.code = .ref c) (e : PySem.W.codeHdIn K c (tabOf K c) = true) (hn : K.lookup (tabOf K c) = none)
    (hb : ∀ (s : Shared) (u : Value), BindsTo s fd ⟨[u], []⟩ [(x, u)]) (hF : ∀ base : Heap, K.In base → base.Ns mainGlobals mg → TabB base mg c (tabOf K c) → FnOk l.prog w K mg base CX0 k fa fd [x] (spLawT K (tabOf K c))) :
    LawAtS l w K CX0 k 63 x mg fa h :=
  ⟨fd, [(c, tabOf K c)], spLawT K (tabOf K c), fun p hp => by rw [List.mem_singleton.mp hp]; exact own_tab ot lk ho hc e, fun p hp => by rw [List.mem_singleton.mp hp]; exact hn, fun p hp => by rw [List.mem_singleton.mp hp]; exact PySem.W.codeHd_of_K KX e, hb,
    fun H a ns hl _ hT hS => ⟨hT _ List.mem_cons_self, a, ns, rfl, hS, hl, fun _ => rfl⟩, fun base KI G T => hF base KI G (T _ List.mem_cons_self)⟩
end GL
set_option maxHeartbeats 2000000
/-! tuple(range(n)). -/
namespace GL
open PySem L2

def fTupR (f : SemL) : Sem := fun env => (f env).map fun p => (.tuple p.1, p.2)
theorem hasN_rg (lo hi : Int) : hasN (rgV lo hi) = false := by
  have : rgV lo hi = ((List.range (hi - lo).toNat).map fun (i : Nat) => lo + (i : Int)).map V.int := by
    unfold rgV
    rw [List.map_map]
    rfl
  rw [this]
  exact hasN_ints _
theorem ge_tupR1 {X : Cx} {a : Expr} {ta : TE} {fa : Sem} {p p2 pos pos2 : Pos} (hc : X.calm = true) (hm : X.mg "tuple" = none) (hm2 : X.mg "range" = none) (ha : GE X a ta fa) (hg : Gl X "tuple" := by rfl) (hg2 : Gl X "range" := by rfl)
    (hs : starEach [.Call (.Name "range" p2) [a] [] pos2] X.env = (false, eval (.Call (.Name "range" p2) [a] [] pos2) X.env) :: starEach [] X.env := by rfl) (hs2 : starEach [a] X.env = (false, eval a X.env) :: starEach [] X.env := by rfl) :
    GE X (.Call (.Name "tuple" p) [.Call (.Name "range" p2) [a] [] pos2] [] pos) (tTupRg (tRg1 ta)) (fTupR (fRange1 fa)) := ⟨pe_tupRg hc hg hm (prg_1 hg2 hm2 ha.pe hs2) hs, fun P B0 F B H env σ d env' E hf Q q => by
  obtain ⟨⟨ds, e0⟩, h1, h2⟩ := Option.map_eq_some_iff.mp hf
  cases h2
  obtain ⟨⟨x, e1⟩, h3, h4⟩ := Option.bind_eq_some_iff.mp h1
  cases x with
  | int n =>
    dsimp only at h4
    split at h4
    case isFalse => cases h4
    rename_i hz
    cases h4
    refine ha.ge P B0 F B H env σ _ _ E h3 _ fun v B1 H1 E1 s1 i1 => ⟨n, i1.int', ⟨by decide, by decide, by omega, by omega, by omega⟩, fun p hp => ?_⟩
    have g := Grow.new (o := .tup (rgV 0 n)) E1.bh hp
    refine q _ _ _ (E1.grow g) (s1.trans g.b) (.tup (.of upd_same (hasN_rg _ _)) ?_)
    have := range_is (K := X.K) (B := upd B1 p (.tup (rgV 0 n))) 0 n
    rw [Int.sub_zero] at this
    exact this
  | _ => cases h4⟩
end GL
namespace GL
open PySem L2
theorem rm_hu {k : Nat} {A : Around} (hr : Room k A) : A.units + 100 < cLine := by
  have := hr.un
  omega
end GL
/-! How meanings are worked out: loops by invariants, comprehensions as filter and map. -/
namespace GL
open PySem L2

theorem x_seq {f g : SemS} {env e1 : LEnv} (h : f env = some (.nx e1)) : sSeq f g env = g e1 := by
  unfold sSeq; rw [h]; rfl
theorem x_seqR {f g : SemS} {env e1 : LEnv} {d : D} (h : f env = some (.rt d e1)) : sSeq f g env = some (.rt d e1) := by
  unfold sSeq; rw [h]; rfl
theorem x_if {t : SemB} {f g : SemS} {env e1 : LEnv} {b : Bool} (h : t env = some (b, e1)) : sIf t f g env = if b = true then f e1 else g e1 := by
  unfold sIf; rw [h]; rfl
theorem x_op1 {g : D → Option D} {a : Sem} {env e1 : LEnv} {x z : D} (ha : a env = some (x, e1)) (hg : g x = some z) : fOp1 g a env = some (z, e1) := by
  unfold fOp1; rw [ha, Option.bind_some, hg]; rfl
theorem x_op2 {g : D → D → Option D} {a b : Sem} {env e1 e2 : LEnv} {x y z : D} (ha : a env = some (x, e1)) (hb : b e1 = some (y, e2)) (hg : g x y = some z) : fOp2 g a b env = some (z, e2) := by
  unfold fOp2; rw [ha, Option.bind_some, hb, Option.bind_some, hg]; rfl
theorem x_op2N {g : D → D → Option D} {i : Nat} {b : Sem} {env e2 : LEnv} {x0 x y z : D} (h0 : env[i]?.bind peekD = some x0) (hb : b env = some (y, e2)) (hx : e2[i]?.bind peekD = some x) (hg : g x y = some z) : fOp2N g i b env = some (z, e2) := by
  unfold fOp2N; rw [h0, Option.bind_some, hb, Option.bind_some, hx, Option.bind_some, hg]; rfl
theorem x_test {a : Sem} {env e1 : LEnv} {b : Bool} (ha : a env = some (.bool b, e1)) : fTest a env = some (b, e1) := by
  unfold fTest; rw [ha]; rfl
theorem x_cons {a : Sem} {r : SemL} {env e1 e2 : LEnv} {x : D} {xs : List D} (ha : a env = some (x, e1)) (hr : r e1 = some (xs, e2)) : fCons a r env = some (x :: xs, e2) := by
  unfold fCons; rw [ha, Option.bind_some, hr]; rfl
theorem x_call {n : Nat} {fn : List D → Option D} {r : SemL} {env e1 : LEnv} {ds : List D} {d : D} (hr : r env = some (ds, e1)) (hn : ds.length = n) (hf : fn ds = some d) : fCall n fn r env = some (d, e1) := by
  unfold fCall; rw [hr, Option.bind_some]; dsimp only; rw [if_pos hn, hf]; rfl
theorem x_var {i : Nat} {env : LEnv} {d : D} (h : env[i]? = some (.val d)) : fVar i env = some (d, env) := by unfold fVar; rw [h]
theorem x_peek {i : Nat} {env : LEnv} {d : D} (h : env[i]?.bind peekD = some d) : fPeek i env = some (d, env) := by unfold fPeek; rw [h]; rfl
theorem x_asg {i : Nat} {f : Sem} {env e1 : LEnv} {d : D} (h : f env = some (d, e1)) (hr : noRow e1 i = true) : sAsg i f env = some (.nx (e1.set i (.val d))) := by
  unfold sAsg; rw [h, Option.bind_some]; dsimp only; rw [if_pos hr]
theorem x_ret {f : Sem} {env e1 : LEnv} {d : D} (h : f env = some (d, e1)) : sRet f env = some (.rt d e1) := by unfold sRet; rw [h]; rfl
theorem x_expr {f : Sem} {env e1 : LEnv} {d : D} (h : f env = some (d, e1)) : sExpr f env = some (.nx e1) := by unfold sExpr; rw [h]; rfl
theorem x_runF {m : Nat} {fb : SemS} {ds : List D} {d : D} {e : LEnv} (h : fb (startE m ds) = some (.rt d e)) : runF m fb ds = some d := by unfold runF; rw [h]; rfl
/-- a for loop whose body goes on to the next item every time -/
theorem x_for {g : SemG} {b : SemS} (I : Nat → LEnv → Prop) : ∀ (ds : List D) (k : Nat) (env : LEnv), I k env → (∀ i d e, ds[i]? = some d → I (k + i) e → ∃ e1 e2, g d e = some e1 ∧ (b e1 = some (.nx e2) ∨ b e1 = some (.ct e2)) ∧ I (k + i + 1) e2) → ∃ e', sForL g b ds env = some (.nx e') ∧ I (k + ds.length) e'
  | [], k, env, h, _ => ⟨env, rfl, h⟩
  | d :: ds, k, env, h, st => by
    obtain ⟨e1, e2, h1, h2, h3⟩ := st 0 d env rfl h
    obtain ⟨e', h4, h5⟩ := x_for I ds (k + 1) e2 h3 (fun i d e hd hi => by
      have := st (i + 1) d e (by simpa using hd) (by rw [show k + (i + 1) = k + 1 + i by omega]; exact hi)
      rw [show k + (i + 1) + 1 = k + 1 + i + 1 by omega] at this
      exact this)
    refine ⟨e', ?_, by rw [show k + (d :: ds).length = k + 1 + ds.length by rw [List.length_cons]; omega]; exact h5⟩
    unfold sForL
    rw [h1, Option.bind_some]
    rcases h2 with h2 | h2
    · rw [h2, Option.bind_some]; exact h4
    · rw [h2, Option.bind_some]; exact h4
/-- a while loop with a measure -/
theorem x_while {c : SemB} {b : SemS} (I P : LEnv → Prop) (μ : LEnv → Nat) (st : ∀ e, I e → (∃ e1, c e = some (false, e1) ∧ P e1) ∨ ∃ e1 e2, c e = some (true, e1) ∧ (b e1 = some (.nx e2) ∨ b e1 = some (.ct e2)) ∧ I e2 ∧ μ e2 < μ e) :
    ∀ (n : Nat) (env : LEnv), I env → μ env < n → ∃ e', sWhile c b n env = some (.nx e') ∧ P e'
  | 0, _, _, h => absurd h (Nat.not_lt_zero _)
  | n + 1, env, hi, hn => by
    rcases st env hi with ⟨e1, h1, h2⟩ | ⟨e1, e2, h1, h2, h3, h4⟩
    · exact ⟨e1, by unfold sWhile; rw [h1]; rfl, h2⟩
    · obtain ⟨e', h5, h6⟩ := x_while I P μ st n e2 h3 (by omega)
      refine ⟨e', ?_, h6⟩
      unfold sWhile
      rw [h1, Option.bind_some]
      dsimp only
      rw [if_pos rfl]
      rcases h2 with h2 | h2
      · rw [h2, Option.bind_some]; exact h5
      · rw [h2, Option.bind_some]; exact h5
/-- behind a turn of a comprehension, but for its own names nothing has changed -/
def SameOff (env e : LEnv) (vs : List Nat) : Prop := wipeE e vs = wipeE env vs ∧ notOwn e vs = true
theorem x_loop {g : SemG} {t : SemB} {e : Sem} {vs : List Nat} {env : LEnv} (p : D → Bool) (f : D → D) : ∀ (ds acc : List D) (en : LEnv), SameOff env en vs → acc.length + ds.length ≤ 1000000 →
    (∀ d ∈ ds, ∃ e1 e2, g d (wipeE env vs) = some e1 ∧ t e1 = some (p d, e2) ∧ (p d = true → ∃ e3, e e2 = some (f d, e3) ∧ SameOff env e3 vs) ∧ (p d = false → SameOff env e2 vs)) →
    ∃ en', cLoop g t e vs ds acc en = some (acc ++ (ds.filter p).map f, en') ∧ SameOff env en' vs
  | [], acc, en, h, _, _ => ⟨en, by simp [cLoop], h⟩
  | d :: ds, acc, en, h, hl, st => by
    obtain ⟨e1, e2, h1, h2, h3, h4⟩ := st d List.mem_cons_self
    have rest := fun d m => st d (List.mem_cons_of_mem _ m)
    rw [List.length_cons] at hl
    have open_ : cLoop g t e vs (d :: ds) acc en = if p d = true then (e e2).bind fun q => if acc.length < 1000000 then cLoop g t e vs ds (acc ++ [q.1]) q.2 else none else cLoop g t e vs ds acc e2 := by
      conv => lhs; unfold cLoop
      rw [if_pos h.2, h.1, h1, Option.bind_some, h2, Option.bind_some]
    cases hp : p d with
    | true =>
      obtain ⟨e3, h5, h6⟩ := h3 hp
      obtain ⟨en', h7, h8⟩ := x_loop p f ds (acc ++ [f d]) e3 h6 (by simp; omega) rest
      refine ⟨en', ?_, h8⟩
      rw [open_, hp, if_pos rfl, h5, Option.bind_some]
      dsimp only
      rw [if_pos (by omega), h7, List.filter_cons_of_pos hp, List.map_cons, List.append_assoc]
      rfl
    | false =>
      obtain ⟨en', h7, h8⟩ := x_loop p f ds acc e2 (h4 hp) (by omega) rest
      refine ⟨en', ?_, h8⟩
      rw [open_, hp, if_neg Bool.false_ne_true, h7, List.filter_cons_of_neg (by rw [hp]; exact Bool.false_ne_true)]
theorem x_lc {fi : SemL} {g : SemG} {t : SemB} {e : Sem} {vs : List Nat} {env env1 : LEnv} {ds : List D} (p : D → Bool) (f : D → D) (hi : fi env = some (ds, env1)) (hn : notOwn env1 vs = true) (hl : ds.length ≤ 1000000)
    (st : ∀ d ∈ ds, ∃ e1 e2, g d (wipeE env1 vs) = some e1 ∧ t e1 = some (p d, e2) ∧ (p d = true → ∃ e3, e e2 = some (f d, e3) ∧ SameOff env1 e3 vs) ∧ (p d = false → SameOff env1 e2 vs)) :
    ∃ en, fLc fi g t e vs env = some ((ds.filter p).map f, putBack env1 en vs) ∧ SameOff env1 en vs := by
  obtain ⟨en, h1, h2⟩ := x_loop p f ds [] env1 ⟨rfl, hn⟩ (by simpa using hl) st
  refine ⟨en, ?_, h2⟩
  unfold fLc
  rw [hi, Option.bind_some]
  dsimp only
  rw [if_pos hn, h1, Option.bind_some]
  dsimp only
  rw [if_pos h2.2, List.nil_append]
theorem wipeE_off {env : LEnv} : ∀ {vs : List Nat} {j : Nat}, j ∉ vs → (wipeE env vs)[j]? = env[j]?
  | [], _, _ => rfl
  | v :: vs, j, h => by
    unfold wipeE
    rw [List.getElem?_set_ne (fun z => h (by rw [z]; exact List.mem_cons_self))]
    exact wipeE_off fun m => h (List.mem_cons_of_mem _ m)
/-- and so the frame is as it was -/
theorem putBack_same {env e : LEnv} {vs : List Nat} (h : SameOff env e vs) (hn : notOwn env vs = true) : putBack env e vs = env := by
  have hlen : e.length = env.length := by
    have := congrArg List.length h.1
    rwa [wipeE_len, wipeE_len] at this
  apply List.ext_getElem?
  intro j
  have lp : (putBack env e vs).length = env.length := by rw [putBack_len, hlen]
  by_cases hj : j < env.length
  · obtain ⟨s, hs⟩ : ∃ s, (putBack env e vs)[j]? = some s := ⟨_, List.getElem?_eq_getElem (by rw [lp]; exact hj)⟩
    rcases putBack_get hs with ⟨m, e1⟩ | ⟨n, e1⟩
    · obtain ⟨s', hs', _⟩ := notOwn_at hn m
      rw [hs, hs', e1, hs']; rfl
    · rw [hs, ← e1, ← wipeE_off (env := e) n, h.1, wipeE_off n]
  · rw [List.getElem?_eq_none (by omega), List.getElem?_eq_none (by omega)]
end GL
/-! Pieces of a graph: a class of ties that are beside one another, and lots that stay connected without any one place. -/
namespace GR
variable {V : Type} (E : V → V → Prop)
/-- b is reached from a by ties, all places being in S -/
inductive Rch (S : V → Prop) (a : V) : V → Prop
  | refl : S a → Rch S a a
  | step {b c : V} : Rch S a b → E b c → S c → Rch S a c
/-- the class of the tie (a, b): (c, d) is in it -/
inductive Cl (a b : V) : V → V → Prop
  | refl : E a b → Cl a b a b
  | swap {c d : V} : Cl a b c d → Cl a b d c
  | turn {c d e : V} : Cl a b c d → E c e → Rch E (· ≠ c) d e → Cl a b c e
variable {E}
theorem Rch.left {S : V → Prop} {a b : V} (h : Rch E S a b) : S a := by
  induction h with
  | refl h => exact h
  | step _ _ _ ih => exact ih
theorem Rch.right {S : V → Prop} {a b : V} (h : Rch E S a b) : S b := by
  cases h with
  | refl h => exact h
  | step _ _ h => exact h
theorem Rch.mono {S T : V → Prop} {a b : V} (h : Rch E S a b) (m : ∀ x, S x → T x) : Rch E T a b := by
  induction h with
  | refl h => exact .refl (m _ h)
  | step _ e h ih => exact .step ih e (m _ h)
theorem Rch.trans {S : V → Prop} {a b c : V} (h : Rch E S a b) (g : Rch E S b c) : Rch E S a c := by
  induction g with
  | refl _ => exact h
  | step _ e s ih => exact .step ih e s
theorem Rch.head {S : V → Prop} {a b c : V} (sa : S a) (e : E a b) (g : Rch E S b c) : Rch E S a c := (Rch.step (.refl sa) e g.left).trans g
theorem Rch.symm (sy : ∀ x y, E x y → E y x) {S : V → Prop} {a b : V} (h : Rch E S a b) : Rch E S b a := by
  induction h with
  | refl h => exact .refl h
  | step _ e s ih => exact Rch.head s (sy _ _ e) ih
theorem Cl.edge (sy : ∀ x y, E x y → E y x) {a b c d : V} (h : Cl E a b c d) : E c d := by
  induction h with
  | refl h => exact h
  | swap _ ih => exact sy _ _ ih
  | turn _ e _ _ => exact e
/-- all ties of a lot that stays connected without any one place are in one class -/
theorem lot_one (sy : ∀ x y, E x y → E y x) (ir : ∀ x, ¬ E x x) {L : V → Prop} (con : ∀ x y, L x → L y → Rch E L x y) (less : ∀ p x y, L p → L x → L y → x ≠ p → y ≠ p → Rch E (fun z => L z ∧ z ≠ p) x y)
    {a b c d : V} (la : L a) (lb : L b) (lc : L c) (ld : L d) (eab : E a b) (ecd : E c d) : Cl E a b c d := by
  have ne : ∀ {x y : V}, E x y → y ≠ x := fun e z => ir _ (z ▸ e)
  have main : ∀ c, Rch E L a c → ∀ d, L d → E c d → Cl E a b c d := by
    intro c hc
    induction hc with
    | refl _ => exact fun d ld e => .turn (.refl eab) e ((less a b d la lb ld (ne eab) (ne e)).mono fun x h => h.2)
    | @step c1 c2 h1 e1 s1 ih =>
      intro d ld e
      have k := ih c2 s1 e1
      exact .turn k.swap e ((less c2 c1 d s1 h1.right ld (fun z => ir _ (z ▸ e1)) (ne e)).mono fun x h => h.2)
  exact main c (con a c la lc) d ld ecd
/-- a walk by the class's ties from v that avoids u and meets no place twice -/
inductive SW (E : V → V → Prop) (a b u v : V) : List V → V → Prop
  | nil : SW E a b u v [v] v
  | cons {q : List V} {y z : V} : SW E a b u v q y → Cl E a b y z → z ≠ u → z ∉ q → SW E a b u v (z :: q) z
theorem SW.back {a b u v : V} {q : List V} {y z : V} (h : SW E a b u v q y) (m : z ∈ q) : ∃ r, SW E a b u v r z := by
  induction h with
  | nil => rw [List.mem_singleton.mp m]; exact ⟨_, .nil⟩
  | cons h c n o ih =>
    rcases List.mem_cons.mp m with rfl | m
    · exact ⟨_, .cons h c n o⟩
    · exact ih m
theorem SW.off (sy : ∀ x y, E x y → E y x) {a b u v x : V} {q : List V} {y : V} (h : SW E a b u v q y) (n : x ∉ q) : Rch E (· ≠ x) v y := by
  induction h with
  | nil => exact .refl fun z => n (by rw [z]; exact List.mem_singleton.mpr rfl)
  | cons h c _ _ ih => exact .step (ih fun m => n (List.mem_cons_of_mem _ m)) (c.edge sy) fun z => n (by rw [z]; exact List.mem_cons_self)
open Classical in
theorem SW.more {a b u v : V} {q : List V} {y z : V} (h : SW E a b u v q y) (c : Cl E a b y z) (n : z ≠ u) : ∃ r, SW E a b u v r z := by
  by_cases m : z ∈ q
  · exact h.back m
  · exact ⟨_, .cons h c n m⟩
open Classical in
/-- where two ties of the class meet in u, their other ends are joined by the class without u -/
theorem join (sy : ∀ x y, E x y → E y x) (ir : ∀ x, ¬ E x x) {a b u v w : V} (cv : Cl E a b u v) (ew : E u w) (r : Rch E (· ≠ u) v w) : ∃ q, SW E a b u v q w := by
  have euv := cv.edge sy
  apply Classical.byContradiction
  intro no
  let Dn : V → Prop := fun z => ¬ ∃ q, SW E a b u v q z
  have back : ∀ z, Rch E (· ≠ u) w z → Rch E (fun x => Dn x ∧ x ≠ u) w z := by
    intro z h
    induction h with
    | refl h => exact .refl ⟨no, h⟩
    | @step y z h e n ih =>
      refine .step ih e ⟨fun ⟨q, hq⟩ => ?_, n⟩
      have dy : Dn y := ih.right.1
      apply dy
      -- from y to u without z
      have yu : Rch E (· ≠ z) y u := by
        have h1 : Rch E (· ≠ z) w y := ih.mono fun x hx e' => hx.1 (e' ▸ ⟨q, hq⟩)
        exact (h1.symm sy).step (sy _ _ ew) fun e' => n e'.symm
      cases hq with
      | nil =>
        -- z = v: the tie (v, u) of the class
        exact SW.nil.more (cv.swap.turn (sy _ _ e) (yu.symm sy)) ih.right.2
      | @cons q' x _ h2 c2 n2 m2 =>
        have hx : Rch E (· ≠ z) v x := h2.off sy m2
        have xu : Rch E (· ≠ z) x y := ((hx.symm sy).step (sy _ _ euv) fun e' => n e'.symm).trans (yu.symm sy)
        exact (SW.cons h2 c2 n2 m2).more (c2.swap.turn (sy _ _ e) xu) ih.right.2
  exact (back v (r.symm sy)).right.1 ⟨_, .nil⟩
/-- the class's places but x are joined by its ties without x -/
theorem SW.rch {a b u v : V} {q : List V} {y : V} (h : SW E a b u v q y) (hv : v ≠ u) : Rch (Cl E a b) (· ≠ u) v y := by
  induction h with
  | nil => exact .refl hv
  | cons h c n _ ih => exact .step ih c n
theorem class_less (sy : ∀ x y, E x y → E y x) (ir : ∀ x, ¬ E x x) {a b x o : V} (ho : (o = a ∨ o = b) ∧ o ≠ x) {c d : V} (h : Cl E a b c d) : (c ≠ x → Rch (Cl E a b) (· ≠ x) o c) ∧ (d ≠ x → Rch (Cl E a b) (· ≠ x) o d) := by
  induction h with
  | refl e =>
    have c1 : Cl E a b a b := .refl e
    rcases ho with ⟨rfl | rfl, n⟩
    · exact ⟨fun _ => .refl n, fun m => .step (.refl n) c1 m⟩
    · exact ⟨fun m => .step (.refl n) c1.swap m, fun _ => .refl n⟩
  | swap _ ih => exact ⟨ih.2, ih.1⟩
  | @turn c d e k ece r ih =>
    refine ⟨ih.1, fun m => ?_⟩
    have k2 : Cl E a b c e := .turn k ece r
    by_cases hc : c = x
    · subst hc
      have dn : d ≠ c := fun z => ir _ (z ▸ k.edge sy)
      obtain ⟨q, hq⟩ := join sy ir k ece r
      exact (ih.2 dn).trans (hq.rch dn)
    · exact .step (ih.1 hc) k2 m
end GR
/-! What stands beside what: neighbours of ties, as data. -/
namespace GL
open PySem L2

abbrev Tie := Int × Int
def tieD (t : Tie) : D := .tuple [.int t.1, .int t.2]
/-- the places beside a, in the order of the ties -/
def besideL (ts : List Tie) (a : Int) : List Int := ts.flatMap fun t => (if t.1 = a then [t.2] else []) ++ (if t.2 = a then [t.1] else [])
def nbGet (kvs : Nb) (k : Key) : Option (List D) := (kvs.find? fun p => decide (p.1 = k)).map (·.2)
theorem nbGet_add (kvs : Nb) (k k' : Key) (d : D) : nbGet (nbAdd kvs k d) k' = if k' = k then some ((nbGet kvs k).getD [] ++ [d]) else nbGet kvs k' := by
  induction kvs with
  | nil =>
    by_cases h : k' = k
    · subst h; simp [nbAdd, nbGet]
    · have h' : ¬ k = k' := fun z => h z.symm
      simp [nbAdd, nbGet, h, h']
  | cons p r ih =>
    obtain ⟨a, ds⟩ := p
    unfold nbAdd
    by_cases ha : a = k
    · subst ha
      rw [if_pos rfl]
      by_cases h : k' = a
      · subst h; simp [nbGet]
      · have h' : ¬ a = k' := fun z => h z.symm
        simp [nbGet, h, h']
    · rw [if_neg ha]
      by_cases h : a = k'
      · subst h
        have hk : ¬ a = k := ha
        simp [nbGet, hk]
      · have e1 : ∀ (r : Nb), nbGet ((a, ds) :: r) k' = nbGet r k' := fun r => by simp [nbGet, h]
        have e2 : nbGet ((a, ds) :: r) k = nbGet r k := by simp [nbGet, ha]
        rw [e1, e1, e2, ih]
def nbStep (kvs : Nb) (t : Tie) : Nb := nbAdd (nbAdd kvs (.inl t.1) (.int t.2)) (.inl t.2) (.int t.1)
def nbOf (ts : List Tie) : Nb := ts.foldl nbStep []
/-- what a dict of neighbours holds, so far -/
def nbIs (kvs : Nb) (f : Int → List Int) : Prop := ∀ a, nbGet kvs (.inl a) = if f a = [] then none else some ((f a).map PyData.int)
theorem nbIs_step {kvs : Nb} {f : Int → List Int} (h : nbIs kvs f) (t : Tie) : nbIs (nbStep kvs t) fun a => f a ++ ((if t.1 = a then [t.2] else []) ++ (if t.2 = a then [t.1] else [])) := by
  intro a
  have gd : ∀ a, (nbGet kvs (.inl a)).getD [] = (f a).map PyData.int := fun a => by
    rw [h a]
    split
    · rename_i e; rw [e]; rfl
    · rfl
  unfold nbStep
  rw [nbGet_add, nbGet_add, nbGet_add]
  dsimp only
  by_cases h2 : t.2 = a
  · by_cases h1 : t.1 = a
    · have e : t.1 = t.2 := h1.trans h2.symm
      simp [h1, h2, gd]
    · have n : ¬ t.2 = t.1 := fun z => h1 (z.symm.trans h2)
      have n' : ¬ a = t.1 := fun z => h1 z.symm
      simp [h1, h2, n', gd]
  · have n2 : ¬ a = t.2 := fun z => h2 z.symm
    by_cases h1 : t.1 = a
    · simp [h1, h2, n2, gd]
    · have n' : ¬ a = t.1 := fun z => h1 z.symm
      simp [h1, h2, n2, n', h a]
theorem nbIs_fold : ∀ (ts : List Tie) (kvs : Nb) (f : Int → List Int), nbIs kvs f → nbIs (ts.foldl nbStep kvs) fun a => f a ++ besideL ts a
  | [], kvs, f, h => by simpa [besideL] using h
  | t :: ts, kvs, f, h => by
    have := nbIs_fold ts _ _ (nbIs_step h t)
    simpa [besideL, List.append_assoc] using this
theorem nbOf_is (ts : List Tie) : nbIs (nbOf ts) (besideL ts) := by
  have := nbIs_fold ts [] (fun _ => []) (fun a => by simp [nbGet])
  simpa [nbOf] using this
theorem nbGet_look (kvs : Nb) (k : Key) : lookD (kvs.map fun p => (keyD p.1, PyData.list p.2)) k = (nbGet kvs k).map PyData.list := by
  induction kvs with
  | nil => rfl
  | cons p r ih =>
    obtain ⟨a, ds⟩ := p
    rw [List.map_cons]
    unfold lookD
    dsimp only
    rw [keyOf_keyD]
    by_cases h : a = k
    · subst h; simp [nbGet]
    · rw [if_neg (fun z => h (Option.some.inj z)), ih]
      simp [nbGet, h]
/-- sizes stay small -/
theorem nbAdd_len (kvs : Nb) (k : Key) (d : D) : (nbAdd kvs k d).length ≤ kvs.length + 1 := by
  induction kvs with
  | nil => simp [nbAdd]
  | cons p r ih =>
    unfold nbAdd
    split
    · simp
    · simp; omega
theorem nbAdd_all (m : Nat) (kvs : Nb) (k : Key) (d : D) (h : ∀ p ∈ kvs, p.2.length ≤ m) : ∀ p ∈ nbAdd kvs k d, p.2.length ≤ m + 1 := by
  induction kvs with
  | nil => intro p hp; simp [nbAdd] at hp; subst hp; simp
  | cons q r ih =>
    intro p hp
    unfold nbAdd at hp
    split at hp
    · rcases List.mem_cons.mp hp with rfl | hp
      · have := h q List.mem_cons_self
        simp
        exact this
      · exact Nat.le_succ_of_le (h p (List.mem_cons_of_mem _ hp))
    · rcases List.mem_cons.mp hp with rfl | hp
      · exact Nat.le_succ_of_le (h _ List.mem_cons_self)
      · exact ih (fun p m => h p (List.mem_cons_of_mem _ m)) p hp
def nbFew (m : Nat) (kvs : Nb) : Prop := kvs.length ≤ m ∧ ∀ p ∈ kvs, p.2.length ≤ m
theorem nbFew.add {m : Nat} {kvs : Nb} (h : nbFew m kvs) (k : Key) (d : D) : nbFew (m + 1) (nbAdd kvs k d) := ⟨Nat.le_trans (nbAdd_len kvs k d) (Nat.succ_le_succ h.1), nbAdd_all m kvs k d h.2⟩
theorem nbFew.small {m : Nat} {kvs : Nb} (h : nbFew m kvs) (hm : m < 1000000) : nbSmall kvs = true := by
  unfold nbSmall
  simp only [Bool.and_eq_true, decide_eq_true_eq, List.all_eq_true]
  exact ⟨Nat.lt_of_le_of_lt h.1 hm, fun p hp => Nat.lt_of_le_of_lt (h.2 p hp) hm⟩
theorem nbFold_is : ∀ (ts : List Tie) (kvs : Nb) (m : Nat), nbFew m kvs → m + 2 * ts.length < 1000000 → nbFold (ts.map tieD) kvs = some (ts.foldl nbStep kvs)
  | [], kvs, m, _, _ => rfl
  | t :: ts, kvs, m, h, hm => by
    rw [List.length_cons] at hm
    rw [List.map_cons]
    unfold tieD nbFold
    have h1 := h.add (.inl t.1) (.int t.2)
    have h2 := h1.add (.inl t.2) (.int t.1)
    show (if nbSmall kvs = true ∧ nbSmall (nbAdd kvs (.inl t.1) (.int t.2)) = true then nbFold (ts.map tieD) (nbStep kvs t) else none) = _
    rw [if_pos ⟨h.small (by omega), h1.small (by omega)⟩]
    exact nbFold_is ts _ (m + 2) h2 (by omega)
theorem near_is {x : D} {ts : List Tie} (hx : itemsD x = some (ts.map tieD)) (hl : ts.length ≤ 1000) : m_near [x] = some (nbD (nbOf ts)) := by
  show ((itemsD x).bind fun es => (nbFold es []).map nbD) = _
  rw [hx, Option.bind_some, nbFold_is ts [] 0 ⟨Nat.le_refl _, fun p hp => by cases hp⟩ (by omega)]
  rfl
end GL
set_option maxHeartbeats 4000000
namespace GL
open PySem L2
def top (i : Nat) : Stmt := PySem.Challenge.pw_holestore_k02_whole_yards.main.body.getD i (.Pass ⟨0, 0, 0, 0⟩)
/-- the built-in names are still the built-in ones -/
structure Blt (mg : Str → Option Value) : Prop where
  b_all : mg "all" = none
  b_any : mg "any" = none
  b_bool : mg "bool" = none
  b_dict : mg "dict" = none
  b_enumerate : mg "enumerate" = none
  b_int : mg "int" = none
  b_isinstance : mg "isinstance" = none
  b_len : mg "len" = none
  b_list : mg "list" = none
  b_max : mg "max" = none
  b_min : mg "min" = none
  b_range : mg "range" = none
  b_set : mg "set" = none
  b_sorted : mg "sorted" = none
  b_str : mg "str" = none
  b_tuple : mg "tuple" = none
  b_zip : mg "zip" = none
/-- where a def stands -/
structure Df (K : PySem.W.Frag) (mg : Str → Option Value) (x : Str) (st : Stmt) (ps : List Str) (f : Addr) (fd : FuncData) : Prop where
  fu : Fun K x x st f fd
  mg : mg x = some (.ref f)
  bd : Binds K fd ps []
section
variable {Pr : Program} {w : World} {K : PySem.W.Frag} {mg : Str → Option Value} {base : Heap}
/-! is_number -/
abbrev s_is_number : Stmt := top 7
abbrev N_is_number : List Str := ["value"]
abbrev P_is_number : List Str := ["value"]
theorem sc_is_number : FnScope N_is_number P_is_number (defScope s_is_number) := ⟨rfl, rfl, rfl, by decide +kernel, rfl, by decide +kernel, by decide +kernel⟩
def b_is_number : SemS := (sRet (fAndV (fOp1 (dIsa "int") (fPeek 0)) (fOp1 dNot (fOp1 (dIsa "bool") (fPeek 0)))))
def m_is_number : List D → Option D := runF 1 b_is_number
theorem ok_is_number {f : Addr} {fd : FuncData} (Z : Blt mg) (D : Df K mg "is_number" s_is_number P_is_number f fd) : FnOk Pr w K mg base CX0 1 f fd P_is_number (spD K 1 m_is_number) := by
  refine fnOk_D D.fu sc_is_number (by decide) fun cdv A outer s H E hr => ?_
  have hu : (A.deeper (PyProof.Rows.envOfC "is_number" (defScope s_is_number) s.heap.objs.size f cdv)).units + 100 < cLine := by have := hr.un; omega
  have nd : N_is_number.Nodup := sc_is_number.nd
  exact ⟨_, (gss_one (gs_ret (ge_and (ge_isa Z.b_isinstance (gp_name (pv 0)) (pe_tyname Z.b_int)) (ge_one (ge_not (ge_isa Z.b_isinstance (gp_name (pv 0)) (pe_tyname Z.b_bool)))))))⟩
/-! is_tuple_of -/
abbrev s_is_tuple_of : Stmt := top 8
abbrev N_is_tuple_of : List Str := ["value", "many"]
abbrev P_is_tuple_of : List Str := ["value", "many"]
theorem sc_is_tuple_of : FnScope N_is_tuple_of P_is_tuple_of (defScope s_is_tuple_of) := ⟨rfl, rfl, rfl, by decide +kernel, rfl, by decide +kernel, by decide +kernel⟩
def b_is_tuple_of : SemS := (sRet (fAndV (fOp1 (dIsa "tuple") (fPeek 0)) (fOp2 dEq (fOp1 dLen (fPeek 0)) (fPeek 1))))
def m_is_tuple_of : List D → Option D := runF 2 b_is_tuple_of
theorem ok_is_tuple_of {f : Addr} {fd : FuncData} (Z : Blt mg) (D : Df K mg "is_tuple_of" s_is_tuple_of P_is_tuple_of f fd) : FnOk Pr w K mg base CX0 1 f fd P_is_tuple_of (spD K 2 m_is_tuple_of) := by
  refine fnOk_D D.fu sc_is_tuple_of (by decide) fun cdv A outer s H E hr => ?_
  have hu : (A.deeper (PyProof.Rows.envOfC "is_tuple_of" (defScope s_is_tuple_of) s.heap.objs.size f cdv)).units + 100 < cLine := by have := hr.un; omega
  have nd : N_is_tuple_of.Nodup := sc_is_tuple_of.nd
  exact ⟨_, (gss_one (gs_ret (ge_and (ge_isa Z.b_isinstance (gp_name (pv 0)) (pe_tyname Z.b_tuple)) (ge_one (ge_cmp (og_eq hu) (ge_b1 cr_lenG cs_len (by rfl) Z.b_len (by decide +kernel) (gp_name (pv 0))) (gp_name (pv 1)) (by rfl))))))⟩
/-! is_from -/
abbrev s_is_from : Stmt := top 9
abbrev N_is_from : List Str := ["value", "least", "most"]
abbrev P_is_from : List Str := ["value", "least", "most"]
theorem sc_is_from : FnScope N_is_from P_is_from (defScope s_is_from) := ⟨rfl, rfl, rfl, by decide +kernel, rfl, by decide +kernel, by decide +kernel⟩
def b_is_from : SemS := (sRet (fAndV (fCall 1 m_is_number (fCons (fVar 0) fNil)) (fChain dLe dLe (fVar 1) (fVar 0) (fPeek 2))))
def m_is_from : List D → Option D := runF 3 b_is_from
theorem ok_is_from {f : Addr} {fd : FuncData} (Z : Blt mg) (D : Df K mg "is_from" s_is_from P_is_from f fd) {f_is_number : Addr} {fd_is_number : FuncData} (D_is_number : Df K mg "is_number" s_is_number P_is_number f_is_number fd_is_number) (F_is_number : FnOk Pr w K mg base CX0 1 f_is_number fd_is_number P_is_number (spD K 1 m_is_number)) : FnOk Pr w K mg base CX0 2 f fd P_is_from (spD K 3 m_is_from) := by
  refine fnOk_D D.fu sc_is_from (by decide) fun cdv A outer s H E hr => ?_
  have hu : (A.deeper (PyProof.Rows.envOfC "is_from" (defScope s_is_from) s.heap.objs.size f cdv)).units + 100 < cLine := by have := hr.un; omega
  have nd : N_is_from.Nodup := sc_is_from.nd
  exact ⟨_, (gss_one (gs_ret (ge_and (ge_call F_is_number (hr.mono (by decide)) D_is_number.mg D_is_number.fu.kp D_is_number.bd (ga_cons (ge_name (pv 0)) ga_nil)) (ge_one (ge_chain og_le og_le (ge_name (pv 1)) (ge_name (pv 0)) (gp_name (pv 2)))))))⟩
/-! is_place -/
abbrev s_is_place : Stmt := top 10
abbrev N_is_place : List Str := ["value", "places"]
abbrev P_is_place : List Str := ["value", "places"]
theorem sc_is_place : FnScope N_is_place P_is_place (defScope s_is_place) := ⟨rfl, rfl, rfl, by decide +kernel, rfl, by decide +kernel, by decide +kernel⟩
def b_is_place : SemS := (sRet (fCall 3 m_is_from (fCons (fVar 0) (fCons (fC (.int 0)) (fCons (fOp2 dSub (fVar 1) (fC (.int 1))) fNil)))))
def m_is_place : List D → Option D := runF 2 b_is_place
theorem ok_is_place {f : Addr} {fd : FuncData} (Z : Blt mg) (D : Df K mg "is_place" s_is_place P_is_place f fd) {f_is_from : Addr} {fd_is_from : FuncData} (D_is_from : Df K mg "is_from" s_is_from P_is_from f_is_from fd_is_from) (F_is_from : FnOk Pr w K mg base CX0 2 f_is_from fd_is_from P_is_from (spD K 3 m_is_from)) : FnOk Pr w K mg base CX0 3 f fd P_is_place (spD K 2 m_is_place) := by
  refine fnOk_D D.fu sc_is_place (by decide) fun cdv A outer s H E hr => ?_
  have hu : (A.deeper (PyProof.Rows.envOfC "is_place" (defScope s_is_place) s.heap.objs.size f cdv)).units + 100 < cLine := by have := hr.un; omega
  have nd : N_is_place.Nodup := sc_is_place.nd
  exact ⟨_, (gss_one (gs_ret (ge_call F_is_from (hr.mono (by decide)) D_is_from.mg D_is_from.fu.kp D_is_from.bd (ga_cons (ge_name (pv 0)) (ga_cons ge_int (ga_cons (ge_bin og_sub (ge_name (pv 1)) (GE.gp ge_int)) ga_nil))))))⟩
/-! is_tie -/
abbrev s_is_tie : Stmt := top 11
abbrev N_is_tie : List Str := ["value", "places", "one", "other"]
abbrev P_is_tie : List Str := ["value", "places"]
theorem sc_is_tie : FnScope N_is_tie P_is_tie (defScope s_is_tie) := ⟨rfl, rfl, rfl, by decide +kernel, rfl, by decide +kernel, by decide +kernel⟩
def b_is_tie : SemS := (sSeq (sIf (fNot (fTest (fCall 2 m_is_tuple_of (fCons (fVar 0) (fCons (fC (.int 2)) fNil))))) (sRet (fC (.bool false))) sNext) (sSeq (sTarget (fVar 0) (tgTup 2 (tgCons (tgName 2) (tgCons (tgName 3) tgNil)))) (sRet (fAndV (fCall 2 m_is_place (fCons (fVar 2) (fCons (fVar 1) fNil))) (fAndV (fCall 2 m_is_place (fCons (fVar 3) (fCons (fVar 1) fNil))) (fOp2 dLt (fVar 2) (fPeek 3)))))))
def m_is_tie : List D → Option D := runF 4 b_is_tie
theorem ok_is_tie {f : Addr} {fd : FuncData} (Z : Blt mg) (D : Df K mg "is_tie" s_is_tie P_is_tie f fd) {f_is_tuple_of : Addr} {fd_is_tuple_of : FuncData} (D_is_tuple_of : Df K mg "is_tuple_of" s_is_tuple_of P_is_tuple_of f_is_tuple_of fd_is_tuple_of) (F_is_tuple_of : FnOk Pr w K mg base CX0 1 f_is_tuple_of fd_is_tuple_of P_is_tuple_of (spD K 2 m_is_tuple_of)) {f_is_place : Addr} {fd_is_place : FuncData} (D_is_place : Df K mg "is_place" s_is_place P_is_place f_is_place fd_is_place) (F_is_place : FnOk Pr w K mg base CX0 3 f_is_place fd_is_place P_is_place (spD K 2 m_is_place)) : FnOk Pr w K mg base CX0 4 f fd P_is_tie (spD K 2 m_is_tie) := by
  refine fnOk_D D.fu sc_is_tie (by decide) fun cdv A outer s H E hr => ?_
  have hu : (A.deeper (PyProof.Rows.envOfC "is_tie" (defScope s_is_tie) s.heap.objs.size f cdv)).units + 100 < cLine := by have := hr.un; omega
  have nd : N_is_tie.Nodup := sc_is_tie.nd
  exact ⟨_, (gss_cons (gs_if (gt_not (gt_val (ge_call F_is_tuple_of (hr.mono (by decide)) D_is_tuple_of.mg D_is_tuple_of.fu.kp D_is_tuple_of.bd (ga_cons (ge_name (pv 0)) (ga_cons ge_int ga_nil))))) (gss_one (gs_ret ge_bl)) gss_nil) (gss_cons (gs_asg (ge_name (pv 0)) (gg_tup (n := 2) rfl (ggs_cons (gg_name (i := 2) nd) (ggs_cons (gg_name (i := 3) nd) ggs_nil)))) (gss_one (gs_ret (ge_and (ge_call F_is_place (hr.mono (by decide)) D_is_place.mg D_is_place.fu.kp D_is_place.bd (ga_cons (ge_name (pv 2)) (ga_cons (ge_name (pv 1)) ga_nil))) (ge_and (ge_call F_is_place (hr.mono (by decide)) D_is_place.mg D_is_place.fu.kp D_is_place.bd (ga_cons (ge_name (pv 3)) (ga_cons (ge_name (pv 1)) ga_nil))) (ge_one (ge_cmp og_lt (ge_name (pv 2)) (gp_name (pv 3)) (by rfl)))))))))⟩
/-! neighbours -/
abbrev s_neighbours : Stmt := top 12
abbrev N_neighbours : List Str := ["ties", "near", "one", "other"]
abbrev P_neighbours : List Str := ["ties"]
theorem sc_neighbours : FnScope N_neighbours P_neighbours (defScope s_neighbours) := ⟨rfl, rfl, rfl, by decide +kernel, rfl, by decide +kernel, by decide +kernel⟩
def m_neighbours : List D → Option D := m_near
theorem ok_neighbours {f : Addr} {fd : FuncData} (Z : Blt mg) (D : Df K mg "neighbours" s_neighbours P_neighbours f fd) : FnOk Pr w K mg base CX0 1 f fd P_neighbours (spD K 1 m_neighbours) := by
  refine Fun.ok D.fu sc_neighbours (fun vs H Q E ⟨_, _, _, h, _⟩ => h) fun cdv A outer s H vs Q E hr ⟨B, ds, d, hl, e, ia, hf, q⟩ => ?_
  have nd : N_neighbours.Nodup := sc_neighbours.nd
  refine ⟨tNear K, pss_cons (ps_set (i := 1) nd rfl (.inl rfl) pe_dnewK) (pss_cons (ps_for PassesOwn.never rfl (pi_seq (pv 0)) (pg_tup rfl (pgs_cons (pg_name (i := 2) nd rfl (.inl rfl)) (pgs_cons (pg_name (i := 3) nd rfl (.inl rfl)) pgs_nil)))
    (pss_cons (ps_expr (pe_bm PySem.F.plainAttrs_list PySem.F.slot_list_append PySem.F.type_list_append mt_append (pe_dsetd (pv 1) (pv 2) (pe_lst pa_nil) ⟨rfl, rfl, rfl, rfl⟩) (pa_cons (pv 3) pa_nil)))
    (pss_one (ps_expr (pe_bm PySem.F.plainAttrs_list PySem.F.slot_list_append PySem.F.type_list_append mt_append (pe_dsetd (pv 1) (pv 3) (pe_lst pa_nil) ⟨rfl, rfl, rfl, rfl⟩) (pa_cons (pv 2) pa_nil)))))) (pss_one (ps_ret (pv 1)))), ?_⟩
  match ds, vs, hl, ia, hf with
  | [t], [v], _, .cons iv .nil, hf => exact near_ok e iv hf fun u B' H' g i => q u B' H' g i

/-! hanging -/
abbrev s_hanging : Stmt := top 13
abbrev N_hanging : List Str := ["near", "start", "without", "met", "todo", "here", "place"]
abbrev P_hanging : List Str := ["near", "start", "without"]
theorem sc_hanging : FnScope N_hanging P_hanging (defScope s_hanging) := ⟨rfl, rfl, rfl, by decide +kernel, rfl, by decide +kernel, by decide +kernel⟩
def b_hanging : SemS := (sSeq (sAsgW 3 (fOneK (fVar 1) (fC (.bool true)))) (sSeq (sAsgO 4 (fLst' (fCons (fVar 1) fNil))) (sSeq (sWhile (fTruth (fPeek 4)) (sSeq (sAsg 5 (fPop 4)) (sFor (fItems (fOp2N dIx 0 (fPeek 5))) (tgName 6) (sIf (fAnd (fTest (fOp2 dNe (fVar 6) (fPeek 2))) (fTest (fOp2 dNotIn (fVar 6) (fPeek 3)))) (sSeq (sPutK 3 (fVar 6) (fC (.bool true))) (sExpr (sAppend 4 (fVar 6)))) sNext))) 1000) (sRet (fOp1 dSortedG (fPeek 3))))))
def m_hanging : List D → Option D := runF 7 b_hanging
theorem ok_hanging {f : Addr} {fd : FuncData} (Z : Blt mg) (D : Df K mg "hanging" s_hanging P_hanging f fd) : FnOk Pr w K mg base CX0 1 f fd P_hanging (spD K 3 m_hanging) := by
  refine fnOk_D D.fu sc_hanging (by decide) fun cdv A outer s H E hr => ?_
  have hu : (A.deeper (PyProof.Rows.envOfC "hanging" (defScope s_hanging) s.heap.objs.size f cdv)).units + 100 < cLine := by have := hr.un; omega
  have nd : N_hanging.Nodup := sc_hanging.nd
  exact ⟨_, (gss_cons (gs_setW (i := 3) nd (gw_oneK (ge_name (pv 1)) ge_bl)) (gss_cons (gs_setN (i := 4) nd (gn_lst (ga_cons (ge_name (pv 1)) ga_nil))) (gss_cons (gs_while 1000 PassesOwn.never (gt_truth (gp_name (pv 4))) (gss_cons (gs_set (i := 5) nd (ge_pop (pv 4))) (gss_one (gs_for PassesOwn.never rfl (gi_seq (ge_ixN hu (pv 0) (gp_name (pv 5)))) (gg_name (i := 6) nd) (gss_one (gs_if (GW.gt' (gw_and (gt_cmp (og_ne hu) (ge_name (pv 6)) (gp_name (pv 2)) (by rfl)) (gw_and1 (gt_cmp (og_notIn hu) (ge_name (pv 6)) (gp_name (pv 3)) (by rfl))))) (gss_cons (gs_putK (n := 3) hu (pv 3) (ge_name (pv 6)) ge_bl) (gss_one (gs_expr (ge_append (pv 4) (ge_name (pv 6)))))) gss_nil)))))) (gss_one (gs_ret (ge_b1 (cr_sortG hu rfl) cs_sortG (by rfl) Z.b_sorted (by decide +kernel) (gp_name (pv 3))))))))⟩
/-! are_ties -/
abbrev s_are_ties : Stmt := top 14
abbrev N_are_ties : List Str := ["value", "places", "tie", "former", "latter"]
abbrev P_are_ties : List Str := ["value", "places"]
theorem sc_are_ties : FnScope N_are_ties P_are_ties (defScope s_are_ties) := ⟨rfl, rfl, rfl, by decide +kernel, rfl, by decide +kernel, by decide +kernel⟩
def b_are_ties : SemS := (sSeq (sIf (fOr (fNot (fTest (fOp1 (dIsa "tuple") (fPeek 0)))) (fNot (fTruth (fPeek 0)))) (sRet (fC (.bool false))) sNext) (sSeq (sFor (fItems (fVar 0)) (tgName 2) (sIf (fNot (fTest (fCall 2 m_is_tie (fCons (fVar 2) (fCons (fVar 1) fNil))))) (sRet (fC (.bool false))) sNext)) (sSeq (sFor (fZip (fVar 0) (fSl (fVar 0) (foSome (fC (.int 1))) foNone)) (tgTup 2 (tgCons (tgName 3) (tgCons (tgName 4) tgNil))) (sIf (fTest (fOp2 dGe (fVar 3) (fPeek 4))) (sRet (fC (.bool false))) sNext)) (sRet (fOp2 dEq (fOp1 dLen (fCall 3 m_hanging (fCons (fCall 1 m_neighbours (fCons (fVar 0) fNil)) (fCons (fOp2 dIx (fOp2N dIx 0 (fC (.int 0))) (fC (.int 0))) (fCons (fC .none) fNil))))) (fPeek 1))))))
def m_are_ties : List D → Option D := runF 5 b_are_ties
theorem ok_are_ties {f : Addr} {fd : FuncData} (Z : Blt mg) (D : Df K mg "are_ties" s_are_ties P_are_ties f fd) {f_is_tie : Addr} {fd_is_tie : FuncData} (D_is_tie : Df K mg "is_tie" s_is_tie P_is_tie f_is_tie fd_is_tie) (F_is_tie : FnOk Pr w K mg base CX0 4 f_is_tie fd_is_tie P_is_tie (spD K 2 m_is_tie)) {f_neighbours : Addr} {fd_neighbours : FuncData} (D_neighbours : Df K mg "neighbours" s_neighbours P_neighbours f_neighbours fd_neighbours) (F_neighbours : FnOk Pr w K mg base CX0 1 f_neighbours fd_neighbours P_neighbours (spD K 1 m_neighbours)) {f_hanging : Addr} {fd_hanging : FuncData} (D_hanging : Df K mg "hanging" s_hanging P_hanging f_hanging fd_hanging) (F_hanging : FnOk Pr w K mg base CX0 1 f_hanging fd_hanging P_hanging (spD K 3 m_hanging)) : FnOk Pr w K mg base CX0 5 f fd P_are_ties (spD K 2 m_are_ties) := by
  refine fnOk_D D.fu sc_are_ties (by decide) fun cdv A outer s H E hr => ?_
  have hu : (A.deeper (PyProof.Rows.envOfC "are_ties" (defScope s_are_ties) s.heap.objs.size f cdv)).units + 100 < cLine := by have := hr.un; omega
  have nd : N_are_ties.Nodup := sc_are_ties.nd
  exact ⟨_, (gss_cons (gs_if (GW.gt' (gw_or (gt_not (gt_val (ge_isa Z.b_isinstance (gp_name (pv 0)) (pe_tyname Z.b_tuple)))) (gw_or1 (gt_not (gt_truth (gp_name (pv 0))))))) (gss_one (gs_ret ge_bl)) gss_nil) (gss_cons (gs_for PassesOwn.never rfl (gi_seq (ge_name (pv 0))) (gg_name (i := 2) nd) (gss_one (gs_if (gt_not (gt_val (ge_call F_is_tie (hr.mono (by decide)) D_is_tie.mg D_is_tie.fu.kp D_is_tie.bd (ga_cons (ge_name (pv 2)) (ga_cons (ge_name (pv 1)) ga_nil))))) (gss_one (gs_ret ge_bl)) gss_nil))) (gss_cons (gs_for PassesOwn.never rfl (gi_zip Z.b_zip (ge_name (pv 0)) (ge_slice (ge_name (pv 0)) (go_some ge_int) go_none)) (gg_tup (n := 2) rfl (ggs_cons (gg_name (i := 3) nd) (ggs_cons (gg_name (i := 4) nd) ggs_nil))) (gss_one (gs_if (gt_cmp (og_ge hu) (ge_name (pv 3)) (gp_name (pv 4)) (by rfl)) (gss_one (gs_ret ge_bl)) gss_nil))) (gss_one (gs_ret (ge_cmp (og_eq hu) (ge_b1 cr_lenG cs_len (by rfl) Z.b_len (by decide +kernel) (GE.gp (ge_call F_hanging (hr.mono (by decide)) D_hanging.mg D_hanging.fu.kp D_hanging.bd (ga_cons (ge_call F_neighbours (hr.mono (by decide)) D_neighbours.mg D_neighbours.fu.kp D_neighbours.bd (ga_cons (ge_name (pv 0)) ga_nil)) (ga_cons (ge_ix hu (ge_ixN hu (pv 0) (GE.gp ge_int)) (GE.gp ge_int)) (ga_cons ge_non ga_nil)))))) (gp_name (pv 1)) (by rfl)))))))⟩
/-! check_yard -/
abbrev s_check_yard : Stmt := top 15
abbrev N_check_yard : List Str := ["yard", "places", "ties", "gate"]
abbrev P_check_yard : List Str := ["yard"]
theorem sc_check_yard : FnScope N_check_yard P_check_yard (defScope s_check_yard) := ⟨rfl, rfl, rfl, by decide +kernel, rfl, by decide +kernel, by decide +kernel⟩
def b_check_yard : SemX := (xSeq (xIf (fNot (fTest (fCall 2 m_is_tuple_of (fCons (fVar 0) (fCons (fC (.int 3)) fNil))))) (xRaise (mField "BadYard" "part" (fC (.str "yard")))) (xLift sNext)) (xSeq (xLift (sTarget (fVar 0) (tgTup 3 (tgCons (tgName 1) (tgCons (tgName 2) (tgCons (tgName 3) tgNil)))))) (xSeq (xIf (fNot (fTest (fCall 3 m_is_from (fCons (fVar 1) (fCons (fC (.int 2)) (fCons (fC (.int 7)) fNil)))))) (xRaise (mField "BadYard" "part" (fC (.str "places")))) (xLift sNext)) (xSeq (xIf (fNot (fTest (fCall 2 m_are_ties (fCons (fVar 2) (fCons (fVar 1) fNil))))) (xRaise (mField "BadYard" "part" (fC (.str "ties")))) (xLift sNext)) (xIf (fNot (fTest (fCall 2 m_is_place (fCons (fVar 3) (fCons (fVar 1) fNil))))) (xRaise (mField "BadYard" "part" (fC (.str "gate")))) (xLift sNext))))))
def m_check_yard : List D → Option Rs := runX 4 b_check_yard
theorem ok_check_yard {f : Addr} {fd : FuncData} (Z : Blt mg) (D : Df K mg "check_yard" s_check_yard P_check_yard f fd) {f_is_tuple_of : Addr} {fd_is_tuple_of : FuncData} (D_is_tuple_of : Df K mg "is_tuple_of" s_is_tuple_of P_is_tuple_of f_is_tuple_of fd_is_tuple_of) (F_is_tuple_of : FnOk Pr w K mg base CX0 1 f_is_tuple_of fd_is_tuple_of P_is_tuple_of (spD K 2 m_is_tuple_of)) {f_is_from : Addr} {fd_is_from : FuncData} (D_is_from : Df K mg "is_from" s_is_from P_is_from f_is_from fd_is_from) (F_is_from : FnOk Pr w K mg base CX0 2 f_is_from fd_is_from P_is_from (spD K 3 m_is_from)) {f_is_place : Addr} {fd_is_place : FuncData} (D_is_place : Df K mg "is_place" s_is_place P_is_place f_is_place fd_is_place) (F_is_place : FnOk Pr w K mg base CX0 3 f_is_place fd_is_place P_is_place (spD K 2 m_is_place)) {f_are_ties : Addr} {fd_are_ties : FuncData} (D_are_ties : Df K mg "are_ties" s_are_ties P_are_ties f_are_ties fd_are_ties) (F_are_ties : FnOk Pr w K mg base CX0 5 f_are_ties fd_are_ties P_are_ties (spD K 2 m_are_ties)) {C_BadYard f_BadYard : Addr} {fd_BadYard : FuncData} (M_BadYard : ClsF Pr w K mg base "BadYard" "part" C_BadYard f_BadYard fd_BadYard) : FnOk Pr w K mg base (L2.CX Pr w) 6 f fd P_check_yard (spX mg K 1 m_check_yard) := by
  refine fnOk_X D.fu sc_check_yard (by decide) fun cdv A outer s H E hr tk => ?_
  have hu : (A.deeper (PyProof.Rows.envOfC "check_yard" (defScope s_check_yard) s.heap.objs.size f cdv)).units + 100 < cLine := by have := hr.un; omega
  have nd : N_check_yard.Nodup := sc_check_yard.nd
  exact ⟨_, (gssx_cons (gsx_if (gt_not (gt_val (ge_call F_is_tuple_of (hr.mono (by decide)) D_is_tuple_of.mg D_is_tuple_of.fu.kp D_is_tuple_of.bd (ga_cons (ge_name (pv 0)) (ga_cons ge_int ga_nil))))) (gssx_one (gsx_raise rfl tk (gm_clsF M_BadYard (hr.mono (by decide)) ge_str))) (gssx_lift gss_nil)) (gssx_cons (gsx_lift (gs_asg (ge_name (pv 0)) (gg_tup (n := 3) rfl (ggs_cons (gg_name (i := 1) nd) (ggs_cons (gg_name (i := 2) nd) (ggs_cons (gg_name (i := 3) nd) ggs_nil)))))) (gssx_cons (gsx_if (gt_not (gt_val (ge_call F_is_from (hr.mono (by decide)) D_is_from.mg D_is_from.fu.kp D_is_from.bd (ga_cons (ge_name (pv 1)) (ga_cons ge_int (ga_cons ge_int ga_nil)))))) (gssx_one (gsx_raise rfl tk (gm_clsF M_BadYard (hr.mono (by decide)) ge_str))) (gssx_lift gss_nil)) (gssx_cons (gsx_if (gt_not (gt_val (ge_call F_are_ties (hr.mono (by decide)) D_are_ties.mg D_are_ties.fu.kp D_are_ties.bd (ga_cons (ge_name (pv 2)) (ga_cons (ge_name (pv 1)) ga_nil))))) (gssx_one (gsx_raise rfl tk (gm_clsF M_BadYard (hr.mono (by decide)) ge_str))) (gssx_lift gss_nil)) (gssx_one (gsx_if (gt_not (gt_val (ge_call F_is_place (hr.mono (by decide)) D_is_place.mg D_is_place.fu.kp D_is_place.bd (ga_cons (ge_name (pv 3)) (ga_cons (ge_name (pv 1)) ga_nil))))) (gssx_one (gsx_raise rfl tk (gm_clsF M_BadYard (hr.mono (by decide)) ge_str))) (gssx_lift gss_nil)))))))⟩
/-! check_standing -/
abbrev s_check_standing : Stmt := top 16
abbrev N_check_standing : List Str := ["yard", "standing", "places", "books", "item", "book"]
abbrev P_check_standing : List Str := ["yard", "standing"]
theorem sc_check_standing : FnScope N_check_standing P_check_standing (defScope s_check_standing) := ⟨rfl, rfl, rfl, by decide +kernel, rfl, by decide +kernel, by decide +kernel⟩
def b_check_standing : SemX := (xSeq (xLift (sAsg 2 (fOp2N dIx 0 (fC (.int 0))))) (xSeq (xIf (fNot (fTest (fCall 2 m_is_tuple_of (fCons (fVar 1) (fCons (fVar 2) fNil))))) (xRaise (mPlain "BadStanding")) (xLift sNext)) (xSeq (xLift (sAsgO 3 (fLc (fItems (fVar 1)) (tgName 4) (fTest (fOp2 dNotN (fVar 4) (fC .none))) (fVar 4) [4]))) (xSeq (xIf (fNot (fTest (fOp1 dAll (asList (fLc (fItems (fVar 3)) (tgName 5) fYes (fCall 1 m_is_number (fCons (fVar 5) fNil)) [5]))))) (xRaise (mPlain "BadStanding")) (xLift sNext)) (xSeq (xIf (fOr (fNot (fTruth (fPeek 3))) (fTest (fOp2 dEq (fOp1 dLen (fPeek 3)) (fPeek 2)))) (xRaise (mPlain "BadStanding")) (xLift sNext)) (xIf (fTest (fOp2 dNe (fOp1 dSortedG (fPeek 3)) (fListR (fRange1 (fOp1 dLen (fPeek 3)))))) (xRaise (mPlain "BadStanding")) (xLift sNext)))))))
def m_check_standing : List D → Option Rs := runX 6 b_check_standing
theorem ok_check_standing {f : Addr} {fd : FuncData} (Z : Blt mg) (D : Df K mg "check_standing" s_check_standing P_check_standing f fd) {f_is_number : Addr} {fd_is_number : FuncData} (D_is_number : Df K mg "is_number" s_is_number P_is_number f_is_number fd_is_number) (F_is_number : FnOk Pr w K mg base CX0 1 f_is_number fd_is_number P_is_number (spD K 1 m_is_number)) {f_is_tuple_of : Addr} {fd_is_tuple_of : FuncData} (D_is_tuple_of : Df K mg "is_tuple_of" s_is_tuple_of P_is_tuple_of f_is_tuple_of fd_is_tuple_of) (F_is_tuple_of : FnOk Pr w K mg base CX0 1 f_is_tuple_of fd_is_tuple_of P_is_tuple_of (spD K 2 m_is_tuple_of)) {C_BadStanding : Addr} (M_BadStanding : ClsP K mg "BadStanding" C_BadStanding) : FnOk Pr w K mg base (L2.CX Pr w) 2 f fd P_check_standing (spX mg K 2 m_check_standing) := by
  refine fnOk_X D.fu sc_check_standing (by decide) fun cdv A outer s H E hr tk => ?_
  have hu : (A.deeper (PyProof.Rows.envOfC "check_standing" (defScope s_check_standing) s.heap.objs.size f cdv)).units + 100 < cLine := by have := hr.un; omega
  have nd : N_check_standing.Nodup := sc_check_standing.nd
  exact ⟨_, (gssx_cons (gsx_lift (gs_set (i := 2) nd (ge_ixN hu (pv 0) (GE.gp ge_int)))) (gssx_cons (gsx_if (gt_not (gt_val (ge_call F_is_tuple_of (hr.mono (by decide)) D_is_tuple_of.mg D_is_tuple_of.fu.kp D_is_tuple_of.bd (ga_cons (ge_name (pv 1)) (ga_cons (ge_name (pv 2)) ga_nil))))) (gssx_one (gsx_raise rfl tk (gm_cls M_BadStanding))) (gssx_lift gss_nil)) (gssx_cons (gsx_lift (gs_setLc (i := 3) (gc' [4] (gi_seq (ge_name (pv 1))) (blkOk_by (own := [("item", 4)]) (by rfl)) (fun _ _ _ _ _ => ⟨_, (gg_name (i := 4) nd)⟩) (fun _ _ _ _ _ => ⟨_, (gts_one (gt_cmp og_notN (ge_name (pv 4)) (GE.gp ge_non) (by rfl)))⟩) (fun _ _ _ _ _ => ⟨_, (ge_name (pv 4))⟩)) rfl nd (sw_true rfl rfl rfl (by decide +kernel)))) (gssx_cons (gsx_if (gt_not (gt_val (ge_b1 (cr_all rfl) cs_all (by rfl) Z.b_all (by decide +kernel) (GE.gp (GN.ge (gn_lc' rfl nd (gc' [5] (gi_seq (ge_name (pv 3))) (blkOk_by (own := [("book", 5)]) (by rfl)) (fun _ _ _ _ _ => ⟨_, (gg_name (i := 5) nd)⟩) (fun _ _ _ _ _ => ⟨_, gts_nil⟩) (fun _ _ _ _ _ => ⟨_, (ge_call F_is_number (hr.mono (by decide)) D_is_number.mg D_is_number.fu.kp D_is_number.bd (ga_cons (ge_name (pv 5)) ga_nil))⟩)))))))) (gssx_one (gsx_raise rfl tk (gm_cls M_BadStanding))) (gssx_lift gss_nil)) (gssx_cons (gsx_if (GW.gt' (gw_or (gt_not (gt_truth (gp_name (pv 3)))) (gw_or1 (gt_cmp (og_eq hu) (ge_b1 cr_lenG cs_len (by rfl) Z.b_len (by decide +kernel) (gp_name (pv 3))) (gp_name (pv 2)) (by rfl))))) (gssx_one (gsx_raise rfl tk (gm_cls M_BadStanding))) (gssx_lift gss_nil)) (gssx_one (gsx_if (gt_cmp (og_ne hu) (ge_b1 (cr_sortG hu rfl) cs_sortG (by rfl) Z.b_sorted (by decide +kernel) (gp_name (pv 3))) (GE.gp (ge_listR1 rfl Z.b_list Z.b_range (ge_b1 cr_lenG cs_len (by rfl) Z.b_len (by decide +kernel) (gp_name (pv 3))))) (by rfl)) (gssx_one (gsx_raise rfl tk (gm_cls M_BadStanding))) (gssx_lift gss_nil))))))))⟩
/-! slides_at -/
abbrev s_slides_at : Stmt := top 19
abbrev N_slides_at : List Str := ["ties", "standing", "found", "one", "other"]
abbrev P_slides_at : List Str := ["ties", "standing"]
theorem sc_slides_at : FnScope N_slides_at P_slides_at (defScope s_slides_at) := ⟨rfl, rfl, rfl, by decide +kernel, rfl, by decide +kernel, by decide +kernel⟩
def b_slides_at : SemS := (sSeq (sAsgO 2 (fLst' fNil)) (sSeq (sFor (fItems (fVar 0)) (tgTup 2 (tgCons (tgName 3) (tgCons (tgName 4) tgNil))) (sSeq (sIf (fAnd (fTest (fOp2 dNotN (fOp2N dIx 1 (fPeek 3)) (fC .none))) (fTest (fOp2 dIsN (fOp2N dIx 1 (fPeek 4)) (fC .none)))) (sExpr (sAppend 2 (fTup (fCons (fVar 3) (fCons (fVar 4) fNil))))) sNext) (sIf (fAnd (fTest (fOp2 dIsN (fOp2N dIx 1 (fPeek 3)) (fC .none))) (fTest (fOp2 dNotN (fOp2N dIx 1 (fPeek 4)) (fC .none)))) (sExpr (sAppend 2 (fTup (fCons (fVar 4) (fCons (fVar 3) fNil))))) sNext))) (sRet (fOp1 dSortedG (fPeek 2)))))
def m_slides_at : List D → Option D := runF 5 b_slides_at
theorem ok_slides_at {f : Addr} {fd : FuncData} (Z : Blt mg) (D : Df K mg "slides_at" s_slides_at P_slides_at f fd) : FnOk Pr w K mg base CX0 1 f fd P_slides_at (spD K 2 m_slides_at) := by
  refine fnOk_D D.fu sc_slides_at (by decide) fun cdv A outer s H E hr => ?_
  have hu : (A.deeper (PyProof.Rows.envOfC "slides_at" (defScope s_slides_at) s.heap.objs.size f cdv)).units + 100 < cLine := by have := hr.un; omega
  have nd : N_slides_at.Nodup := sc_slides_at.nd
  exact ⟨_, (gss_cons (gs_setN (i := 2) nd (gn_lst ga_nil)) (gss_cons (gs_for PassesOwn.never rfl (gi_seq (ge_name (pv 0))) (gg_tup (n := 2) rfl (ggs_cons (gg_name (i := 3) nd) (ggs_cons (gg_name (i := 4) nd) ggs_nil))) (gss_cons (gs_if (GW.gt' (gw_and (gt_cmp og_notN (ge_ixN hu (pv 1) (gp_name (pv 3))) (GE.gp ge_non) (by rfl)) (gw_and1 (gt_cmp og_isN (ge_ixN hu (pv 1) (gp_name (pv 4))) (GE.gp ge_non) (by rfl))))) (gss_one (gs_expr (ge_append (pv 2) (ge_tup (ga_cons (ge_name (pv 3)) (ga_cons (ge_name (pv 4)) ga_nil)))))) gss_nil) (gss_one (gs_if (GW.gt' (gw_and (gt_cmp og_isN (ge_ixN hu (pv 1) (gp_name (pv 3))) (GE.gp ge_non) (by rfl)) (gw_and1 (gt_cmp og_notN (ge_ixN hu (pv 1) (gp_name (pv 4))) (GE.gp ge_non) (by rfl))))) (gss_one (gs_expr (ge_append (pv 2) (ge_tup (ga_cons (ge_name (pv 4)) (ga_cons (ge_name (pv 3)) ga_nil)))))) gss_nil)))) (gss_one (gs_ret (ge_b1 (cr_sortG hu rfl) cs_sortG (by rfl) Z.b_sorted (by decide +kernel) (gp_name (pv 2)))))))⟩
/-! slides -/
abbrev s_slides : Stmt := top 18
abbrev N_slides : List Str := ["yard", "standing"]
abbrev P_slides : List Str := ["yard", "standing"]
theorem sc_slides : FnScope N_slides P_slides (defScope s_slides) := ⟨rfl, rfl, rfl, by decide +kernel, rfl, by decide +kernel, by decide +kernel⟩
def b_slides : SemX := (xSeq (xCall 1 m_check_yard (fCons (fVar 0) fNil)) (xSeq (xCall 2 m_check_standing (fCons (fVar 0) (fCons (fVar 1) fNil))) (xLift (sRet (fOp1 dTuple (fCall 2 m_slides_at (fCons (fOp2N dIx 0 (fC (.int 1))) (fCons (fVar 1) fNil))))))))
def m_slides : List D → Option Rs := runX 2 b_slides
theorem ok_slides {f : Addr} {fd : FuncData} (Z : Blt mg) (D : Df K mg "slides" s_slides P_slides f fd) {f_check_yard : Addr} {fd_check_yard : FuncData} (D_check_yard : Df K mg "check_yard" s_check_yard P_check_yard f_check_yard fd_check_yard) (F_check_yard : FnOk Pr w K mg base (L2.CX Pr w) 6 f_check_yard fd_check_yard P_check_yard (spX mg K 1 m_check_yard)) {f_check_standing : Addr} {fd_check_standing : FuncData} (D_check_standing : Df K mg "check_standing" s_check_standing P_check_standing f_check_standing fd_check_standing) (F_check_standing : FnOk Pr w K mg base (L2.CX Pr w) 2 f_check_standing fd_check_standing P_check_standing (spX mg K 2 m_check_standing)) {f_slides_at : Addr} {fd_slides_at : FuncData} (D_slides_at : Df K mg "slides_at" s_slides_at P_slides_at f_slides_at fd_slides_at) (F_slides_at : FnOk Pr w K mg base CX0 1 f_slides_at fd_slides_at P_slides_at (spD K 2 m_slides_at)) : FnOk Pr w K mg base (L2.CX Pr w) 7 f fd P_slides (spX mg K 2 m_slides) := by
  refine fnOk_X D.fu sc_slides (by decide) fun cdv A outer s H E hr tk => ?_
  have hu : (A.deeper (PyProof.Rows.envOfC "slides" (defScope s_slides) s.heap.objs.size f cdv)).units + 100 < cLine := by have := hr.un; omega
  have nd : N_slides.Nodup := sc_slides.nd
  exact ⟨_, (gssx_cons (gsx_call tk F_check_yard (hr.mono (by decide)) D_check_yard.mg D_check_yard.fu.kp D_check_yard.bd (ga_cons (ge_name (pv 0)) ga_nil)) (gssx_cons (gsx_call tk F_check_standing (hr.mono (by decide)) D_check_standing.mg D_check_standing.fu.kp D_check_standing.bd (ga_cons (ge_name (pv 0)) (ga_cons (ge_name (pv 1)) ga_nil))) (gssx_lift (gss_one (gs_ret (ge_t1 call_tupleN cs_tuple (by rfl) Z.b_tuple (by decide +kernel) (GE.gp (ge_call F_slides_at (hr.mono (by decide)) D_slides_at.mg D_slides_at.fu.kp D_slides_at.bd (ga_cons (ge_ixN hu (pv 0) (GE.gp ge_int)) (ga_cons (ge_name (pv 1)) ga_nil))))))))))⟩
/-! is_slide_at -/
abbrev s_is_slide_at : Stmt := top 21
abbrev N_is_slide_at : List Str := ["ties", "standing", "value", "one", "other"]
abbrev P_is_slide_at : List Str := ["ties", "standing", "value"]
theorem sc_is_slide_at : FnScope N_is_slide_at P_is_slide_at (defScope s_is_slide_at) := ⟨rfl, rfl, rfl, by decide +kernel, rfl, by decide +kernel, by decide +kernel⟩
def b_is_slide_at : SemS := (sSeq (sIf (fNot (fTest (fCall 2 m_is_tuple_of (fCons (fVar 2) (fCons (fC (.int 2)) fNil))))) (sRet (fC (.bool false))) sNext) (sSeq (sTarget (fVar 2) (tgTup 2 (tgCons (tgName 3) (tgCons (tgName 4) tgNil)))) (sRet (fAndV (fCall 1 m_is_number (fCons (fVar 3) fNil)) (fAndV (fCall 1 m_is_number (fCons (fVar 4) fNil)) (fOp2 dIn (fVar 2) (fCall 2 m_slides_at (fCons (fVar 0) (fCons (fVar 1) fNil)))))))))
def m_is_slide_at : List D → Option D := runF 5 b_is_slide_at
theorem ok_is_slide_at {f : Addr} {fd : FuncData} (Z : Blt mg) (D : Df K mg "is_slide_at" s_is_slide_at P_is_slide_at f fd) {f_is_number : Addr} {fd_is_number : FuncData} (D_is_number : Df K mg "is_number" s_is_number P_is_number f_is_number fd_is_number) (F_is_number : FnOk Pr w K mg base CX0 1 f_is_number fd_is_number P_is_number (spD K 1 m_is_number)) {f_is_tuple_of : Addr} {fd_is_tuple_of : FuncData} (D_is_tuple_of : Df K mg "is_tuple_of" s_is_tuple_of P_is_tuple_of f_is_tuple_of fd_is_tuple_of) (F_is_tuple_of : FnOk Pr w K mg base CX0 1 f_is_tuple_of fd_is_tuple_of P_is_tuple_of (spD K 2 m_is_tuple_of)) {f_slides_at : Addr} {fd_slides_at : FuncData} (D_slides_at : Df K mg "slides_at" s_slides_at P_slides_at f_slides_at fd_slides_at) (F_slides_at : FnOk Pr w K mg base CX0 1 f_slides_at fd_slides_at P_slides_at (spD K 2 m_slides_at)) : FnOk Pr w K mg base CX0 2 f fd P_is_slide_at (spD K 3 m_is_slide_at) := by
  refine fnOk_D D.fu sc_is_slide_at (by decide) fun cdv A outer s H E hr => ?_
  have hu : (A.deeper (PyProof.Rows.envOfC "is_slide_at" (defScope s_is_slide_at) s.heap.objs.size f cdv)).units + 100 < cLine := by have := hr.un; omega
  have nd : N_is_slide_at.Nodup := sc_is_slide_at.nd
  exact ⟨_, (gss_cons (gs_if (gt_not (gt_val (ge_call F_is_tuple_of (hr.mono (by decide)) D_is_tuple_of.mg D_is_tuple_of.fu.kp D_is_tuple_of.bd (ga_cons (ge_name (pv 2)) (ga_cons ge_int ga_nil))))) (gss_one (gs_ret ge_bl)) gss_nil) (gss_cons (gs_asg (ge_name (pv 2)) (gg_tup (n := 2) rfl (ggs_cons (gg_name (i := 3) nd) (ggs_cons (gg_name (i := 4) nd) ggs_nil)))) (gss_one (gs_ret (ge_and (ge_call F_is_number (hr.mono (by decide)) D_is_number.mg D_is_number.fu.kp D_is_number.bd (ga_cons (ge_name (pv 3)) ga_nil)) (ge_and (ge_call F_is_number (hr.mono (by decide)) D_is_number.mg D_is_number.fu.kp D_is_number.bd (ga_cons (ge_name (pv 4)) ga_nil)) (ge_one (ge_cmp (og_in hu) (ge_name (pv 2)) (GE.gp (ge_call F_slides_at (hr.mono (by decide)) D_slides_at.mg D_slides_at.fu.kp D_slides_at.bd (ga_cons (ge_name (pv 0)) (ga_cons (ge_name (pv 1)) ga_nil)))) (by rfl)))))))))⟩
/-! moved -/
abbrev s_moved : Stmt := top 22
abbrev N_moved : List Str := ["standing", "slide", "one", "other", "row"]
abbrev P_moved : List Str := ["standing", "slide"]
theorem sc_moved : FnScope N_moved P_moved (defScope s_moved) := ⟨rfl, rfl, rfl, by decide +kernel, rfl, by decide +kernel, by decide +kernel⟩
def b_moved : SemS := (sSeq (sTarget (fVar 1) (tgTup 2 (tgCons (tgName 2) (tgCons (tgName 3) tgNil)))) (sSeq (sAsgO 4 (fListN (fPeek 0))) (sSeq (sSetI 4 (fVar 3) (fOp2N dIx 4 (fPeek 2))) (sSeq (sSetI 4 (fVar 2) (fC .none)) (sRet (fOp1 dTuple (fPeek 4)))))))
def m_moved : List D → Option D := runF 5 b_moved
theorem ok_moved {f : Addr} {fd : FuncData} (Z : Blt mg) (D : Df K mg "moved" s_moved P_moved f fd) : FnOk Pr w K mg base CX0 1 f fd P_moved (spD K 2 m_moved) := by
  refine fnOk_D D.fu sc_moved (by decide) fun cdv A outer s H E hr => ?_
  have hu : (A.deeper (PyProof.Rows.envOfC "moved" (defScope s_moved) s.heap.objs.size f cdv)).units + 100 < cLine := by have := hr.un; omega
  have nd : N_moved.Nodup := sc_moved.nd
  exact ⟨_, (gss_cons (gs_asg (ge_name (pv 1)) (gg_tup (n := 2) rfl (ggs_cons (gg_name (i := 2) nd) (ggs_cons (gg_name (i := 3) nd) ggs_nil)))) (gss_cons (gs_setN (i := 4) nd (gn_list Z.b_list (gp_name (pv 0)))) (gss_cons (gs_setI (n := 4) (pv 4) (ge_name (pv 3)) (ge_ixN hu (pv 4) (gp_name (pv 2)))) (gss_cons (gs_setI (n := 4) (pv 4) (ge_name (pv 2)) ge_non) (gss_one (gs_ret (ge_t1 call_tupleN cs_tuple (by rfl) Z.b_tuple (by decide +kernel) (gp_name (pv 4)))))))))⟩
/-! behind_slide -/
abbrev s_behind_slide : Stmt := top 20
abbrev N_behind_slide : List Str := ["yard", "standing", "slide"]
abbrev P_behind_slide : List Str := ["yard", "standing", "slide"]
theorem sc_behind_slide : FnScope N_behind_slide P_behind_slide (defScope s_behind_slide) := ⟨rfl, rfl, rfl, by decide +kernel, rfl, by decide +kernel, by decide +kernel⟩
def b_behind_slide : SemX := (xSeq (xCall 1 m_check_yard (fCons (fVar 0) fNil)) (xSeq (xCall 2 m_check_standing (fCons (fVar 0) (fCons (fVar 1) fNil))) (xSeq (xIf (fNot (fTest (fCall 3 m_is_slide_at (fCons (fOp2N dIx 0 (fC (.int 1))) (fCons (fVar 1) (fCons (fVar 2) fNil)))))) (xRaise (mPlain "BadSlide")) (xLift sNext)) (xLift (sRet (fCall 2 m_moved (fCons (fVar 1) (fCons (fVar 2) fNil))))))))
def m_behind_slide : List D → Option Rs := runX 3 b_behind_slide
theorem ok_behind_slide {f : Addr} {fd : FuncData} (Z : Blt mg) (D : Df K mg "behind_slide" s_behind_slide P_behind_slide f fd) {f_check_yard : Addr} {fd_check_yard : FuncData} (D_check_yard : Df K mg "check_yard" s_check_yard P_check_yard f_check_yard fd_check_yard) (F_check_yard : FnOk Pr w K mg base (L2.CX Pr w) 6 f_check_yard fd_check_yard P_check_yard (spX mg K 1 m_check_yard)) {f_check_standing : Addr} {fd_check_standing : FuncData} (D_check_standing : Df K mg "check_standing" s_check_standing P_check_standing f_check_standing fd_check_standing) (F_check_standing : FnOk Pr w K mg base (L2.CX Pr w) 2 f_check_standing fd_check_standing P_check_standing (spX mg K 2 m_check_standing)) {f_is_slide_at : Addr} {fd_is_slide_at : FuncData} (D_is_slide_at : Df K mg "is_slide_at" s_is_slide_at P_is_slide_at f_is_slide_at fd_is_slide_at) (F_is_slide_at : FnOk Pr w K mg base CX0 2 f_is_slide_at fd_is_slide_at P_is_slide_at (spD K 3 m_is_slide_at)) {f_moved : Addr} {fd_moved : FuncData} (D_moved : Df K mg "moved" s_moved P_moved f_moved fd_moved) (F_moved : FnOk Pr w K mg base CX0 1 f_moved fd_moved P_moved (spD K 2 m_moved)) {C_BadSlide : Addr} (M_BadSlide : ClsP K mg "BadSlide" C_BadSlide) : FnOk Pr w K mg base (L2.CX Pr w) 7 f fd P_behind_slide (spX mg K 3 m_behind_slide) := by
  refine fnOk_X D.fu sc_behind_slide (by decide) fun cdv A outer s H E hr tk => ?_
  have hu : (A.deeper (PyProof.Rows.envOfC "behind_slide" (defScope s_behind_slide) s.heap.objs.size f cdv)).units + 100 < cLine := by have := hr.un; omega
  have nd : N_behind_slide.Nodup := sc_behind_slide.nd
  exact ⟨_, (gssx_cons (gsx_call tk F_check_yard (hr.mono (by decide)) D_check_yard.mg D_check_yard.fu.kp D_check_yard.bd (ga_cons (ge_name (pv 0)) ga_nil)) (gssx_cons (gsx_call tk F_check_standing (hr.mono (by decide)) D_check_standing.mg D_check_standing.fu.kp D_check_standing.bd (ga_cons (ge_name (pv 0)) (ga_cons (ge_name (pv 1)) ga_nil))) (gssx_cons (gsx_if (gt_not (gt_val (ge_call F_is_slide_at (hr.mono (by decide)) D_is_slide_at.mg D_is_slide_at.fu.kp D_is_slide_at.bd (ga_cons (ge_ixN hu (pv 0) (GE.gp ge_int)) (ga_cons (ge_name (pv 1)) (ga_cons (ge_name (pv 2)) ga_nil)))))) (gssx_one (gsx_raise rfl tk (gm_cls M_BadSlide))) (gssx_lift gss_nil)) (gssx_lift (gss_one (gs_ret (ge_call F_moved (hr.mono (by decide)) D_moved.mg D_moved.fu.kp D_moved.bd (ga_cons (ge_name (pv 1)) (ga_cons (ge_name (pv 2)) ga_nil)))))))))⟩
/-! next_row -/
abbrev s_next_row : Stmt := top 25
abbrev N_next_row : List Str := ["ties", "steps", "row", "later", "here", "slide", "behind"]
abbrev P_next_row : List Str := ["ties", "steps", "row"]
theorem sc_next_row : FnScope N_next_row P_next_row (defScope s_next_row) := ⟨rfl, rfl, rfl, by decide +kernel, rfl, by decide +kernel, by decide +kernel⟩
def b_next_row : SemS := (sSeq (sAsgO 3 (fLst' fNil)) (sSeq (sFor (fItems (fVar 2)) (tgName 4) (sFor (fItems (fCall 2 m_slides_at (fCons (fVar 0) (fCons (fVar 4) fNil)))) (tgName 5) (sSeq (sAsg 6 (fCall 2 m_moved (fCons (fVar 4) (fCons (fVar 5) fNil)))) (sIf (fTest (fInN true 1 (fVar 6))) (sSeq (sPutN 1 (fVar 6) (fTup (fCons (fVar 4) (fCons (fVar 5) fNil)))) (sExpr (sAppend 3 (fVar 6)))) sNext)))) (sRet (fVar 3))))
def m_next_row : List (NKey × D) → List D → List D → Option (D × List (NKey × D)) := runL 7 1 b_next_row
theorem ok_next_row {f : Addr} {fd : FuncData} (Z : Blt mg) (D : Df K mg "next_row" s_next_row P_next_row f fd) {f_slides_at : Addr} {fd_slides_at : FuncData} (D_slides_at : Df K mg "slides_at" s_slides_at P_slides_at f_slides_at fd_slides_at) (F_slides_at : FnOk Pr w K mg base CX0 1 f_slides_at fd_slides_at P_slides_at (spD K 2 m_slides_at)) {f_moved : Addr} {fd_moved : FuncData} (D_moved : Df K mg "moved" s_moved P_moved f_moved fd_moved) (F_moved : FnOk Pr w K mg base CX0 1 f_moved fd_moved P_moved (spD K 2 m_moved)) : FnOk Pr w K mg base CX0 2 f fd P_next_row (spL K 1 1 m_next_row) := by
  refine fnOk_L D.fu sc_next_row (by decide) 1 1 rfl fun cdv A outer s H E hr => ?_
  have hu : (A.deeper (PyProof.Rows.envOfC "next_row" (defScope s_next_row) s.heap.objs.size f cdv)).units + 100 < cLine := by have := hr.un; omega
  have nd : N_next_row.Nodup := sc_next_row.nd
  exact ⟨_, (gss_cons (gs_setN (i := 3) nd (gn_lst ga_nil)) (gss_cons (gs_for PassesOwn.never rfl (gi_seq (ge_name (pv 2))) (gg_name (i := 4) nd) (gss_one (gs_for PassesOwn.never rfl (gi_seq (ge_call F_slides_at (hr.mono (by decide)) D_slides_at.mg D_slides_at.fu.kp D_slides_at.bd (ga_cons (ge_name (pv 0)) (ga_cons (ge_name (pv 4)) ga_nil)))) (gg_name (i := 5) nd) (gss_cons (gs_set (i := 6) nd (ge_call F_moved (hr.mono (by decide)) D_moved.mg D_moved.fu.kp D_moved.bd (ga_cons (ge_name (pv 4)) (ga_cons (ge_name (pv 5)) ga_nil)))) (gss_one (gs_if (gt_notInN hu (ge_name (pv 6)) (pv 1) (by rfl)) (gss_cons (gs_putN (n := 1) hu (pv 1) (ge_name (pv 6)) (ge_tup (ga_cons (ge_name (pv 4)) (ga_cons (ge_name (pv 5)) ga_nil)))) (gss_one (gs_expr (ge_append (pv 3) (ge_name (pv 6)))))) gss_nil)))))) (gss_one (gs_ret (ge_name (pv 3))))))⟩
/-! first_steps -/
abbrev s_first_steps : Stmt := top 24
abbrev N_first_steps : List Str := ["ties", "standing", "steps", "row"]
abbrev P_first_steps : List Str := ["ties", "standing"]
theorem sc_first_steps : FnScope N_first_steps P_first_steps (defScope s_first_steps) := ⟨rfl, rfl, rfl, by decide +kernel, rfl, by decide +kernel, by decide +kernel⟩
def b_first_steps : SemW := (wSeq (sAsgW 2 (fOneN (fVar 1) (fC .none))) (wSeq (sAsg 3 (fLst (fCons (fVar 1) fNil))) (wSeq (sWhile (fTruth (fPeek 3)) (sAsg 3 (fCallL 2 1 1 m_next_row (pCons (fVar 0) (pHere 2 (fCons (fVar 3) fNil))))) 1000) (wRet 2))))
def m_first_steps : List D → Option (List (NKey × D)) := runW 4 b_first_steps
theorem ok_first_steps {f : Addr} {fd : FuncData} (Z : Blt mg) (D : Df K mg "first_steps" s_first_steps P_first_steps f fd) {f_next_row : Addr} {fd_next_row : FuncData} (D_next_row : Df K mg "next_row" s_next_row P_next_row f_next_row fd_next_row) (F_next_row : FnOk Pr w K mg base CX0 2 f_next_row fd_next_row P_next_row (spL K 1 1 m_next_row)) : FnOk Pr w K mg base CX0 3 f fd P_first_steps (spW K 2 m_first_steps) := by
  refine fnOk_W D.fu sc_first_steps (by decide) fun cdv A outer s H E hr => ?_
  have hu : (A.deeper (PyProof.Rows.envOfC "first_steps" (defScope s_first_steps) s.heap.objs.size f cdv)).units + 100 < cLine := by have := hr.un; omega
  have nd : N_first_steps.Nodup := sc_first_steps.nd
  exact ⟨_, (gssw_cons (gs_setW (i := 2) nd (gw_oneN hu (ge_name (pv 1)) ge_non)) (gssw_cons (gs_set (i := 3) nd (ge_lst (ga_cons (ge_name (pv 1)) ga_nil))) (gssw_cons (gs_while 1000 PassesOwn.never (gt_truth (gp_name (pv 3))) (gss_one (gs_set (i := 3) nd (ge_callL F_next_row (hr.mono (by decide)) D_next_row.mg D_next_row.fu.kp D_next_row.bd (gal_cons (ge_name (pv 0)) (gal_here (pv 2) (ga_cons (ge_name (pv 3)) ga_nil))))))) (gssw_ret (pv 2)))))⟩
/-! way_back -/
abbrev s_way_back : Stmt := top 26
abbrev N_way_back : List Str := ["steps", "standing", "way", "step", "ahead", "slide"]
abbrev P_way_back : List Str := ["steps", "standing"]
theorem sc_way_back : FnScope N_way_back P_way_back (defScope s_way_back) := ⟨rfl, rfl, rfl, by decide +kernel, rfl, by decide +kernel, by decide +kernel⟩
def b_way_back : SemS := (sSeq (sAsgO 2 (fLst' fNil)) (sSeq (sAsg 3 (fIxN 0 (fVar 1))) (sSeq (sWhile (fTest (fOp2 dNotN (fVar 3) (fC .none))) (sSeq (sTarget (fVar 3) (tgTup 2 (tgCons (tgName 4) (tgCons (tgName 5) tgNil)))) (sSeq (sExpr (sAppend 2 (fVar 5))) (sAsg 3 (fIxN 0 (fVar 4))))) 1000) (sRet (fOp1 dTuple (asList (fRevL (fPeek 2))))))))
def m_way_back : List (NKey × D) → List D → List D → Option (D × List (NKey × D)) := runL 6 0 b_way_back
theorem ok_way_back {f : Addr} {fd : FuncData} (Z : Blt mg) (D : Df K mg "way_back" s_way_back P_way_back f fd) : FnOk Pr w K mg base CX0 1 f fd P_way_back (spL K 0 1 m_way_back) := by
  refine fnOk_L D.fu sc_way_back (by decide) 0 1 rfl fun cdv A outer s H E hr => ?_
  have hu : (A.deeper (PyProof.Rows.envOfC "way_back" (defScope s_way_back) s.heap.objs.size f cdv)).units + 100 < cLine := by have := hr.un; omega
  have nd : N_way_back.Nodup := sc_way_back.nd
  exact ⟨_, (gss_cons (gs_setN (i := 2) nd (gn_lst ga_nil)) (gss_cons (gs_set (i := 3) nd (ge_ixDn hu (pv 0) (ge_name (pv 1)))) (gss_cons (gs_while 1000 PassesOwn.never (gt_cmp og_notN (ge_name (pv 3)) (GE.gp ge_non) (by rfl)) (gss_cons (gs_asg (ge_name (pv 3)) (gg_tup (n := 2) rfl (ggs_cons (gg_name (i := 4) nd) (ggs_cons (gg_name (i := 5) nd) ggs_nil)))) (gss_cons (gs_expr (ge_append (pv 2) (ge_name (pv 5)))) (gss_one (gs_set (i := 3) nd (ge_ixDn hu (pv 0) (ge_name (pv 4)))))))) (gss_one (gs_ret (ge_t1 call_tupleN cs_tuple (by rfl) Z.b_tuple (by decide +kernel) (GE.gp (GN.ge (gn_rev (gp_name (pv 2)))))))))))⟩
/-! slides_to -/
abbrev s_slides_to : Stmt := top 23
abbrev N_slides_to : List Str := ["yard", "standing", "other", "steps"]
abbrev P_slides_to : List Str := ["yard", "standing", "other"]
theorem sc_slides_to : FnScope N_slides_to P_slides_to (defScope s_slides_to) := ⟨rfl, rfl, rfl, by decide +kernel, rfl, by decide +kernel, by decide +kernel⟩
def b_slides_to : SemX := (xSeq (xCall 1 m_check_yard (fCons (fVar 0) fNil)) (xSeq (xCall 2 m_check_standing (fCons (fVar 0) (fCons (fVar 1) fNil))) (xSeq (xCall 2 m_check_standing (fCons (fVar 0) (fCons (fVar 2) fNil))) (xSeq (xLift (sAsgW 3 (fCallW 2 m_first_steps (fCons (fOp2N dIx 0 (fC (.int 1))) (fCons (fVar 1) fNil))))) (xSeq (xIf (fTest (fInN true 3 (fVar 2))) (xRaise (mPlain "NoWay")) (xLift sNext)) (xLift (sRet (fCallL 3 0 1 m_way_back (pHere 3 (fCons (fVar 2) fNil))))))))))
def m_slides_to : List D → Option Rs := runX 4 b_slides_to
theorem ok_slides_to {f : Addr} {fd : FuncData} (Z : Blt mg) (D : Df K mg "slides_to" s_slides_to P_slides_to f fd) {f_check_yard : Addr} {fd_check_yard : FuncData} (D_check_yard : Df K mg "check_yard" s_check_yard P_check_yard f_check_yard fd_check_yard) (F_check_yard : FnOk Pr w K mg base (L2.CX Pr w) 6 f_check_yard fd_check_yard P_check_yard (spX mg K 1 m_check_yard)) {f_check_standing : Addr} {fd_check_standing : FuncData} (D_check_standing : Df K mg "check_standing" s_check_standing P_check_standing f_check_standing fd_check_standing) (F_check_standing : FnOk Pr w K mg base (L2.CX Pr w) 2 f_check_standing fd_check_standing P_check_standing (spX mg K 2 m_check_standing)) {f_first_steps : Addr} {fd_first_steps : FuncData} (D_first_steps : Df K mg "first_steps" s_first_steps P_first_steps f_first_steps fd_first_steps) (F_first_steps : FnOk Pr w K mg base CX0 3 f_first_steps fd_first_steps P_first_steps (spW K 2 m_first_steps)) {f_way_back : Addr} {fd_way_back : FuncData} (D_way_back : Df K mg "way_back" s_way_back P_way_back f_way_back fd_way_back) (F_way_back : FnOk Pr w K mg base CX0 1 f_way_back fd_way_back P_way_back (spL K 0 1 m_way_back)) {C_NoWay : Addr} (M_NoWay : ClsP K mg "NoWay" C_NoWay) : FnOk Pr w K mg base (L2.CX Pr w) 7 f fd P_slides_to (spX mg K 3 m_slides_to) := by
  refine fnOk_X D.fu sc_slides_to (by decide) fun cdv A outer s H E hr tk => ?_
  have hu : (A.deeper (PyProof.Rows.envOfC "slides_to" (defScope s_slides_to) s.heap.objs.size f cdv)).units + 100 < cLine := by have := hr.un; omega
  have nd : N_slides_to.Nodup := sc_slides_to.nd
  exact ⟨_, (gssx_cons (gsx_call tk F_check_yard (hr.mono (by decide)) D_check_yard.mg D_check_yard.fu.kp D_check_yard.bd (ga_cons (ge_name (pv 0)) ga_nil)) (gssx_cons (gsx_call tk F_check_standing (hr.mono (by decide)) D_check_standing.mg D_check_standing.fu.kp D_check_standing.bd (ga_cons (ge_name (pv 0)) (ga_cons (ge_name (pv 1)) ga_nil))) (gssx_cons (gsx_call tk F_check_standing (hr.mono (by decide)) D_check_standing.mg D_check_standing.fu.kp D_check_standing.bd (ga_cons (ge_name (pv 0)) (ga_cons (ge_name (pv 2)) ga_nil))) (gssx_cons (gsx_lift (gs_setW (i := 3) nd (gw_callW F_first_steps (hr.mono (by decide)) D_first_steps.mg D_first_steps.fu.kp D_first_steps.bd (ga_cons (ge_ixN hu (pv 0) (GE.gp ge_int)) (ga_cons (ge_name (pv 1)) ga_nil))))) (gssx_cons (gsx_if (gt_notInN hu (ge_name (pv 2)) (pv 3) (by rfl)) (gssx_one (gsx_raise rfl tk (gm_cls M_NoWay))) (gssx_lift gss_nil)) (gssx_lift (gss_one (gs_ret (ge_callL F_way_back (hr.mono (by decide)) D_way_back.mg D_way_back.fu.kp D_way_back.bd (gal_here (pv 3) (ga_cons (ge_name (pv 2)) ga_nil)))))))))))⟩
/-! count_standings -/
abbrev s_count_standings : Stmt := top 27
abbrev N_count_standings : List Str := ["yard", "standing"]
abbrev P_count_standings : List Str := ["yard", "standing"]
theorem sc_count_standings : FnScope N_count_standings P_count_standings (defScope s_count_standings) := ⟨rfl, rfl, rfl, by decide +kernel, rfl, by decide +kernel, by decide +kernel⟩
def b_count_standings : SemX := (xSeq (xCall 1 m_check_yard (fCons (fVar 0) fNil)) (xSeq (xCall 2 m_check_standing (fCons (fVar 0) (fCons (fVar 1) fNil))) (xLift (sRet (fLenW (fCallW 2 m_first_steps (fCons (fOp2N dIx 0 (fC (.int 1))) (fCons (fVar 1) fNil))))))))
def m_count_standings : List D → Option Rs := runX 2 b_count_standings
theorem ok_count_standings {f : Addr} {fd : FuncData} (Z : Blt mg) (D : Df K mg "count_standings" s_count_standings P_count_standings f fd) {f_check_yard : Addr} {fd_check_yard : FuncData} (D_check_yard : Df K mg "check_yard" s_check_yard P_check_yard f_check_yard fd_check_yard) (F_check_yard : FnOk Pr w K mg base (L2.CX Pr w) 6 f_check_yard fd_check_yard P_check_yard (spX mg K 1 m_check_yard)) {f_check_standing : Addr} {fd_check_standing : FuncData} (D_check_standing : Df K mg "check_standing" s_check_standing P_check_standing f_check_standing fd_check_standing) (F_check_standing : FnOk Pr w K mg base (L2.CX Pr w) 2 f_check_standing fd_check_standing P_check_standing (spX mg K 2 m_check_standing)) {f_first_steps : Addr} {fd_first_steps : FuncData} (D_first_steps : Df K mg "first_steps" s_first_steps P_first_steps f_first_steps fd_first_steps) (F_first_steps : FnOk Pr w K mg base CX0 3 f_first_steps fd_first_steps P_first_steps (spW K 2 m_first_steps)) : FnOk Pr w K mg base (L2.CX Pr w) 7 f fd P_count_standings (spX mg K 2 m_count_standings) := by
  refine fnOk_X D.fu sc_count_standings (by decide) fun cdv A outer s H E hr tk => ?_
  have hu : (A.deeper (PyProof.Rows.envOfC "count_standings" (defScope s_count_standings) s.heap.objs.size f cdv)).units + 100 < cLine := by have := hr.un; omega
  have nd : N_count_standings.Nodup := sc_count_standings.nd
  exact ⟨_, (gssx_cons (gsx_call tk F_check_yard (hr.mono (by decide)) D_check_yard.mg D_check_yard.fu.kp D_check_yard.bd (ga_cons (ge_name (pv 0)) ga_nil)) (gssx_cons (gsx_call tk F_check_standing (hr.mono (by decide)) D_check_standing.mg D_check_standing.fu.kp D_check_standing.bd (ga_cons (ge_name (pv 0)) (ga_cons (ge_name (pv 1)) ga_nil))) (gssx_lift (gss_one (gs_ret (ge_lenW (gw_callW F_first_steps (hr.mono (by decide)) D_first_steps.mg D_first_steps.fu.kp D_first_steps.bd (ga_cons (ge_ixN hu (pv 0) (GE.gp ge_int)) (ga_cons (ge_name (pv 1)) ga_nil))) Z.b_len))))))⟩
/-! _law_taken -/
abbrev s__law_taken : Stmt := top 29
abbrev N__law_taken : List Str := ["row", "many", "found", "cell"]
abbrev P__law_taken : List Str := ["row", "many"]
theorem sc__law_taken : FnScope N__law_taken P__law_taken (defScope s__law_taken) := ⟨rfl, rfl, rfl, by decide +kernel, rfl, by decide +kernel, by decide +kernel⟩
def b__law_taken : SemS := (sSeq (sIf (fTest (fOp2 dGt (fRow 0 3) (fC (.int 0)))) (sSeq (sAsg 2 (fOp2 dMod (fOp1 dInt (fRow 0 3)) (fPeek 1))) (sSeq (sRow 0 3 (fOp2 dFdiv (fRow 0 3) (fPeek 1))) (sRet (fVar 2)))) sNext) (sSeq (sRow 0 1 (fOp2 dAdd (fRow 0 1) (fC (.int 1)))) (sSeq (sIf (fTest (fOp2 dGt (fRow 0 1) (fRowLen 0))) (sSeq (sRow 0 2 (fOp2 dMod (fOp1 dInt (fOp2 dAdd (fOp2 dMul (fRow 0 2) (fC (.int 48271))) (fC (.int 11)))) (fC (.int 2147483647)))) (sRet (fOp2 dMod (fOp1 dInt (fOp2 dFdiv (fRow 0 2) (fC (.int 7)))) (fPeek 1)))) sNext) (sSeq (sAsg 3 (fRowCell 0 (fOp2 dSub (fRow 0 1) (fC (.int 1))))) (sSeq (sRow 0 2 (fOp2 dMod (fOp1 dInt (fOp2 dAdd (fOp2 dAdd (fOp2 dMul (fRow 0 2) (fC (.int 48271))) (fPeek 3)) (fC (.int 11)))) (fC (.int 2147483647)))) (sSeq (sIf (fTest (fOp2 dGe (fVar 3) (fOp2 dPow (fC (.int 10)) (fC (.int 18))))) (sRow 0 3 (fOp2 dFdiv (fVar 3) (fPeek 1))) sNext) (sRet (fOp2 dMod (fOp1 dInt (fPeek 3)) (fPeek 1)))))))))
def m__law_taken : Row → List D → Option (D × Row) := runR 4 b__law_taken
theorem ok__law_taken {f : Addr} {fd : FuncData} (Z : Blt mg) (D : Df K mg "_law_taken" s__law_taken P__law_taken f fd) : FnOk Pr w K mg base CX0 1 f fd P__law_taken (spR K 1 m__law_taken) := by
  refine fnOk_R D.fu sc__law_taken (by decide) 1 rfl fun cdv A outer s H E hr => ?_
  have hu : (A.deeper (PyProof.Rows.envOfC "_law_taken" (defScope s__law_taken) s.heap.objs.size f cdv)).units + 100 < cLine := by have := hr.un; omega
  have nd : N__law_taken.Nodup := sc__law_taken.nd
  exact ⟨_, (gss_cons (gs_if (gt_cmp og_gt (ge_row (j := 3) hu (pv 0) pe_int) (GE.gp ge_int) (by rfl)) (gss_cons (gs_set (i := 2) nd (ge_bin og_mod (ge_t1 call_int1 cs_int (by rfl) Z.b_int (by decide +kernel) (GE.gp (ge_row (j := 3) hu (pv 0) pe_int))) (gp_name (pv 1)))) (gss_cons (gs_row (j := 3) (pg_sub (pv 0) pe_int set_list) (ge_bin og_fdiv (ge_row (j := 3) hu (pv 0) pe_int) (gp_name (pv 1)))) (gss_one (gs_ret (ge_name (pv 2)))))) gss_nil) (gss_cons (gs_row (j := 1) (pg_sub (pv 0) pe_int set_list) (ge_bin og_add (ge_row (j := 1) hu (pv 0) pe_int) (GE.gp ge_int))) (gss_cons (gs_if (gt_cmp og_gt (ge_row (j := 1) hu (pv 0) pe_int) (GE.gp (ge_rowLen hu Z.b_len (pv 0) pe_int)) (by rfl)) (gss_cons (gs_row (j := 2) (pg_sub (pv 0) pe_int set_list) (ge_bin og_mod (ge_t1 call_int1 cs_int (by rfl) Z.b_int (by decide +kernel) (GE.gp (ge_bin og_add (ge_bin og_mul (ge_row (j := 2) hu (pv 0) pe_int) (GE.gp ge_int)) (GE.gp ge_int)))) (GE.gp ge_int))) (gss_one (gs_ret (ge_bin og_mod (ge_t1 call_int1 cs_int (by rfl) Z.b_int (by decide +kernel) (GE.gp (ge_bin og_fdiv (ge_row (j := 2) hu (pv 0) pe_int) (GE.gp ge_int)))) (gp_name (pv 1)))))) gss_nil) (gss_cons (gs_set (i := 3) nd (ge_rowCell hu (pv 0) pe_int (ge_bin og_sub (ge_row (j := 1) hu (pv 0) pe_int) (GE.gp ge_int)))) (gss_cons (gs_row (j := 2) (pg_sub (pv 0) pe_int set_list) (ge_bin og_mod (ge_t1 call_int1 cs_int (by rfl) Z.b_int (by decide +kernel) (GE.gp (ge_bin og_add (ge_bin og_add (ge_bin og_mul (ge_row (j := 2) hu (pv 0) pe_int) (GE.gp ge_int)) (gp_name (pv 3))) (GE.gp ge_int)))) (GE.gp ge_int))) (gss_cons (gs_if (gt_cmp (og_ge hu) (ge_name (pv 3)) (GE.gp (ge_bin og_pow ge_int (GE.gp ge_int))) (by rfl)) (gss_one (gs_row (j := 3) (pg_sub (pv 0) pe_int set_list) (ge_bin og_fdiv (ge_name (pv 3)) (gp_name (pv 1))))) gss_nil) (gss_one (gs_ret (ge_bin og_mod (ge_t1 call_int1 cs_int (by rfl) Z.b_int (by decide +kernel) (gp_name (pv 3))) (gp_name (pv 1)))))))))))⟩
/-! _law_pick -/
abbrev s__law_pick : Stmt := top 30
abbrev N__law_pick : List Str := ["row", "things"]
abbrev P__law_pick : List Str := ["row", "things"]
theorem sc__law_pick : FnScope N__law_pick P__law_pick (defScope s__law_pick) := ⟨rfl, rfl, rfl, by decide +kernel, rfl, by decide +kernel, by decide +kernel⟩
def b__law_pick : SemS := (sRet (fOp2N dIx 1 (fCallR 0 1 m__law_taken (fCons (fOp1 dLen (fPeek 1)) fNil))))
def m__law_pick : Row → List D → Option (D × Row) := runR 2 b__law_pick
theorem ok__law_pick {f : Addr} {fd : FuncData} (Z : Blt mg) (D : Df K mg "_law_pick" s__law_pick P__law_pick f fd) {f__law_taken : Addr} {fd__law_taken : FuncData} (D__law_taken : Df K mg "_law_taken" s__law_taken P__law_taken f__law_taken fd__law_taken) (F__law_taken : FnOk Pr w K mg base CX0 1 f__law_taken fd__law_taken P__law_taken (spR K 1 m__law_taken)) : FnOk Pr w K mg base CX0 2 f fd P__law_pick (spR K 1 m__law_pick) := by
  refine fnOk_R D.fu sc__law_pick (by decide) 1 rfl fun cdv A outer s H E hr => ?_
  have hu : (A.deeper (PyProof.Rows.envOfC "_law_pick" (defScope s__law_pick) s.heap.objs.size f cdv)).units + 100 < cLine := by have := hr.un; omega
  have nd : N__law_pick.Nodup := sc__law_pick.nd
  exact ⟨_, (gss_one (gs_ret (ge_ixN hu (pv 1) (GE.gp (ge_callR F__law_taken (hr.mono (by decide)) D__law_taken.mg D__law_taken.fu.kp D__law_taken.bd (pv 0) (ga_cons (ge_b1 cr_lenG cs_len (by rfl) Z.b_len (by decide +kernel) (gp_name (pv 1))) ga_nil))))))⟩
/-! _law_alike -/
abbrev s__law_alike : Stmt := top 31
abbrev N__law_alike : List Str := ["found", "due", "k"]
abbrev P__law_alike : List Str := ["found", "due"]
theorem sc__law_alike : FnScope N__law_alike P__law_alike (defScope s__law_alike) := ⟨rfl, rfl, rfl, by decide +kernel, rfl, by decide +kernel, by decide +kernel⟩
def b__law_alike (self : List D → Option D) : SemS := (sSeq (sIf (fTest (fOp1 (dIsa2 "tuple" "list") (fPeek 1))) (sSeq (sIf (fOr (fNot (fTest (fOp1 (dIsa2 "tuple" "list") (fPeek 0)))) (fTest (fOp2 dNe (fOp1 (dIsa "list") (fPeek 0)) (fOp1 (dIsa "list") (fPeek 1))))) (sRet (fC (.bool false))) sNext) (sSeq (sIf (fTest (fOp2 dNe (fOp1 dLen (fPeek 0)) (fOp1 dLen (fPeek 1)))) (sRet (fC (.bool false))) sNext) (sRet (fOp2 dEq (asList (fLc (fRange1 (fOp1 dLen (fPeek 1))) (tgName 2) (fNot (fTest (fCall 2 self (fCons (fOp2N dIx 0 (fPeek 2)) (fCons (fOp2N dIx 1 (fPeek 2)) fNil))))) (fVar 2) [2])) (fLst fNil))))) sNext) (sSeq (sIf (fOr (fTest (fOp2 dIsN (fVar 1) (fC .none))) (fTest (fOp1 (dIsa "str") (fPeek 1)))) (sRet (fAndV (fOp2 dEq (fVar 0) (fPeek 1)) (fOp2 dEq (fOp1 (dIsa "str") (fPeek 0)) (fOp1 (dIsa "str") (fPeek 1))))) sNext) (sRet (fAndV (fOp1 (dIsa "int") (fPeek 0)) (fAndV (fOp2 dEq (fOp1 (dIsa "bool") (fPeek 0)) (fOp1 (dIsa "bool") (fPeek 1))) (fOp2 dEq (fVar 0) (fPeek 1)))))))
def m__law_alike : Nat → List D → Option D
  | 0 => fun _ => none
  | n + 1 => runF 3 (b__law_alike (m__law_alike n))
theorem ok__law_alike {f : Addr} {fd : FuncData} (Z : Blt mg) (D : Df K mg "_law_alike" s__law_alike P__law_alike f fd) : ∀ n : Nat, FnOk Pr w K mg base CX0 (n + 1) f fd P__law_alike (spD K 2 (m__law_alike n))
  | 0 => Fun.ok D.fu sc__law_alike (fun vs H Q E ⟨_, _, _, h, _⟩ => h) fun cdv A outer s H vs Q E hr ⟨_, _, _, _, _, _, h, _⟩ => nomatch h
  | n + 1 => by
    have F_self := ok__law_alike Z D n
    refine fnOk_D D.fu sc__law_alike (by decide) fun cdv A outer s H E hr => ?_
    have hu : (A.deeper (PyProof.Rows.envOfC "_law_alike" (defScope s__law_alike) s.heap.objs.size f cdv)).units + 100 < cLine := by have := hr.un; omega
    have nd : N__law_alike.Nodup := sc__law_alike.nd
    exact ⟨_, (gss_cons (gs_if (gt_val (ge_isa2 Z.b_isinstance (gp_name (pv 1)) (pa_cons (pe_tyname Z.b_tuple) (pa_cons (pe_tyname Z.b_list) pa_nil)))) (gss_cons (gs_if (GW.gt' (gw_or (gt_not (gt_val (ge_isa2 Z.b_isinstance (gp_name (pv 0)) (pa_cons (pe_tyname Z.b_tuple) (pa_cons (pe_tyname Z.b_list) pa_nil))))) (gw_or1 (gt_cmp (og_ne hu) (ge_isa Z.b_isinstance (gp_name (pv 0)) (pe_tyname Z.b_list)) (GE.gp (ge_isa Z.b_isinstance (gp_name (pv 1)) (pe_tyname Z.b_list))) (by rfl))))) (gss_one (gs_ret ge_bl)) gss_nil) (gss_cons (gs_if (gt_cmp (og_ne hu) (ge_b1 cr_lenG cs_len (by rfl) Z.b_len (by decide +kernel) (gp_name (pv 0))) (GE.gp (ge_b1 cr_lenG cs_len (by rfl) Z.b_len (by decide +kernel) (gp_name (pv 1)))) (by rfl)) (gss_one (gs_ret ge_bl)) gss_nil) (gss_one (gs_ret (ge_cmp (og_eq hu) (GN.ge (gn_lc' rfl nd (gc' [2] (gi_range1 Z.b_range (ge_b1 cr_lenG cs_len (by rfl) Z.b_len (by decide +kernel) (gp_name (pv 1)))) (blkOk_by (own := [("k", 2)]) (by rfl)) (fun _ _ _ _ _ => ⟨_, (gg_name (i := 2) nd)⟩) (fun _ _ _ _ _ => ⟨_, (gts_one (gt_not (gt_val (ge_call F_self hr D.mg D.fu.kp D.bd (ga_cons (ge_ixN hu (pv 0) (gp_name (pv 2))) (ga_cons (ge_ixN hu (pv 1) (gp_name (pv 2))) ga_nil))))))⟩) (fun _ _ _ _ _ => ⟨_, (ge_name (pv 2))⟩)))) (GE.gp (ge_lst ga_nil)) (by rfl)))))) gss_nil) (gss_cons (gs_if (GW.gt' (gw_or (gt_cmp og_isN (ge_name (pv 1)) (GE.gp ge_non) (by rfl)) (gw_or1 (gt_val (ge_isa Z.b_isinstance (gp_name (pv 1)) (pe_tyname Z.b_str)))))) (gss_one (gs_ret (ge_and (ge_cmp (og_eq hu) (ge_name (pv 0)) (gp_name (pv 1)) (by rfl)) (ge_one (ge_cmp (og_eq hu) (ge_isa Z.b_isinstance (gp_name (pv 0)) (pe_tyname Z.b_str)) (GE.gp (ge_isa Z.b_isinstance (gp_name (pv 1)) (pe_tyname Z.b_str))) (by rfl)))))) gss_nil) (gss_one (gs_ret (ge_and (ge_isa Z.b_isinstance (gp_name (pv 0)) (pe_tyname Z.b_int)) (ge_and (ge_cmp (og_eq hu) (ge_isa Z.b_isinstance (gp_name (pv 0)) (pe_tyname Z.b_bool)) (GE.gp (ge_isa Z.b_isinstance (gp_name (pv 1)) (pe_tyname Z.b_bool))) (by rfl)) (ge_one (ge_cmp (og_eq hu) (ge_name (pv 0)) (gp_name (pv 1)) (by rfl)))))))))⟩
/-! _law_yard -/
abbrev s__law_yard : Stmt := top 32
abbrev N__law_yard : List Str := ["row", "most", "places", "ties", "place", "pairs", "one", "other", "way", "turn"]
abbrev P__law_yard : List Str := ["row", "most"]
theorem sc__law_yard : FnScope N__law_yard P__law_yard (defScope s__law_yard) := ⟨rfl, rfl, rfl, by decide +kernel, rfl, by decide +kernel, by decide +kernel⟩
def b__law_yard : SemS := (sSeq (sAsg 2 (fOp2 dAdd (fC (.int 2)) (fCallR 0 1 m__law_taken (fCons (fOp2 dSub (fVar 1) (fC (.int 1))) fNil)))) (sSeq (sAsgO 3 (fLc (fRange2 (fC (.int 1)) (fVar 2)) (tgName 4) fYes (fOp1 dTuple (fOp1 dSortedG (fLst (fCons (fVar 4) (fCons (fCallR 0 1 m__law_taken (fCons (fVar 4) fNil)) fNil))))) [4])) (sSeq (sAsg 5 (fLst fNil)) (sSeq (sFor (fRange1 (fVar 2)) (tgName 6) (sAsg 5 (fOp2 dAdd (fVar 5) (asList (fLc (fRange2 (fOp2 dAdd (fVar 6) (fC (.int 1))) (fVar 2)) (tgName 7) fYes (fTup (fCons (fVar 6) (fCons (fVar 7) fNil))) [7]))))) (sSeq (sAsg 8 (fCallR 0 1 m__law_taken (fCons (fC (.int 4)) fNil))) (sSeq (sIf (fTest (fOp2 dEq (fVar 8) (fC (.int 0)))) (sAsgO 3 (fAddL (asList (fLc (fRange1 (fOp2 dSub (fVar 2) (fC (.int 1)))) (tgName 4) fYes (fTup (fCons (fVar 4) (fCons (fOp2 dAdd (fVar 4) (fC (.int 1))) fNil))) [4])) (fLst (fCons (fTup (fCons (fC (.int 0)) (fCons (fOp2 dSub (fVar 2) (fC (.int 1))) fNil))) fNil)))) sNext) (sSeq (sFor (fRange1 (fIf (fTest (fOp2 dLt (fVar 8) (fC (.int 3)))) (fCallR 0 1 m__law_taken (fCons (fC (.int 4)) fNil)) (fC (.int 0)))) (tgName 9) (sExpr (sAppend 3 (fCallR 0 1 m__law_pick (fCons (fVar 5) fNil))))) (sRet (fTup (fCons (fVar 2) (fCons (fOp1 dTuple (fSortSet 2 (fPeek 3))) (fCons (fCallR 0 1 m__law_taken (fCons (fVar 2) fNil)) fNil))))))))))))
def m__law_yard : Row → List D → Option (D × Row) := runR 10 b__law_yard
theorem ok__law_yard {f : Addr} {fd : FuncData} (Z : Blt mg) (D : Df K mg "_law_yard" s__law_yard P__law_yard f fd) {f__law_taken : Addr} {fd__law_taken : FuncData} (D__law_taken : Df K mg "_law_taken" s__law_taken P__law_taken f__law_taken fd__law_taken) (F__law_taken : FnOk Pr w K mg base CX0 1 f__law_taken fd__law_taken P__law_taken (spR K 1 m__law_taken)) {f__law_pick : Addr} {fd__law_pick : FuncData} (D__law_pick : Df K mg "_law_pick" s__law_pick P__law_pick f__law_pick fd__law_pick) (F__law_pick : FnOk Pr w K mg base CX0 2 f__law_pick fd__law_pick P__law_pick (spR K 1 m__law_pick)) : FnOk Pr w K mg base CX0 3 f fd P__law_yard (spR K 1 m__law_yard) := by
  refine fnOk_R D.fu sc__law_yard (by decide) 1 rfl fun cdv A outer s H E hr => ?_
  have hu : (A.deeper (PyProof.Rows.envOfC "_law_yard" (defScope s__law_yard) s.heap.objs.size f cdv)).units + 100 < cLine := by have := hr.un; omega
  have nd : N__law_yard.Nodup := sc__law_yard.nd
  exact ⟨_, (gss_cons (gs_set (i := 2) nd (ge_bin og_add ge_int (GE.gp (ge_callR F__law_taken (hr.mono (by decide)) D__law_taken.mg D__law_taken.fu.kp D__law_taken.bd (pv 0) (ga_cons (ge_bin og_sub (ge_name (pv 1)) (GE.gp ge_int)) ga_nil))))) (gss_cons (gs_setLc (i := 3) (gc' [4] (gi_range2 Z.b_range ge_int (ge_name (pv 2))) (blkOk_by (own := [("place", 4)]) (by rfl)) (fun _ _ _ _ _ => ⟨_, (gg_name (i := 4) nd)⟩) (fun _ _ _ _ _ => ⟨_, gts_nil⟩) (fun _ _ _ _ _ => ⟨_, (ge_t1 call_tupleN cs_tuple (by rfl) Z.b_tuple (by decide +kernel) (GE.gp (ge_b1 (cr_sortG hu rfl) cs_sortG (by rfl) Z.b_sorted (by decide +kernel) (GE.gp (ge_lst (ga_cons (ge_name (pv 4)) (ga_cons (ge_callR F__law_taken (hr.mono (by decide)) D__law_taken.mg D__law_taken.fu.kp D__law_taken.bd (pv 0) (ga_cons (ge_name (pv 4)) ga_nil)) ga_nil)))))))⟩)) rfl nd (sw_true rfl rfl rfl (by decide +kernel))) (gss_cons (gs_set (i := 5) nd (ge_lst ga_nil)) (gss_cons (gs_for PassesOwn.never rfl (gi_range1 Z.b_range (ge_name (pv 2))) (gg_name (i := 6) nd) (gss_one (gs_set (i := 5) nd (ge_bin og_add (ge_name (pv 5)) (GE.gp (GN.ge (gn_lc' rfl nd (gc' [7] (gi_range2 Z.b_range (ge_bin og_add (ge_name (pv 6)) (GE.gp ge_int)) (ge_name (pv 2))) (blkOk_by (own := [("other", 7)]) (by rfl)) (fun _ _ _ _ _ => ⟨_, (gg_name (i := 7) nd)⟩) (fun _ _ _ _ _ => ⟨_, gts_nil⟩) (fun _ _ _ _ _ => ⟨_, (ge_tup (ga_cons (ge_name (pv 6)) (ga_cons (ge_name (pv 7)) ga_nil)))⟩))))))))) (gss_cons (gs_set (i := 8) nd (ge_callR F__law_taken (hr.mono (by decide)) D__law_taken.mg D__law_taken.fu.kp D__law_taken.bd (pv 0) (ga_cons ge_int ga_nil))) (gss_cons (gs_if (gt_cmp (og_eq hu) (ge_name (pv 8)) (GE.gp ge_int) (by rfl)) (gss_one (gs_setN (i := 3) nd (gn_add (GN.ge (gn_lc' rfl nd (gc' [4] (gi_range1 Z.b_range (ge_bin og_sub (ge_name (pv 2)) (GE.gp ge_int))) (blkOk_by (own := [("place", 4)]) (by rfl)) (fun _ _ _ _ _ => ⟨_, (gg_name (i := 4) nd)⟩) (fun _ _ _ _ _ => ⟨_, gts_nil⟩) (fun _ _ _ _ _ => ⟨_, (ge_tup (ga_cons (ge_name (pv 4)) (ga_cons (ge_bin og_add (ge_name (pv 4)) (GE.gp ge_int)) ga_nil)))⟩)))) (GE.gp (ge_lst (ga_cons (ge_tup (ga_cons ge_int (ga_cons (ge_bin og_sub (ge_name (pv 2)) (GE.gp ge_int)) ga_nil))) ga_nil)))))) gss_nil) (gss_cons (gs_for PassesOwn.never rfl (gi_range1 Z.b_range (ge_if (gt_cmp og_lt (ge_name (pv 8)) (GE.gp ge_int) (by rfl)) (ge_callR F__law_taken (hr.mono (by decide)) D__law_taken.mg D__law_taken.fu.kp D__law_taken.bd (pv 0) (ga_cons ge_int ga_nil)) ge_int)) (gg_name (i := 9) nd) (gss_one (gs_expr (ge_append (pv 3) (ge_callR F__law_pick (hr.mono (by decide)) D__law_pick.mg D__law_pick.fu.kp D__law_pick.bd (pv 0) (ga_cons (ge_name (pv 5)) ga_nil)))))) (gss_one (gs_ret (ge_tup (ga_cons (ge_name (pv 2)) (ga_cons (ge_t1 call_tupleN cs_tuple (by rfl) Z.b_tuple (by decide +kernel) (GE.gp (ge_sortSet 2 hu rfl (gp_name (pv 3)) Z.b_sorted Z.b_set))) (ga_cons (ge_callR F__law_taken (hr.mono (by decide)) D__law_taken.mg D__law_taken.fu.kp D__law_taken.bd (pv 0) (ga_cons (ge_name (pv 2)) ga_nil)) ga_nil)))))))))))))⟩
/-! _law_standing -/
abbrev s__law_standing : Stmt := top 33
abbrev N__law_standing : List Str := ["row", "places", "holes", "left", "found", "place"]
abbrev P__law_standing : List Str := ["row", "places", "holes"]
theorem sc__law_standing : FnScope N__law_standing P__law_standing (defScope s__law_standing) := ⟨rfl, rfl, rfl, by decide +kernel, rfl, by decide +kernel, by decide +kernel⟩
def b__law_standing : SemS := (sSeq (sPar 3 4 (vList (fAddL (fListR (fRange1 (fOp2 dSub (fVar 1) (fPeek 2)))) (fOp2 dRep (fLst (fCons (fC .none) fNil)) (fPeek 2)))) (vList (fLst' fNil))) (sSeq (sFor (fRange1 (fVar 1)) (tgName 5) (sExpr (sAppend 4 (fPopAt 3 (fCallR 0 1 m__law_taken (fCons (fOp1 dLen (fPeek 3)) fNil)))))) (sRet (fOp1 dTuple (fPeek 4)))))
def m__law_standing : Row → List D → Option (D × Row) := runR 6 b__law_standing
theorem ok__law_standing {f : Addr} {fd : FuncData} (Z : Blt mg) (D : Df K mg "_law_standing" s__law_standing P__law_standing f fd) {f__law_taken : Addr} {fd__law_taken : FuncData} (D__law_taken : Df K mg "_law_taken" s__law_taken P__law_taken f__law_taken fd__law_taken) (F__law_taken : FnOk Pr w K mg base CX0 1 f__law_taken fd__law_taken P__law_taken (spR K 1 m__law_taken)) : FnOk Pr w K mg base CX0 2 f fd P__law_standing (spR K 2 m__law_standing) := by
  refine fnOk_R D.fu sc__law_standing (by decide) 2 rfl fun cdv A outer s H E hr => ?_
  have hu : (A.deeper (PyProof.Rows.envOfC "_law_standing" (defScope s__law_standing) s.heap.objs.size f cdv)).units + 100 < cLine := by have := hr.un; omega
  have nd : N__law_standing.Nodup := sc__law_standing.nd
  exact ⟨_, (gss_cons (gs_par (i := 3) (j := 4) rfl nd (gv_list (gn_add (ge_listR1 rfl Z.b_list Z.b_range (ge_bin og_sub (ge_name (pv 1)) (gp_name (pv 2)))) (GE.gp (ge_bin og_rep (ge_lst (ga_cons ge_non ga_nil)) (gp_name (pv 2)))))) (gv_list (gn_lst ga_nil))) (gss_cons (gs_for PassesOwn.never rfl (gi_range1 Z.b_range (ge_name (pv 1))) (gg_name (i := 5) nd) (gss_one (gs_expr (ge_append (pv 4) (ge_popAt (pv 3) (ge_callR F__law_taken (hr.mono (by decide)) D__law_taken.mg D__law_taken.fu.kp D__law_taken.bd (pv 0) (ga_cons (ge_b1 cr_lenG cs_len (by rfl) Z.b_len (by decide +kernel) (gp_name (pv 3))) ga_nil))))))) (gss_one (gs_ret (ge_t1 call_tupleN cs_tuple (by rfl) Z.b_tuple (by decide +kernel) (gp_name (pv 4)))))))⟩
/-! _law_near -/
abbrev s__law_near : Stmt := top 34
abbrev N__law_near : List Str := ["ties", "place", "one", "other"]
abbrev P__law_near : List Str := ["ties", "place"]
theorem sc__law_near : FnScope N__law_near P__law_near (defScope s__law_near) := ⟨rfl, rfl, rfl, by decide +kernel, rfl, by decide +kernel, by decide +kernel⟩
def b__law_near : SemS := (sRet (fOp1 dSortedG (fOp2 dAdd (asList (fLc (fItems (fVar 0)) (tgTup 2 (tgCons (tgName 2) (tgCons (tgName 3) tgNil))) (fTest (fOp2 dEq (fVar 3) (fPeek 1))) (fVar 2) [2, 3])) (asList (fLc (fItems (fVar 0)) (tgTup 2 (tgCons (tgName 2) (tgCons (tgName 3) tgNil))) (fTest (fOp2 dEq (fVar 2) (fPeek 1))) (fVar 3) [2, 3])))))
def m__law_near : List D → Option D := runF 4 b__law_near
theorem ok__law_near {f : Addr} {fd : FuncData} (Z : Blt mg) (D : Df K mg "_law_near" s__law_near P__law_near f fd) : FnOk Pr w K mg base CX0 1 f fd P__law_near (spD K 2 m__law_near) := by
  refine fnOk_D D.fu sc__law_near (by decide) fun cdv A outer s H E hr => ?_
  have hu : (A.deeper (PyProof.Rows.envOfC "_law_near" (defScope s__law_near) s.heap.objs.size f cdv)).units + 100 < cLine := by have := hr.un; omega
  have nd : N__law_near.Nodup := sc__law_near.nd
  exact ⟨_, (gss_one (gs_ret (ge_b1 (cr_sortG hu rfl) cs_sortG (by rfl) Z.b_sorted (by decide +kernel) (GE.gp (ge_bin og_add (GN.ge (gn_lc' rfl nd (gc' [2, 3] (gi_seq (ge_name (pv 0))) (blkOk_by (own := [("one", 2), ("other", 3)]) (by rfl)) (fun _ _ _ _ _ => ⟨_, (gg_tup (n := 2) rfl (ggs_cons (gg_name (i := 2) nd) (ggs_cons (gg_name (i := 3) nd) ggs_nil)))⟩) (fun _ _ _ _ _ => ⟨_, (gts_one (gt_cmp (og_eq hu) (ge_name (pv 3)) (gp_name (pv 1)) (by rfl)))⟩) (fun _ _ _ _ _ => ⟨_, (ge_name (pv 2))⟩)))) (GE.gp (GN.ge (gn_lc' rfl nd (gc' [2, 3] (gi_seq (ge_name (pv 0))) (blkOk_by (own := [("one", 2), ("other", 3)]) (by rfl)) (fun _ _ _ _ _ => ⟨_, (gg_tup (n := 2) rfl (ggs_cons (gg_name (i := 2) nd) (ggs_cons (gg_name (i := 3) nd) ggs_nil)))⟩) (fun _ _ _ _ _ => ⟨_, (gts_one (gt_cmp (og_eq hu) (ge_name (pv 2)) (gp_name (pv 1)) (by rfl)))⟩) (fun _ _ _ _ _ => ⟨_, (ge_name (pv 3))⟩))))))))))⟩
/-! _law_slides -/
abbrev s__law_slides : Stmt := top 35
abbrev N__law_slides : List Str := ["yard", "standing", "found", "place", "book", "near", "other"]
abbrev P__law_slides : List Str := ["yard", "standing"]
theorem sc__law_slides : FnScope N__law_slides P__law_slides (defScope s__law_slides) := ⟨rfl, rfl, rfl, by decide +kernel, rfl, by decide +kernel, by decide +kernel⟩
def b__law_slides : SemS := (sSeq (sAsg 2 (fLst fNil)) (sSeq (sFor (fEnumT (fVar 1)) (tgTup 2 (tgCons (tgName 3) (tgCons (tgName 4) tgNil))) (sSeq (sAsgO 5 (fLc (fItems (fCall 2 m__law_near (fCons (fOp2N dIx 0 (fC (.int 1))) (fCons (fVar 3) fNil)))) (tgName 6) (fTest (fOp2 dIsN (fOp2N dIx 1 (fPeek 6)) (fC .none))) (fVar 6) [6])) (sAsg 2 (fOp2 dAdd (fVar 2) (fIf (fTest (fOp2 dNotN (fVar 4) (fC .none))) (asList (fLc (fItems (fVar 5)) (tgName 6) fYes (fTup (fCons (fVar 3) (fCons (fVar 6) fNil))) [6])) (fLst fNil)))))) (sRet (fVar 2))))
def m__law_slides : List D → Option D := runF 7 b__law_slides
theorem ok__law_slides {f : Addr} {fd : FuncData} (Z : Blt mg) (D : Df K mg "_law_slides" s__law_slides P__law_slides f fd) {f__law_near : Addr} {fd__law_near : FuncData} (D__law_near : Df K mg "_law_near" s__law_near P__law_near f__law_near fd__law_near) (F__law_near : FnOk Pr w K mg base CX0 1 f__law_near fd__law_near P__law_near (spD K 2 m__law_near)) : FnOk Pr w K mg base CX0 2 f fd P__law_slides (spD K 2 m__law_slides) := by
  refine fnOk_D D.fu sc__law_slides (by decide) fun cdv A outer s H E hr => ?_
  have hu : (A.deeper (PyProof.Rows.envOfC "_law_slides" (defScope s__law_slides) s.heap.objs.size f cdv)).units + 100 < cLine := by have := hr.un; omega
  have nd : N__law_slides.Nodup := sc__law_slides.nd
  exact ⟨_, (gss_cons (gs_set (i := 2) nd (ge_lst ga_nil)) (gss_cons (gs_for PassesOwn.never rfl (gi_enumT Z.b_enumerate (ge_name (pv 1))) (gg_tup (n := 2) rfl (ggs_cons (gg_name (i := 3) nd) (ggs_cons (gg_name (i := 4) nd) ggs_nil))) (gss_cons (gs_setLc (i := 5) (gc' [6] (gi_seq (ge_call F__law_near (hr.mono (by decide)) D__law_near.mg D__law_near.fu.kp D__law_near.bd (ga_cons (ge_ixN hu (pv 0) (GE.gp ge_int)) (ga_cons (ge_name (pv 3)) ga_nil)))) (blkOk_by (own := [("other", 6)]) (by rfl)) (fun _ _ _ _ _ => ⟨_, (gg_name (i := 6) nd)⟩) (fun _ _ _ _ _ => ⟨_, (gts_one (gt_cmp og_isN (ge_ixN hu (pv 1) (gp_name (pv 6))) (GE.gp ge_non) (by rfl)))⟩) (fun _ _ _ _ _ => ⟨_, (ge_name (pv 6))⟩)) rfl nd (sw_true rfl rfl rfl (by decide +kernel))) (gss_one (gs_set (i := 2) nd (ge_bin og_add (ge_name (pv 2)) (GE.gp (ge_if (gt_cmp og_notN (ge_name (pv 4)) (GE.gp ge_non) (by rfl)) (GN.ge (gn_lc' rfl nd (gc' [6] (gi_seq (ge_name (pv 5))) (blkOk_by (own := [("other", 6)]) (by rfl)) (fun _ _ _ _ _ => ⟨_, (gg_name (i := 6) nd)⟩) (fun _ _ _ _ _ => ⟨_, gts_nil⟩) (fun _ _ _ _ _ => ⟨_, (ge_tup (ga_cons (ge_name (pv 3)) (ga_cons (ge_name (pv 6)) ga_nil)))⟩)))) (ge_lst ga_nil)))))))) (gss_one (gs_ret (ge_name (pv 2))))))⟩
/-! _law_slid -/
abbrev s__law_slid : Stmt := top 36
abbrev N__law_slid : List Str := ["standing", "slide", "found"]
abbrev P__law_slid : List Str := ["standing", "slide"]
theorem sc__law_slid : FnScope N__law_slid P__law_slid (defScope s__law_slid) := ⟨rfl, rfl, rfl, by decide +kernel, rfl, by decide +kernel, by decide +kernel⟩
def b__law_slid : SemS := (sSeq (sAsgO 2 (fListN (fPeek 0))) (sSeq (sSet2 2 (fOp2N dIx 1 (fC (.int 1))) (fOp2N dIx 1 (fC (.int 0))) (fOp2N dIx 0 (fOp2N dIx 1 (fC (.int 0)))) (fC .none)) (sRet (fOp1 dTuple (fPeek 2)))))
def m__law_slid : List D → Option D := runF 3 b__law_slid
theorem ok__law_slid {f : Addr} {fd : FuncData} (Z : Blt mg) (D : Df K mg "_law_slid" s__law_slid P__law_slid f fd) : FnOk Pr w K mg base CX0 1 f fd P__law_slid (spD K 2 m__law_slid) := by
  refine fnOk_D D.fu sc__law_slid (by decide) fun cdv A outer s H E hr => ?_
  have hu : (A.deeper (PyProof.Rows.envOfC "_law_slid" (defScope s__law_slid) s.heap.objs.size f cdv)).units + 100 < cLine := by have := hr.un; omega
  have nd : N__law_slid.Nodup := sc__law_slid.nd
  exact ⟨_, (gss_cons (gs_setN (i := 2) nd (gn_list Z.b_list (gp_name (pv 0)))) (gss_cons (gs_set2 (n := 2) rfl (pv 2) (pv 2) (ge_ixN hu (pv 1) (GE.gp ge_int)) (ge_ixN hu (pv 1) (GE.gp ge_int)) (ge_ixN hu (pv 0) (GE.gp (ge_ixN hu (pv 1) (GE.gp ge_int)))) ge_non) (gss_one (gs_ret (ge_t1 call_tupleN cs_tuple (by rfl) Z.b_tuple (by decide +kernel) (gp_name (pv 2)))))))⟩
/-! _law_words -/
abbrev s__law_words : Stmt := top 37
abbrev N__law_words : List Str := ["yard", "standing", "found", "order", "turn", "one", "slide", "other"]
abbrev P__law_words : List Str := ["yard", "standing"]
theorem sc__law_words : FnScope N__law_words P__law_words (defScope s__law_words) := ⟨rfl, rfl, rfl, by decide +kernel, rfl, by decide +kernel, by decide +kernel⟩
def b__law_words : SemW := (wSeq (sPar 2 3 (vNew (fOneN (fVar 1) (fTup fNil))) (vList (fLst' (fCons (fVar 1) fNil)))) (wSeq (sFor (fRange1 (fC (.int 6000))) (tgName 4) (sFor (fItems (asList (fSlN 3 (foSome (fVar 4)) (foSome (fOp2 dAdd (fVar 4) (fC (.int 1))))))) (tgName 5) (sFor (fItems (fCall 2 m__law_slides (fCons (fVar 0) (fCons (fVar 5) fNil)))) (tgName 6) (sSeq (sAsg 7 (fCall 2 m__law_slid (fCons (fVar 5) (fCons (fVar 6) fNil)))) (sIf (fTest (fInN true 2 (fVar 7))) (sSeq (sPutN 2 (fVar 7) (fOp2 dAdd (fIxN 2 (fVar 5)) (fTup (fCons (fVar 6) fNil)))) (sExpr (sAppend 3 (fVar 7)))) sNext))))) (wRet 2)))
def m__law_words : List D → Option (List (NKey × D)) := runW 8 b__law_words
theorem ok__law_words {f : Addr} {fd : FuncData} (Z : Blt mg) (D : Df K mg "_law_words" s__law_words P__law_words f fd) {f__law_slides : Addr} {fd__law_slides : FuncData} (D__law_slides : Df K mg "_law_slides" s__law_slides P__law_slides f__law_slides fd__law_slides) (F__law_slides : FnOk Pr w K mg base CX0 2 f__law_slides fd__law_slides P__law_slides (spD K 2 m__law_slides)) {f__law_slid : Addr} {fd__law_slid : FuncData} (D__law_slid : Df K mg "_law_slid" s__law_slid P__law_slid f__law_slid fd__law_slid) (F__law_slid : FnOk Pr w K mg base CX0 1 f__law_slid fd__law_slid P__law_slid (spD K 2 m__law_slid)) : FnOk Pr w K mg base CX0 3 f fd P__law_words (spW K 2 m__law_words) := by
  refine fnOk_W D.fu sc__law_words (by decide) fun cdv A outer s H E hr => ?_
  have hu : (A.deeper (PyProof.Rows.envOfC "_law_words" (defScope s__law_words) s.heap.objs.size f cdv)).units + 100 < cLine := by have := hr.un; omega
  have nd : N__law_words.Nodup := sc__law_words.nd
  exact ⟨_, (gssw_cons (gs_par (i := 2) (j := 3) rfl nd (gv_new (gw_oneN hu (ge_name (pv 1)) (ge_tup ga_nil))) (gv_list (gn_lst (ga_cons (ge_name (pv 1)) ga_nil)))) (gssw_cons (gs_for PassesOwn.never rfl (gi_range1 Z.b_range ge_int) (gg_name (i := 4) nd) (gss_one (gs_for PassesOwn.never rfl (gi_seq (GN.ge (gn_sliceN (pv 3) (go_some (ge_name (pv 4))) (go_some (ge_bin og_add (ge_name (pv 4)) (GE.gp ge_int)))))) (gg_name (i := 5) nd) (gss_one (gs_for PassesOwn.never rfl (gi_seq (ge_call F__law_slides (hr.mono (by decide)) D__law_slides.mg D__law_slides.fu.kp D__law_slides.bd (ga_cons (ge_name (pv 0)) (ga_cons (ge_name (pv 5)) ga_nil)))) (gg_name (i := 6) nd) (gss_cons (gs_set (i := 7) nd (ge_call F__law_slid (hr.mono (by decide)) D__law_slid.mg D__law_slid.fu.kp D__law_slid.bd (ga_cons (ge_name (pv 5)) (ga_cons (ge_name (pv 6)) ga_nil)))) (gss_one (gs_if (gt_notInN hu (ge_name (pv 7)) (pv 2) (by rfl)) (gss_cons (gs_putN (n := 2) hu (pv 2) (ge_name (pv 7)) (ge_bin og_add (ge_ixDn hu (pv 2) (ge_name (pv 5))) (GE.gp (ge_tup (ga_cons (ge_name (pv 6)) ga_nil))))) (gss_one (gs_expr (ge_append (pv 3) (ge_name (pv 7)))))) gss_nil)))))))) (gssw_ret (pv 2))))⟩
/-! law -/
abbrev s_law : Stmt := top 38
abbrev N_law : List Str := ["script", "row", "yard", "places", "standing", "told", "words", "slide", "e", "other", "way", "now", "one", "wrong_odds", "wrong", "works", "work"]
abbrev P_law : List Str := ["script"]
theorem sc_law : FnScope N_law P_law (defScope s_law) := ⟨rfl, rfl, rfl, by decide +kernel, rfl, by decide +kernel, by decide +kernel⟩
def b_law : SemS := (sSeq (sAsg 2 (fCallR 1 1 m__law_yard (fCons (fC (.int 5)) fNil))) (sSeq (sAsg 3 (fOp2N dIx 2 (fC (.int 0)))) (sSeq (sAsg 4 (fCallR 1 2 m__law_standing (fCons (fVar 3) (fCons (fOp2 dAdd (fC (.int 1)) (fCallR 1 1 m__law_taken (fCons (fOp2 dMin2 (fC (.int 2)) (fOp2 dSub (fVar 3) (fC (.int 1)))) fNil))) fNil)))) (sSeq (sPar 5 6 (vVal (fCall 2 m__law_slides (fCons (fVar 2) (fCons (fVar 4) fNil)))) (vNew (fCallW 2 m__law_words (fCons (fVar 2) (fCons (fVar 4) fNil))))) (sSeq (sIf (fNot (fTest (fCall 2 (m__law_alike 4) (fCons (fCall 2 (okOf m_slides) (fCons (fVar 2) (fCons (fVar 4) fNil))) (fCons (fOp1 dTuple (fPeek 5)) fNil))))) (sRet (fC (.bool false))) sNext) (sSeq (sIf (fNot (fTest (fCall 2 (m__law_alike 4) (fCons (fCall 2 (okOf m_count_standings) (fCons (fVar 2) (fCons (fVar 4) fNil))) (fCons (fLenN 6) fNil))))) (sRet (fC (.bool false))) sNext) (sSeq (sAsg 7 (fTup (fCons (fCallR 1 1 m__law_taken (fCons (fVar 3) fNil)) (fCons (fCallR 1 1 m__law_taken (fCons (fVar 3) fNil)) fNil)))) (sSeq (sTryU "BadSlide" 8 (xIfX (txOr (txTest (eOp2 dNe (eCall 3 m_behind_slide (aLift (fCons (fVar 2) (fCons (fVar 4) (fCons (fVar 7) fNil))))) (eLift (fCall 2 m__law_slid (fCons (fVar 4) (fCons (fVar 7) fNil)))))) (tLift (fTest (fOp2 dNotIn (fVar 7) (fPeek 5))))) (xLift (sRet (fC (.bool false)))) (xLift sNext)) (sIf (fTest (fOp2 dIn (fVar 7) (fPeek 5))) (sRet (fC (.bool false))) sNext)) (sSeq (sAsg 9 (fCallR 1 1 m__law_pick (fCons (fLst (fCons (fCallR 1 1 m__law_pick (fCons (asList (fListNK 6)) fNil)) (fCons (fCallR 1 2 m__law_standing (fCons (fVar 3) (fCons (fOp2 dCountN (fVar 4) (fC .none)) fNil))) fNil))) fNil))) (sSeq (sTryU "NoWay" 8 (xSeq (xAsgX 10 (eCall 3 m_slides_to (aLift (fCons (fVar 2) (fCons (fVar 4) (fCons (fVar 9) fNil)))))) (xLift (sSeq (sIf (fOr (fTest (fInN true 6 (fVar 9))) (fTest (fOp2 dNe (fOp1 dLen (fPeek 10)) (fOp1 dLen (fIxN 6 (fVar 9)))))) (sRet (fC (.bool false))) sNext) (sSeq (sAsg 11 (fVar 4)) (sSeq (sFor (fItems (fVar 10)) (tgName 12) (sSeq (sIf (fTest (fOp2 dNotIn (fVar 12) (fCall 2 m__law_slides (fCons (fVar 2) (fCons (fVar 11) fNil))))) (sRet (fC (.bool false))) sNext) (sAsg 11 (fCall 2 m__law_slid (fCons (fVar 11) (fCons (fVar 12) fNil)))))) (sIf (fOr (fTest (fOp2 dNe (fVar 11) (fPeek 9))) (fNot (fTest (fCall 2 (m__law_alike 4) (fCons (fVar 10) (fCons (fIxN 6 (fVar 9)) fNil)))))) (sRet (fC (.bool false))) sNext)))))) (sIf (fTest (fInN false 6 (fVar 9))) (sRet (fC (.bool false))) sNext)) (sSeq (sAsg 13 (fLst (fCons (fC .none) (fCons (fTup fNil) (fCons (fSl (fVar 4) foNone (foSome (fOp1 dNeg (fC (.int 1))))) (fCons (fTupR (fRange1 (fVar 3))) fNil)))))) (sSeq (sAsg 14 (fCallR 1 1 m__law_pick (fCons (fOp2 dAdd (fVar 13) (fLst (fCons (fOp2 dRep (fTup (fCons (fC .none) fNil)) (fPeek 3)) (fCons (fOp2 dAdd (fSl (fVar 4) foNone (foSome (fOp1 dNeg (fC (.int 1))))) (fTup (fCons (fVar 3) fNil))) (fCons (fLst (fCons (fC .none) fNil)) fNil))))) fNil))) (sSeq (sAsgO 6 (fLst' fNil)) (sSeq (sUn 15) (sSeq (sForLam [("BadStanding", 8, (sExpr (sAppend 6 (fC (.str "standing"))))), ("BadSlide", 8, (sExpr (sAppend 6 (fC (.str "slide")))))] 16 [(eCall 2 m_slides (aLift (fCons (fVar 2) (fCons (fVar 14) fNil)))), (eCall 3 m_behind_slide (aLift (fCons (fVar 2) (fCons (fVar 4) (fCons (fCallR 1 1 m__law_pick (fCons (fLst (fCons (fC .none) (fCons (fTup (fCons (fC (.int 0)) fNil)) (fCons (fTup (fCons (fC (.int 0)) (fCons (fVar 3) fNil))) fNil)))) fNil)) fNil)))))]) (sRet (fOp2 dEq (fVar 6) (fLst (fCons (fC (.str "standing")) (fCons (fC (.str "slide")) fNil))))))))))))))))))))

theorem ok_law {f c P : Addr} {oc kV doc pm ct : Value} {od an : Option Addr} {osl : Array (Option Value)} (Z : Blt mg) (TB : LamX.TabB base mg c P) (lk : K.lookup f = some ⟨oc, od, .func (PySem.W.fnOf "law" "law" (defArgs s_law) (defBody s_law) (defScope s_law) .none kV doc pm an (.ref c) ct), osl⟩) (hcd : PySem.W.codeIn K (.ref c) "law" = true) {f_slides : Addr} {fd_slides : FuncData} (D_slides : Df K mg "slides" s_slides P_slides f_slides fd_slides) (F_slides : FnOk Pr w K mg base (L2.CX Pr w) 7 f_slides fd_slides P_slides (spX mg K 2 m_slides)) {f_behind_slide : Addr} {fd_behind_slide : FuncData} (D_behind_slide : Df K mg "behind_slide" s_behind_slide P_behind_slide f_behind_slide fd_behind_slide) (F_behind_slide : FnOk Pr w K mg base (L2.CX Pr w) 7 f_behind_slide fd_behind_slide P_behind_slide (spX mg K 3 m_behind_slide)) {f_slides_to : Addr} {fd_slides_to : FuncData} (D_slides_to : Df K mg "slides_to" s_slides_to P_slides_to f_slides_to fd_slides_to) (F_slides_to : FnOk Pr w K mg base (L2.CX Pr w) 7 f_slides_to fd_slides_to P_slides_to (spX mg K 3 m_slides_to)) {f_count_standings : Addr} {fd_count_standings : FuncData} (D_count_standings : Df K mg "count_standings" s_count_standings P_count_standings f_count_standings fd_count_standings) (F_count_standings : FnOk Pr w K mg base (L2.CX Pr w) 7 f_count_standings fd_count_standings P_count_standings (spX mg K 2 m_count_standings)) {f__law_taken : Addr} {fd__law_taken : FuncData} (D__law_taken : Df K mg "_law_taken" s__law_taken P__law_taken f__law_taken fd__law_taken) (F__law_taken : FnOk Pr w K mg base CX0 1 f__law_taken fd__law_taken P__law_taken (spR K 1 m__law_taken)) {f__law_pick : Addr} {fd__law_pick : FuncData} (D__law_pick : Df K mg "_law_pick" s__law_pick P__law_pick f__law_pick fd__law_pick) (F__law_pick : FnOk Pr w K mg base CX0 2 f__law_pick fd__law_pick P__law_pick (spR K 1 m__law_pick)) {f__law_alike : Addr} {fd__law_alike : FuncData} (D__law_alike : Df K mg "_law_alike" s__law_alike P__law_alike f__law_alike fd__law_alike) (F__law_alike : FnOk Pr w K mg base CX0 5 f__law_alike fd__law_alike P__law_alike (spD K 2 (m__law_alike 4))) {f__law_yard : Addr} {fd__law_yard : FuncData} (D__law_yard : Df K mg "_law_yard" s__law_yard P__law_yard f__law_yard fd__law_yard) (F__law_yard : FnOk Pr w K mg base CX0 3 f__law_yard fd__law_yard P__law_yard (spR K 1 m__law_yard)) {f__law_standing : Addr} {fd__law_standing : FuncData} (D__law_standing : Df K mg "_law_standing" s__law_standing P__law_standing f__law_standing fd__law_standing) (F__law_standing : FnOk Pr w K mg base CX0 2 f__law_standing fd__law_standing P__law_standing (spR K 2 m__law_standing)) {f__law_slides : Addr} {fd__law_slides : FuncData} (D__law_slides : Df K mg "_law_slides" s__law_slides P__law_slides f__law_slides fd__law_slides) (F__law_slides : FnOk Pr w K mg base CX0 2 f__law_slides fd__law_slides P__law_slides (spD K 2 m__law_slides)) {f__law_slid : Addr} {fd__law_slid : FuncData} (D__law_slid : Df K mg "_law_slid" s__law_slid P__law_slid f__law_slid fd__law_slid) (F__law_slid : FnOk Pr w K mg base CX0 1 f__law_slid fd__law_slid P__law_slid (spD K 2 m__law_slid)) {f__law_words : Addr} {fd__law_words : FuncData} (D__law_words : Df K mg "_law_words" s__law_words P__law_words f__law_words fd__law_words) (F__law_words : FnOk Pr w K mg base CX0 3 f__law_words fd__law_words P__law_words (spW K 2 m__law_words)) {C_BadSlide : Addr} (M_BadSlide : ClsP K mg "BadSlide" C_BadSlide) {C_NoWay : Addr} (M_NoWay : ClsP K mg "NoWay" C_NoWay) {C_BadStanding : Addr} (M_BadStanding : ClsP K mg "BadStanding" C_BadStanding) (T_BadSlide : PySem.W.exmOne K (.ref C_BadSlide) (.ref C_BadSlide) = some true) (T_BadStanding : PySem.W.exmOne K (.ref C_BadStanding) (.ref C_BadStanding) = some true) (T_NoWay : PySem.W.exmOne K (.ref C_NoWay) (.ref C_NoWay) = some true) (NE_BadSlide_BadStanding : PySem.W.exmOne K (.ref C_BadSlide) (.ref C_BadStanding) = some false) (hv : ∀ ns : List Int, ns.length ≤ 63 → ∃ e, b_law (lawS 7802 15 ns) = some (.rt (.bool true) e)) : FnOk Pr w K mg base CX0 9 f (PySem.W.fnOf "law" "law" (defArgs s_law) (defBody s_law) (defScope s_law) .none kV doc pm an (.ref c) ct) P_law (spLawT K P) := by
  have nd : N_law.Nodup := sc_law.nd
  refine fnOk_lawT (m := 15) (sd := 7802) lk hcd sc_law rfl (fun cdv A outer s H E => ⟨_, rfl, ps_set (i := 1) nd rfl (by first | exact .inl rfl | exact .inr rfl) (pe_lst (pa_cons (pv 0) (pa_cons pe_int (pa_cons pe_int (pa_cons pe_int pa_nil)))))⟩) (fun A outer s H E hr => ?_) hv
  have hu : (A.deeper (PyProof.Rows.envOfC "law" (defScope s_law) s.heap.objs.size f (.ref c))).units + 100 < cLine := by have := hr.un; omega
  exact ⟨_, (gsst_cons (gs_set (i := 2) nd (ge_callR F__law_yard (hr.mono (by decide)) D__law_yard.mg D__law_yard.fu.kp D__law_yard.bd (pv 1) (ga_cons ge_int ga_nil))) (gsst_cons (gs_set (i := 3) nd (ge_ixN hu (pv 2) (GE.gp ge_int))) (gsst_cons (gs_set (i := 4) nd (ge_callR F__law_standing (hr.mono (by decide)) D__law_standing.mg D__law_standing.fu.kp D__law_standing.bd (pv 1) (ga_cons (ge_name (pv 3)) (ga_cons (ge_bin og_add ge_int (GE.gp (ge_callR F__law_taken (hr.mono (by decide)) D__law_taken.mg D__law_taken.fu.kp D__law_taken.bd (pv 1) (ga_cons (ge_b2 (call_min2 rfl) cs_min2 (by rfl) Z.b_min (by decide +kernel) ge_int (GE.gp (ge_bin og_sub (ge_name (pv 3)) (GE.gp ge_int)))) ga_nil)))) ga_nil)))) (gsst_cons (gs_par (i := 5) (j := 6) rfl nd (gv_val (ge_call F__law_slides (hr.mono (by decide)) D__law_slides.mg D__law_slides.fu.kp D__law_slides.bd (ga_cons (ge_name (pv 2)) (ga_cons (ge_name (pv 4)) ga_nil)))) (gv_new (gw_callW F__law_words (hr.mono (by decide)) D__law_words.mg D__law_words.fu.kp D__law_words.bd (ga_cons (ge_name (pv 2)) (ga_cons (ge_name (pv 4)) ga_nil))))) (gsst_cons (gs_if (gt_not (gt_val (ge_call F__law_alike (hr.mono (by decide)) D__law_alike.mg D__law_alike.fu.kp D__law_alike.bd (ga_cons (ge_callO F_slides (hr.mono (by decide)) D_slides.mg D_slides.fu.kp D_slides.bd (ga_cons (ge_name (pv 2)) (ga_cons (ge_name (pv 4)) ga_nil))) (ga_cons (ge_t1 call_tupleN cs_tuple (by rfl) Z.b_tuple (by decide +kernel) (gp_name (pv 5))) ga_nil))))) (gss_one (gs_ret ge_bl)) gss_nil) (gsst_cons (gs_if (gt_not (gt_val (ge_call F__law_alike (hr.mono (by decide)) D__law_alike.mg D__law_alike.fu.kp D__law_alike.bd (ga_cons (ge_callO F_count_standings (hr.mono (by decide)) D_count_standings.mg D_count_standings.fu.kp D_count_standings.bd (ga_cons (ge_name (pv 2)) (ga_cons (ge_name (pv 4)) ga_nil))) (ga_cons (ge_lenDn (pv 6) Z.b_len) ga_nil))))) (gss_one (gs_ret ge_bl)) gss_nil) (gsst_cons (gs_set (i := 7) nd (ge_tup (ga_cons (ge_callR F__law_taken (hr.mono (by decide)) D__law_taken.mg D__law_taken.fu.kp D__law_taken.bd (pv 1) (ga_cons (ge_name (pv 3)) ga_nil)) (ga_cons (ge_callR F__law_taken (hr.mono (by decide)) D__law_taken.mg D__law_taken.fu.kp D__law_taken.bd (pv 1) (ga_cons (ge_name (pv 3)) ga_nil)) ga_nil)))) (gsst_cons (gs_tryU (i := 8) rfl rfl nd M_BadSlide.at_ T_BadSlide (fun W pn xe tk po => ⟨_, (gssx_one (gsx_ifX (GWX.gt' (gwx_or (gtx_cmp (og_ne hu) (gex_call tk F_behind_slide (hr.mono (by decide)) D_behind_slide.mg D_behind_slide.fu.kp D_behind_slide.bd (gax_lift (ga_cons (ge_name (pv 2)) (ga_cons (ge_name (pv 4)) (ga_cons (ge_name (pv 7)) ga_nil))))) (gex_lift (ge_call F__law_slid (hr.mono (by decide)) D__law_slid.mg D__law_slid.fu.kp D__law_slid.bd (ga_cons (ge_name (pv 4)) (ga_cons (ge_name (pv 7)) ga_nil)))) (by rfl)) (gwx_or1 (gtx_lift (gt_cmp (og_notIn hu) (ge_name (pv 7)) (gp_name (pv 5)) (by rfl)))))) (gssx_lift (gss_one (gs_ret ge_bl))) (gssx_lift gss_nil)))⟩) (fun _ _ _ _ _ _ _ => ⟨_, (gss_one (gs_if (gt_cmp (og_in hu) (ge_name (pv 7)) (gp_name (pv 5)) (by rfl)) (gss_one (gs_ret ge_bl)) gss_nil))⟩)) (gsst_cons (gs_set (i := 9) nd (ge_callR F__law_pick (hr.mono (by decide)) D__law_pick.mg D__law_pick.fu.kp D__law_pick.bd (pv 1) (ga_cons (ge_lst (ga_cons (ge_callR F__law_pick (hr.mono (by decide)) D__law_pick.mg D__law_pick.fu.kp D__law_pick.bd (pv 1) (ga_cons (GN.ge (gn_listDn rfl (pv 6) Z.b_list)) ga_nil)) (ga_cons (ge_callR F__law_standing (hr.mono (by decide)) D__law_standing.mg D__law_standing.fu.kp D__law_standing.bd (pv 1) (ga_cons (ge_name (pv 3)) (ga_cons (ge_tcount hu (ge_name (pv 4)) ge_non) ga_nil))) ga_nil))) ga_nil))) (gsst_cons (gs_tryU (i := 8) rfl rfl nd M_NoWay.at_ T_NoWay (fun W pn xe tk po => ⟨_, (gssx_cons (gsx_setX (i := 10) nd (gex_call tk F_slides_to (hr.mono (by decide)) D_slides_to.mg D_slides_to.fu.kp D_slides_to.bd (gax_lift (ga_cons (ge_name (pv 2)) (ga_cons (ge_name (pv 4)) (ga_cons (ge_name (pv 9)) ga_nil)))))) (gssx_lift (gss_cons (gs_if (GW.gt' (gw_or (gt_notInN hu (ge_name (pv 9)) (pv 6) (by rfl)) (gw_or1 (gt_cmp (og_ne hu) (ge_b1 cr_lenG cs_len (by rfl) Z.b_len (by decide +kernel) (gp_name (pv 10))) (GE.gp (ge_b1 cr_lenG cs_len (by rfl) Z.b_len (by decide +kernel) (GE.gp (ge_ixDn hu (pv 6) (ge_name (pv 9)))))) (by rfl))))) (gss_one (gs_ret ge_bl)) gss_nil) (gss_cons (gs_set (i := 11) nd (ge_name (pv 4))) (gss_cons (gs_for po rfl (gi_seq (ge_name (pv 10))) (gg_name (i := 12) nd) (gss_cons (gs_if (gt_cmp (og_notIn hu) (ge_name (pv 12)) (GE.gp (ge_call F__law_slides (hr.mono (by decide)) D__law_slides.mg D__law_slides.fu.kp D__law_slides.bd (ga_cons (ge_name (pv 2)) (ga_cons (ge_name (pv 11)) ga_nil)))) (by rfl)) (gss_one (gs_ret ge_bl)) gss_nil) (gss_one (gs_set (i := 11) nd (ge_call F__law_slid (hr.mono (by decide)) D__law_slid.mg D__law_slid.fu.kp D__law_slid.bd (ga_cons (ge_name (pv 11)) (ga_cons (ge_name (pv 12)) ga_nil))))))) (gss_one (gs_if (GW.gt' (gw_or (gt_cmp (og_ne hu) (ge_name (pv 11)) (gp_name (pv 9)) (by rfl)) (gw_or1 (gt_not (gt_val (ge_call F__law_alike (hr.mono (by decide)) D__law_alike.mg D__law_alike.fu.kp D__law_alike.bd (ga_cons (ge_name (pv 10)) (ga_cons (ge_ixDn hu (pv 6) (ge_name (pv 9))) ga_nil)))))))) (gss_one (gs_ret ge_bl)) gss_nil)))))))⟩) (fun _ _ _ _ _ _ _ => ⟨_, (gss_one (gs_if (gt_inN hu (ge_name (pv 9)) (pv 6) (by rfl)) (gss_one (gs_ret ge_bl)) gss_nil))⟩)) (gsst_cons (gs_set (i := 13) nd (ge_lst (ga_cons ge_non (ga_cons (ge_tup ga_nil) (ga_cons (ge_slice (ge_name (pv 4)) go_none (go_some (ge_neg ge_int))) (ga_cons (ge_tupR1 rfl Z.b_tuple Z.b_range (ge_name (pv 3))) ga_nil)))))) (gsst_cons (gs_set (i := 14) nd (ge_callR F__law_pick (hr.mono (by decide)) D__law_pick.mg D__law_pick.fu.kp D__law_pick.bd (pv 1) (ga_cons (ge_bin og_add (ge_name (pv 13)) (GE.gp (ge_lst (ga_cons (ge_bin og_rep (ge_tup (ga_cons ge_non ga_nil)) (gp_name (pv 3))) (ga_cons (ge_bin og_add (ge_slice (ge_name (pv 4)) go_none (go_some (ge_neg ge_int))) (GE.gp (ge_tup (ga_cons (ge_name (pv 3)) ga_nil)))) (ga_cons (ge_lst (ga_cons ge_non ga_nil)) ga_nil)))))) ga_nil))) (gsst_cons (gs_setN (i := 6) nd (gn_lst ga_nil)) (gsst_forL2 (k := 7) (iw := 16) (iv := 15) (fes := [(eCall 2 m_slides (aLift (fCons (fVar 2) (fCons (fVar 14) fNil)))), (eCall 3 m_behind_slide (aLift (fCons (fVar 2) (fCons (fVar 4) (fCons (fCallR 1 1 m__law_pick (fCons (fLst (fCons (fC .none) (fCons (fTup (fCons (fC (.int 0)) fNil)) (fCons (fTup (fCons (fC (.int 0)) (fCons (fVar 3) fNil))) fNil)))) fNil)) fNil)))))]) rfl rfl nd rfl (hr.mono (by decide)) PassesOwn.never (pla_0 TB rfl pla_nil (lamSc_by (by show lamScB N_law (defScope s_law) _ = true; decide +kernel)) (by decide +kernel) rfl) (pla_1 (a := "a") TB rfl pla_nil (lamSc_by (by show lamScB N_law (defScope s_law) _ = true; decide +kernel)) (by decide +kernel) rfl rfl) rfl (by show 2 ≤ sizeLine; rw [sizeLine_eq]; decide) (List.forall_mem_cons.mpr ⟨{ sc := lamSc_by (by show lamScB N_law (defScope s_law) _ = true; decide +kernel), bind0 := (fun _ _ _ _ _ _ _ => rfl), bind1 := (fun _ _ h => nomatch h), body := fun A outer s H E f c hr tk => by have hu := rm_hu hr; exact ⟨_, (gex_call tk F_slides (hr.mono (by decide)) D_slides.mg D_slides.fu.kp D_slides.bd (gax_lift (ga_cons (ge_name (pv 2)) (ga_cons (ge_name (pv 14)) ga_nil))))⟩ }, List.forall_mem_cons.mpr ⟨{ sc := lamSc_by (by show lamScB N_law (defScope s_law) _ = true; decide +kernel), bind0 := (fun h => nomatch h), bind1 := (fun a i h => by cases h; exact ⟨rfl, fun q cl doc pm cv ctv T v => ⟨_, rfl, rfl⟩⟩), body := fun A outer s H E f c hr tk => by have hu := rm_hu hr; exact ⟨_, (gex_call tk F_behind_slide (hr.mono (by decide)) D_behind_slide.mg D_behind_slide.fu.kp D_behind_slide.bd (gax_lift (ga_cons (ge_name (pv 2)) (ga_cons (ge_name (pv 4)) (ga_cons (ge_callR F__law_pick (hr.mono (by decide)) D__law_pick.mg D__law_pick.fu.kp D__law_pick.bd (pv 1) (ga_cons (ge_lst (ga_cons ge_non (ga_cons (ge_tup (ga_cons ge_int ga_nil)) (ga_cons (ge_tup (ga_cons ge_int (ga_cons (ge_name (pv 3)) ga_nil))) ga_nil)))) ga_nil)) ga_nil)))))⟩ }, fun _ h => nomatch h⟩⟩) (.cons (i := 8) M_BadStanding.at_ T_BadStanding (List.forall_mem_cons.mpr ⟨fun C h => by cases M_BadSlide.at_.symm.trans h; exact NE_BadSlide_BadStanding, List.forall_mem_nil _⟩) (fun _ _ _ _ _ _ _ => ⟨_, (gss_one (gs_expr (ge_append (pv 6) ge_str)))⟩) (.cons (i := 8) M_BadSlide.at_ T_BadSlide (List.forall_mem_nil _) (fun _ _ _ _ _ _ _ => ⟨_, (gss_one (gs_expr (ge_append (pv 6) ge_str)))⟩) .nil)) (gss_one (gs_ret (ge_cmp (og_eq hu) (ge_name (pv 6)) (GE.gp (ge_lst (ga_cons ge_str (ga_cons ge_str ga_nil)))) (by rfl)))) (pv 15)))))))))))))))⟩
end
end GL
set_option maxHeartbeats 2000000
/-! hanging: what is reached. -/
namespace GL
open PySem L2

def dkOf (met : List Int) : List (Key × D) := met.map fun i => (.inl i, .bool true)
def intsL (xs : List Int) : List D := xs.map PyData.int
/-- the frame of hanging -/
def hE (near st w : D) (met todo : List Int) (s5 s6 : Slot) : LEnv := [.val near, .val st, .val w, .dk (dkOf met), .ol (intsL todo), s5, s6]
theorem look_dk (met : List Int) (p : Int) : (lookD (kvD (dkOf met)) (.inl p)).isSome = decide (p ∈ met) := by
  induction met with
  | nil => rfl
  | cons a r ih =>
    show (lookD ((PyData.int a, PyData.bool true) :: kvD (dkOf r)) (.inl p)).isSome = _
    unfold lookD
    by_cases h : a = p
    · subst h; simp [keyOf]
    · have h' : ¬ p = a := fun z => h z.symm
      have e : keyOf (PyData.int a) = some (.inl p) ↔ False := by simp [keyOf, h]
      rw [if_neg (by rw [e]; exact id), ih]
      simp [h']
theorem put_dk {met : List Int} {p : Int} (h : p ∉ met) : putO (dkOf met) (.inl p) (.bool true) = dkOf (met ++ [p]) := by
  have no : ((dkOf met).any fun q => decide (q.1 = (.inl p : Key))) = false := by
    unfold dkOf
    rw [List.any_map, List.any_eq_false]
    intro x hx
    simp only [Function.comp, decide_eq_true_eq]
    exact fun z => h (Sum.inl.inj z ▸ hx)
  unfold putO
  rw [no]
  simp [dkOf]
def wo (w : D) (p : Int) : Bool := !PyData.eqv (.int p) w
/-- one place looked at -/
def hStep (w : D) (s : List Int × List Int) (p : Int) : List Int × List Int := if wo w p = true ∧ p ∉ s.1 then (s.1 ++ [p], s.2 ++ [p]) else s
theorem ok_int (p : Int) : okD (.int p) = true := rfl
theorem hang_turn (near st w : D) (hw : okD w = true) (met todo : List Int) (s5 s6 : Slot) (h6 : noRow (hE near st w met todo s5 s6) 6 = true) (p : Int) (hm : met.length < 1000000) (ht : todo.length < 1000000) :
    ∃ e1, tgName 6 (.int p) (hE near st w met todo s5 s6) = some e1 ∧ (sIf (fAnd (fTest (fOp2 dNe (fVar 6) (fPeek 2))) (fTest (fOp2 dNotIn (fVar 6) (fPeek 3)))) (sSeq (sPutK 3 (fVar 6) (fC (.bool true))) (sExpr (sAppend 4 (fVar 6)))) sNext) e1 =
      some (.nx (hE near st w (hStep w (met, todo) p).1 (hStep w (met, todo) p).2 s5 (.val (.int p)))) := by
  refine ⟨hE near st w met todo s5 (.val (.int p)), by unfold tgName; rw [if_pos h6]; rfl, ?_⟩
  have t1 : fTest (fOp2 dNe (fVar 6) (fPeek 2)) (hE near st w met todo s5 (.val (.int p))) = some (wo w p, hE near st w met todo s5 (.val (.int p))) := by
    refine x_test (x_op2 (x_var rfl) (x_peek rfl) ?_)
    unfold dNe
    rw [if_pos ⟨ok_int p, hw⟩]
    rfl
  have t2 : fTest (fOp2 dNotIn (fVar 6) (fPeek 3)) (hE near st w met todo s5 (.val (.int p))) = some (!decide (p ∈ met), hE near st w met todo s5 (.val (.int p))) := by
    refine x_test (x_op2 (x_var rfl) (x_peek rfl) ?_)
    show (some (PyData.bool (!(lookD (kvD (dkOf met)) (.inl p)).isSome))) = _
    rw [look_dk]
  have t3 : fAnd (fTest (fOp2 dNe (fVar 6) (fPeek 2))) (fTest (fOp2 dNotIn (fVar 6) (fPeek 3))) (hE near st w met todo s5 (.val (.int p))) = some (wo w p && !decide (p ∈ met), hE near st w met todo s5 (.val (.int p))) := by
    unfold fAnd
    rw [t1, Option.bind_some]
    cases wo w p with
    | true => rw [if_pos rfl]; exact t2
    | false => rfl
  rw [x_if t3]
  by_cases h : wo w p = true ∧ p ∉ met
  · have hb : (wo w p && !decide (p ∈ met)) = true := by simp [h.1, h.2]
    rw [if_pos hb]
    have hs : hStep w (met, todo) p = (met ++ [p], todo ++ [p]) := by unfold hStep; rw [if_pos h]
    rw [hs]
    have p1 : sPutK 3 (fVar 6) (fC (.bool true)) (hE near st w met todo s5 (.val (.int p))) = some (.nx (hE near st w (met ++ [p]) todo s5 (.val (.int p)))) := by
      show (if (dkOf met).length < 1000000 then some (Fl.nx ((hE near st w met todo s5 (.val (.int p))).set 3 (.dk (putO (dkOf met) (.inl p) (.bool true))))) else none) = _
      rw [if_pos (by unfold dkOf; rw [List.length_map]; exact hm), put_dk h.2]
      rfl
    rw [x_seq p1]
    refine x_expr (d := .none) ?_
    show (if (intsL todo).length < 1000000 then some (PyData.none, (hE near st w (met ++ [p]) todo s5 (.val (.int p))).set 4 (.ol (intsL todo ++ [.int p]))) else none) = _
    rw [if_pos (by unfold intsL; rw [List.length_map]; exact ht)]
    have e : intsL (todo ++ [p]) = intsL todo ++ [.int p] := by unfold intsL; rw [List.map_append]; rfl
    unfold hE
    dsimp only
    rw [e]
    rfl
  · have hb : (wo w p && !decide (p ∈ met)) = false := by
      cases h1 : wo w p with
      | false => rfl
      | true =>
        have : p ∈ met := Classical.byContradiction fun z => h ⟨h1, z⟩
        simp [this]
    rw [hb, if_neg Bool.false_ne_true]
    have hs : hStep w (met, todo) p = (met, todo) := by unfold hStep; rw [if_neg h]
    rw [hs]
    rfl
abbrev hBody : SemS := sIf (fAnd (fTest (fOp2 dNe (fVar 6) (fPeek 2))) (fTest (fOp2 dNotIn (fVar 6) (fPeek 3)))) (sSeq (sPutK 3 (fVar 6) (fC (.bool true))) (sExpr (sAppend 4 (fVar 6)))) sNext
def hFold (w : D) (s : List Int × List Int) (ps : List Int) : List Int × List Int := ps.foldl (hStep w) s
theorem hStep_len (w : D) (s : List Int × List Int) (p : Int) : (hStep w s p).1.length ≤ s.1.length + 1 ∧ (hStep w s p).2.length ≤ s.2.length + 1 := by
  unfold hStep
  split
  · simp
  · simp
theorem hang_for (near st w : D) (hw : okD w = true) (s5 : Slot) : ∀ (ps : List Int) (met todo : List Int) (s6 : Slot), (isLent s6 = false) → met.length + ps.length < 1000000 → todo.length + ps.length < 1000000 →
    ∃ s6', (isLent s6' = false) ∧ sForL (tgName 6) hBody (intsL ps) (hE near st w met todo s5 s6) = some (.nx (hE near st w (hFold w (met, todo) ps).1 (hFold w (met, todo) ps).2 s5 s6'))
  | [], met, todo, s6, h6, _, _ => ⟨s6, h6, rfl⟩
  | p :: ps, met, todo, s6, h6, hm, ht => by
    rw [List.length_cons] at hm ht
    have n6 : noRow (hE near st w met todo s5 s6) 6 = true := by
      show (match some s6 with | some (.row _) => false | some (.ln _) => false | none => false | _ => true) = true
      cases s6 with
      | row r => cases h6
      | ln r => cases h6
      | _ => rfl
    obtain ⟨e1, h1, h2⟩ := hang_turn near st w hw met todo s5 s6 n6 p (by omega) (by omega)
    have hl := hStep_len w (met, todo) p
    obtain ⟨s6', h3, h4⟩ := hang_for near st w hw s5 ps (hStep w (met, todo) p).1 (hStep w (met, todo) p).2 (.val (.int p)) rfl (by dsimp only at hl ⊢; omega) (by dsimp only at hl ⊢; omega)
    refine ⟨s6', h3, ?_⟩
    show sForL (tgName 6) hBody (PyData.int p :: intsL ps) _ = _
    unfold sForL
    have h2' : hBody e1 = _ := h2
    rw [h1, Option.bind_some, h2', Option.bind_some]
    exact h4
/-- one turn of the search: the last place of todo is looked at -/
theorem hang_while (near st w : D) (hw : okD w = true) (met t : List Int) (here : Int) (ps : List Int) (hn : dIx near (.int here) = some (.list (intsL ps))) (s5 s6 : Slot) (h5 : isLent s5 = false) (h6 : isLent s6 = false) (hm : met.length + ps.length < 1000000) (ht : t.length + ps.length < 1000000) :
    ∃ s6', (isLent s6' = false) ∧ sSeq (sAsg 5 (fPop 4)) (sFor (fItems (fOp2N dIx 0 (fPeek 5))) (tgName 6) hBody) (hE near st w met (t ++ [here]) s5 s6) = some (.nx (hE near st w (hFold w (met, t) ps).1 (hFold w (met, t) ps).2 (.val (.int here)) s6')) := by
  have e : intsL (t ++ [here]) = intsL t ++ [.int here] := by unfold intsL; rw [List.map_append]; rfl
  have p1 : fPop 4 (hE near st w met (t ++ [here]) s5 s6) = some (.int here, hE near st w met t s5 s6) := by
    unfold fPop
    show (match (intsL (t ++ [here])).getLast? with | some d => some (d, (hE near st w met (t ++ [here]) s5 s6).set 4 (.ol (intsL (t ++ [here])).dropLast)) | none => none) = _
    rw [e, List.getLast?_append]
    simp only [List.getLast?_singleton, Option.some_or]
    rw [List.dropLast_concat]
    rfl
  have n5 : noRow (hE near st w met t s5 s6) 5 = true := by
    show (match some s5 with | some (.row _) => false | some (.ln _) => false | none => false | _ => true) = true
    cases s5 with
    | row r => cases h5
    | ln r => cases h5
    | _ => rfl
  rw [x_seq (x_asg p1 n5)]
  have i1 : fItems (fOp2N dIx 0 (fPeek 5)) (hE near st w met t (.val (.int here)) s6) = some (intsL ps, hE near st w met t (.val (.int here)) s6) := by
    unfold fItems
    rw [x_op2N (x0 := near) (x := near) rfl (x_peek rfl) rfl hn]
    rfl
  obtain ⟨s6', h1, h2⟩ := hang_for near st w hw (.val (.int here)) ps met t s6 h6 hm ht
  refine ⟨s6', h1, ?_⟩
  show sFor _ _ _ (hE near st w met t (.val (.int here)) s6) = _
  unfold sFor
  rw [i1, Option.bind_some]
  exact h2
end GL
/-! hanging: the whole search. -/
namespace GL
open PySem L2 GR

theorem nodup_le {α : Type} [DecidableEq α] : ∀ {xs ys : List α}, xs.Nodup → (∀ x ∈ xs, x ∈ ys) → xs.length ≤ ys.length
  | [], _, _, _ => Nat.zero_le _
  | x :: xs, ys, nd, h => by
    obtain ⟨n1, n2⟩ := List.nodup_cons.mp nd
    have m := h x List.mem_cons_self
    have := nodup_le (ys := ys.erase x) n2 fun y hy => (List.mem_erase_of_ne (fun z => n1 (by rw [← z]; exact hy))).mpr (h y (List.mem_cons_of_mem _ hy))
    have l := List.length_erase_of_mem m
    have p : 0 < ys.length := List.length_pos_of_mem m
    rw [List.length_cons]
    omega
/-- what a run over ps does to the places met and still to do -/
theorem hFold_is (w : D) : ∀ (ps met todo : List Int), met.Nodup → (∃ add, hFold w (met, todo) ps = (met ++ add, todo ++ add) ∧ (met ++ add).Nodup ∧ (∀ x ∈ add, x ∈ ps ∧ wo w x = true)) ∧ ∀ p ∈ ps, wo w p = true → p ∈ (hFold w (met, todo) ps).1
  | [], met, todo, nd => ⟨⟨[], by simp [hFold], by simpa using nd, fun x m => by cases m⟩, fun p m => by cases m⟩
  | p :: ps, met, todo, nd => by
    by_cases h : wo w p = true ∧ p ∉ met
    · have e : hStep w (met, todo) p = (met ++ [p], todo ++ [p]) := by unfold hStep; rw [if_pos h]
      have nd' : (met ++ [p]).Nodup := List.nodup_append.mpr ⟨nd, by simp, fun a m b m2 => by rw [List.mem_singleton.mp m2]; exact fun z => h.2 (z ▸ m)⟩
      obtain ⟨⟨add, a1, a2, a3⟩, a4⟩ := hFold_is w ps (met ++ [p]) (todo ++ [p]) nd'
      have e2 : hFold w (met, todo) (p :: ps) = hFold w (met ++ [p], todo ++ [p]) ps := by
        show hFold w (hStep w (met, todo) p) ps = _
        rw [e]
      refine ⟨⟨p :: add, by rw [e2, a1]; simp, by simpa using a2, fun x m => ?_⟩, fun q m hq => ?_⟩
      · rcases List.mem_cons.mp m with rfl | m
        · exact ⟨List.mem_cons_self, h.1⟩
        · exact ⟨List.mem_cons_of_mem _ (a3 x m).1, (a3 x m).2⟩
      · rw [e2]
        rcases List.mem_cons.mp m with rfl | m
        · rw [a1]; simp
        · exact a4 q m hq
    · have e : hStep w (met, todo) p = (met, todo) := by unfold hStep; rw [if_neg h]
      obtain ⟨⟨add, a1, a2, a3⟩, a4⟩ := hFold_is w ps met todo nd
      have e2 : hFold w (met, todo) (p :: ps) = hFold w (met, todo) ps := by
        show hFold w (hStep w (met, todo) p) ps = _
        rw [e]
      refine ⟨⟨add, by rw [e2, a1], a2, fun x m => ⟨List.mem_cons_of_mem _ (a3 x m).1, (a3 x m).2⟩⟩, fun q m hq => ?_⟩
      rw [e2]
      rcases List.mem_cons.mp m with rfl | m
      · have : q ∈ met := Classical.byContradiction fun z => h ⟨hq, z⟩
        rw [a1]; simp [this]
      · exact a4 q m hq
/-- places beside one another -/
def adj (ts : List Tie) (a b : Int) : Prop := b ∈ besideL ts a
theorem near_look {ts : List Tie} {a : Int} (h : besideL ts a ≠ []) : dIx (nbD (nbOf ts)) (.int a) = some (.list (intsL (besideL ts a))) := by
  show (keyOf (PyData.int a)).bind (fun k => lookD ((nbOf ts).map fun p => (keyD p.1, PyData.list p.2)) k) = _
  show lookD ((nbOf ts).map fun p => (keyD p.1, PyData.list p.2)) (.inl a) = _
  rw [nbGet_look, nbOf_is ts a, if_neg h]
  rfl
abbrev hWhile : SemS := sWhile (fTruth (fPeek 4)) (sSeq (sAsg 5 (fPop 4)) (sFor (fItems (fOp2N dIx 0 (fPeek 5))) (tgName 6) hBody)) 1000
/-- what the search keeps -/
structure HInv (ts : List Tie) (w : D) (st : Int) (met todo : List Int) : Prop where
  nd : met.Nodup
  sub : ∀ x ∈ todo, x ∈ met
  tnd : todo.Nodup
  st0 : st ∈ met
  rch : ∀ x ∈ met, Rch (adj ts) (fun p => wo w p = true) st x
  done : ∀ x ∈ met, x ∉ todo → ∀ p ∈ besideL ts x, wo w p = true → p ∈ met
theorem hang_all (ts : List Tie) (w : D) (hw : okD w = true) (std : D) (st : Int) (U : List Int) (hU : U.length ≤ 400) (hb : ∀ x ∈ U, besideL ts x ≠ []) (hs : ∀ x ∈ U, ∀ p ∈ besideL ts x, p ∈ U) (hst : st ∈ U) (hst2 : wo w st = true) (hsm : ts.length ≤ 1000) :
    ∃ met s5 s6, hWhile (hE (nbD (nbOf ts)) std w [st] [st] .un .un) = some (.nx (hE (nbD (nbOf ts)) std w met [] s5 s6)) ∧ met.Nodup ∧ ∀ p, p ∈ met ↔ Rch (adj ts) (fun p => wo w p = true) st p := by
  have inU : ∀ x, Rch (adj ts) (fun p => wo w p = true) st x → x ∈ U := fun x h => by
    induction h with
    | refl _ => exact hst
    | step _ e _ ih => exact hs _ ih _ e
  have blen : ∀ x, (besideL ts x).length ≤ 2 * ts.length := fun x => by
    unfold besideL
    have : ∀ l : List Tie, (l.flatMap fun t => (if t.1 = x then [t.2] else []) ++ (if t.2 = x then [t.1] else [])).length ≤ 2 * l.length := by
      intro l
      induction l with
      | nil => simp
      | cons t l ih =>
        rw [List.flatMap_cons, List.length_append, List.length_append, List.length_cons]
        have a1 : (if t.1 = x then [t.2] else []).length ≤ 1 := by split <;> simp
        have a2 : (if t.2 = x then [t.1] else []).length ≤ 1 := by split <;> simp
        omega
    exact this ts
  obtain ⟨e', h1, met, s5, s6, h2, h3⟩ := x_while (c := fTruth (fPeek 4)) (b := sSeq (sAsg 5 (fPop 4)) (sFor (fItems (fOp2N dIx 0 (fPeek 5))) (tgName 6) hBody))
    (fun e => ∃ met todo s5 s6, e = hE (nbD (nbOf ts)) std w met todo s5 s6 ∧ (isLent s5 = false) ∧ (isLent s6 = false) ∧ HInv ts w st met todo)
    (fun e => ∃ met s5 s6, e = hE (nbD (nbOf ts)) std w met [] s5 s6 ∧ HInv ts w st met [])
    (fun e => match e with | [_, _, _, .dk kv, .ol td, _, _] => 2 * (U.length - kv.length) + td.length | _ => 0) (fun e he => by
      obtain ⟨met, todo, s5, s6, rfl, h5, h6, I⟩ := he
      have tr : fTruth (fPeek 4) (hE (nbD (nbOf ts)) std w met todo s5 s6) = some (!(intsL todo).isEmpty, hE (nbD (nbOf ts)) std w met todo s5 s6) := rfl
      rcases List.eq_nil_or_concat todo with rfl | ⟨t, here, rfl⟩
      · exact .inl ⟨_, tr, met, s5, s6, rfl, I⟩
      · have hm : here ∈ met := I.sub here (by simp)
        have hr := I.rch here hm
        have hu := inU here hr
        have ml : met.length ≤ U.length := nodup_le I.nd fun x m => inU x (I.rch x m)
        obtain ⟨tn1, tn2, tn3⟩ := List.nodup_append.mp (by simpa using I.tnd : (t ++ [here]).Nodup)
        have tsub : ∀ x ∈ t, x ∈ met := fun x m => I.sub x (by simp [m])
        have tl : t.length ≤ U.length := Nat.le_trans (nodup_le tn1 tsub) ml
        have bl := blen here
        obtain ⟨s6', g1, g2⟩ := hang_while (nbD (nbOf ts)) std w hw met t here (besideL ts here) (near_look (hb here hu)) s5 s6 h5 h6 (by omega) (by omega)
        obtain ⟨⟨add, a1, a2, a3⟩, a4⟩ := hFold_is w (besideL ts here) met t I.nd
        obtain ⟨b1, b2, b3⟩ := List.nodup_append.mp a2
        have I2 : HInv ts w st (met ++ add) (t ++ add) := ⟨a2, fun x m => (List.mem_append.mp m).elim (fun m => List.mem_append_left _ (tsub x m)) fun m => List.mem_append_right _ m,
          List.nodup_append.mpr ⟨tn1, b2, fun x m y m2 => b3 x (tsub x m) y m2⟩, List.mem_append_left _ I.st0,
          fun x m => (List.mem_append.mp m).elim (I.rch x) fun m => .step hr (a3 x m).1 (a3 x m).2, fun x m n p hp hwp => by
            rcases List.mem_append.mp m with m | m
            · by_cases hx : x = here
              · subst hx
                have := a4 p hp hwp
                rw [a1] at this
                exact this
              · refine List.mem_append_left _ (I.done x m (fun z => ?_) p hp hwp)
                have z' : x ∈ t ++ [here] := by simpa using z
                rcases List.mem_append.mp z' with z | z
                · exact n (List.mem_append_left _ z)
                · exact hx (List.mem_singleton.mp z)
            · exact absurd (List.mem_append_right _ m) n⟩
        have ml2 : (met ++ add).length ≤ U.length := nodup_le I2.nd fun x m => inU x (I2.rch x m)
        rw [a1] at g2
        refine .inr ⟨hE (nbD (nbOf ts)) std w met (t.concat here) s5 s6, hE (nbD (nbOf ts)) std w (met ++ add) (t ++ add) (.val (.int here)) s6', ?_, .inl (by rw [List.concat_eq_append]; exact g2), ⟨met ++ add, t ++ add, .val (.int here), s6', rfl, (rfl), g1, I2⟩, ?_⟩
        · rw [tr, List.concat_eq_append]
          simp [intsL]
        · show 2 * (U.length - (dkOf (met ++ add)).length) + (intsL (t ++ add)).length < 2 * (U.length - (dkOf met).length) + (intsL (t.concat here)).length
          unfold dkOf intsL
          rw [List.length_map, List.length_map, List.length_map, List.length_map, List.concat_eq_append, List.length_append, List.length_append, List.length_append]
          rw [List.length_append] at ml2
          simp only [List.length_singleton]
          omega) 1000 (hE (nbD (nbOf ts)) std w [st] [st] .un .un) ⟨[st], [st], .un, .un, rfl, rfl, rfl, ⟨by simp, fun x m => m, by simp, by simp, fun x m => by rw [List.mem_singleton.mp m]; exact .refl hst2, fun x m n => absurd m n⟩⟩ (by
      show 2 * (U.length - 1) + 1 < 1000
      omega)
  subst h2
  refine ⟨met, s5, s6, h1, h3.nd, fun p => ⟨h3.rch p, fun h => ?_⟩⟩
  induction h with
  | refl _ => exact h3.st0
  | @step x y _ e s ih => exact h3.done x ih (by simp) y e s
end GL
/-! hanging: its answer. -/
namespace GL
open PySem L2 GR

theorem le_ints (i j : Int) : PySem.W.dataLe false id (PyData.int i) (PyData.int j) = decide (i ≤ j) := by
  unfold PySem.W.dataLe PySem.W.sortLe
  show (!PyProof.Rows.lexLt PyProof.Rows.itemOrd [Sum.inl j] [Sum.inl i]) = _
  unfold PyProof.Rows.lexLt
  by_cases h : i ≤ j
  · have h' : ¬ j < i := by omega
    simp [PyProof.Rows.itemOrd, PyProof.Rows.itemLt, PyProof.Rows.lexLt, h, h']
  · have h' : j < i := by omega
    simp [PyProof.Rows.itemOrd, PyProof.Rows.itemLt, PyProof.Rows.lexLt, h, h']
theorem sort_ints (xs : List Int) : sortD (intsL xs) = intsL (xs.mergeSort fun a b => decide (a ≤ b)) := by
  unfold sortD intsL
  rw [List.map_mergeSort]
  intro a _ b _
  exact (le_ints a b).symm
theorem plain_ints : ∀ xs : List Int, PyData.plainAll (intsL xs) = true
  | [] => rfl
  | x :: xs => by
    show (PyData.plain (.int x) && PyData.plainAll (intsL xs)) = true
    rw [plain_ints xs]; rfl
theorem dSortL_ints {xs : List Int} (hl : xs.length ≤ 1000000) (ok : okD (.list (intsL xs)) = true) : dSortL (intsL xs) = some (.list (intsL (xs.mergeSort fun a b => decide (a ≤ b)))) := by
  have a1 : alikes (intsL xs) = true := by
    unfold alikes intsL
    simp only [List.all_map, List.all_eq_true, Function.comp]
    intro x _ y _
    rfl
  have a2 : sortable (intsL xs) = true := by
    unfold sortable intsL
    rw [Bool.or_eq_true]
    right
    rw [List.all_map, List.all_eq_true]
    intro x _
    rfl
  unfold dSortL
  rw [if_pos ⟨a1, a2, ok, by unfold intsL; rw [List.length_map]; exact hl⟩, sort_ints]
theorem depth_ints : ∀ xs : List Int, PyData.depthAll (intsL xs) ≤ 1
  | [] => by decide
  | x :: xs => by
    have := depth_ints xs
    show max (PyData.depth (.int x)) (PyData.depthAll (intsL xs)) ≤ 1
    have h : PyData.depth (.int x) ≤ 1 := by show PyData.depth (.int x) ≤ 1; unfold PyData.depth; decide
    omega
theorem ok_ints (xs : List Int) : okD (.list (intsL xs)) = true := by
  unfold okD
  rw [Bool.and_eq_true]
  refine ⟨?_, ?_⟩
  · show PyData.plain (.list (intsL xs)) = true
    simpa [PyData.plain] using plain_ints xs
  · have := depth_ints xs
    rw [decide_eq_true_eq]
    show PyData.depth (.list (intsL xs)) ≤ 50
    unfold PyData.depth
    omega
def sortI (xs : List Int) : List Int := xs.mergeSort fun a b => decide (a ≤ b)
/-- hanging(near, st, w) is the sorted list of what is reached from st without w -/
theorem hanging_is (ts : List Tie) (w : D) (hw : okD w = true) (st : Int) (U : List Int) (hU : U.length ≤ 400) (hb : ∀ x ∈ U, besideL ts x ≠ []) (hs : ∀ x ∈ U, ∀ p ∈ besideL ts x, p ∈ U) (hst : st ∈ U) (hst2 : wo w st = true) (hsm : ts.length ≤ 1000) :
    ∃ met : List Int, m_hanging [nbD (nbOf ts), .int st, w] = some (.list (intsL (sortI met))) ∧ met.Nodup ∧ ∀ p, p ∈ met ↔ Rch (adj ts) (fun p => wo w p = true) st p := by
  obtain ⟨met, s5, s6, h1, h2, h3⟩ := hang_all ts w hw (.int st) st U hU hb hs hst hst2 hsm
  refine ⟨met, ?_, h2, h3⟩
  have inU : ∀ x, Rch (adj ts) (fun p => wo w p = true) st x → x ∈ U := fun x h => by
    induction h with
    | refl _ => exact hst
    | step _ e _ ih => exact hs _ ih _ e
  have ml : met.length ≤ U.length := nodup_le h2 fun x m => inU x ((h3 x).mp m)
  refine x_runF (e := hE (nbD (nbOf ts)) (.int st) w met [] s5 s6) ?_
  have a1 : sAsgW 3 (fOneK (fVar 1) (fC (.bool true))) (startE 7 [nbD (nbOf ts), .int st, w]) = some (.nx [.val (nbD (nbOf ts)), .val (.int st), .val w, .dk (dkOf [st]), .un, .un, .un]) := rfl
  have a2 : sAsgO 4 (fLst' (fCons (fVar 1) fNil)) [.val (nbD (nbOf ts)), .val (.int st), .val w, .dk (dkOf [st]), .un, .un, .un] = some (.nx (hE (nbD (nbOf ts)) (.int st) w [st] [st] .un .un)) := rfl
  unfold b_hanging
  rw [x_seq a1, x_seq a2, x_seq h1]
  refine x_ret (x_op1 (x_peek rfl) ?_)
  show dSortL ((kvD (dkOf met)).map (·.1)) = _
  have e : (kvD (dkOf met)).map (·.1) = intsL met := by
    unfold kvD dkOf intsL
    rw [List.map_map, List.map_map]
    rfl
  rw [e]
  exact dSortL_ints (by omega) (ok_ints met)
end GL
/-! How many places the ties have; parts. -/
namespace GL
open PySem L2 GR

def keysN (kvs : Nb) : List Key := kvs.map (·.1)
open Classical in
theorem keysN_add (kvs : Nb) (k : Key) (d : D) : keysN (nbAdd kvs k d) = if k ∈ keysN kvs then keysN kvs else keysN kvs ++ [k] := by
  induction kvs with
  | nil => simp [nbAdd, keysN]
  | cons p r ih =>
    obtain ⟨a, ds⟩ := p
    unfold nbAdd
    by_cases h : a = k
    · subst h; simp [keysN]
    · rw [if_neg h]
      have e1 : ∀ r : Nb, keysN ((a, ds) :: r) = a :: keysN r := fun _ => rfl
      rw [e1, e1, ih]
      by_cases m : k ∈ keysN r
      · rw [if_pos m, if_pos (List.mem_cons_of_mem _ m)]
      · rw [if_neg m, if_neg (fun z => (List.mem_cons.mp z).elim (fun e => h e.symm) m)]
        rfl
theorem keysN_nd (kvs : Nb) (k : Key) (d : D) (h : (keysN kvs).Nodup) : (keysN (nbAdd kvs k d)).Nodup := by
  rw [keysN_add]
  split
  · exact h
  · rename_i n
    exact List.nodup_append.mpr ⟨h, by simp, fun a m b m2 => by rw [List.mem_singleton.mp m2]; exact fun z => n (z ▸ m)⟩
theorem keysN_mem (kvs : Nb) (k k' : Key) (d : D) : k' ∈ keysN (nbAdd kvs k d) ↔ k' = k ∨ k' ∈ keysN kvs := by
  rw [keysN_add]
  split
  · rename_i m
    exact ⟨.inr, fun z => z.elim (fun e => e ▸ m) id⟩
  · rw [List.mem_append, List.mem_singleton]
    exact ⟨fun z => z.elim .inr .inl, fun z => z.elim .inr .inl⟩
/-- the ends of the ties -/
def isEnd (ts : List Tie) (a : Int) : Prop := ∃ t ∈ ts, t.1 = a ∨ t.2 = a
theorem keys_fold : ∀ (ts : List Tie) (kvs : Nb), (keysN kvs).Nodup → (keysN (ts.foldl nbStep kvs)).Nodup ∧ ∀ k, k ∈ keysN (ts.foldl nbStep kvs) ↔ k ∈ keysN kvs ∨ ∃ a, k = .inl a ∧ isEnd ts a
  | [], kvs, h => ⟨h, fun k => ⟨.inl, fun z => z.elim id fun ⟨a, _, t, m, _⟩ => by cases m⟩⟩
  | t :: ts, kvs, h => by
    have h1 := keysN_nd kvs (.inl t.1) (.int t.2) h
    have h2 := keysN_nd (nbAdd kvs (.inl t.1) (.int t.2)) (.inl t.2) (.int t.1) h1
    obtain ⟨i1, i2⟩ := keys_fold ts (nbStep kvs t) h2
    refine ⟨i1, fun k => ?_⟩
    rw [List.foldl_cons, i2]
    unfold nbStep
    rw [keysN_mem, keysN_mem]
    constructor
    · rintro ((rfl | rfl | m) | ⟨a, e, s, m, hs⟩)
      · exact .inr ⟨t.2, rfl, t, List.mem_cons_self, .inr rfl⟩
      · exact .inr ⟨t.1, rfl, t, List.mem_cons_self, .inl rfl⟩
      · exact .inl m
      · exact .inr ⟨a, e, s, List.mem_cons_of_mem _ m, hs⟩
    · rintro (m | ⟨a, rfl, s, m, hs⟩)
      · exact .inl (.inr (.inr m))
      · rcases List.mem_cons.mp m with rfl | m
        · rcases hs with rfl | rfl
          · exact .inl (.inr (.inl rfl))
          · exact .inl (.inl rfl)
        · exact .inr ⟨a, rfl, s, m, hs⟩
theorem keys_of (ts : List Tie) : (keysN (nbOf ts)).Nodup ∧ ∀ k, k ∈ keysN (nbOf ts) ↔ ∃ a, k = .inl a ∧ isEnd ts a := by
  obtain ⟨h1, h2⟩ := keys_fold ts [] List.nodup_nil
  exact ⟨h1, fun k => (h2 k).trans ⟨fun z => z.elim (fun m => by cases m) id, .inr⟩⟩
theorem beside_end {ts : List Tie} {a b : Int} (h : b ∈ besideL ts a) : isEnd ts a ∧ isEnd ts b := by
  unfold besideL at h
  obtain ⟨t, m, h⟩ := List.mem_flatMap.mp h
  rcases List.mem_append.mp h with h | h
  · split at h
    · rename_i e; rw [List.mem_singleton.mp h]; exact ⟨⟨t, m, .inl e⟩, t, m, .inr rfl⟩
    · cases h
  · split at h
    · rename_i e; rw [List.mem_singleton.mp h]; exact ⟨⟨t, m, .inr e⟩, t, m, .inl rfl⟩
    · cases h
theorem mem_beside {ts : List Tie} {a b : Int} : b ∈ besideL ts a ↔ (a, b) ∈ ts ∨ (b, a) ∈ ts := by
  unfold besideL
  rw [List.mem_flatMap]
  constructor
  · rintro ⟨t, m, h⟩
    rcases List.mem_append.mp h with h | h
    · split at h
      · rename_i e
        rw [List.mem_singleton.mp h, ← e]
        exact .inl m
      · cases h
    · split at h
      · rename_i e
        rw [List.mem_singleton.mp h, ← e]
        exact .inr m
      · cases h
  · rintro (m | m)
    · exact ⟨_, m, List.mem_append_left _ (by simp)⟩
    · exact ⟨_, m, List.mem_append_right _ (by simp)⟩
theorem end_beside {ts : List Tie} {a : Int} (h : isEnd ts a) : besideL ts a ≠ [] := by
  obtain ⟨t, m, e⟩ := h
  rcases e with e | e
  · exact List.ne_nil_of_mem (mem_beside.mpr (.inl (show (a, t.2) ∈ ts from e ▸ m)))
  · exact List.ne_nil_of_mem (mem_beside.mpr (.inr (show (t.1, a) ∈ ts from e ▸ m)))
theorem adj_symm (ts : List Tie) (a b : Int) (h : adj ts a b) : adj ts b a := mem_beside.mpr ((mem_beside.mp h).symm)
end GL
/-! parts: does the place part the others. -/
namespace GL
open PySem L2 GR

theorem all_inl : ∀ l : List Key, (∀ k ∈ l, ∃ a, k = .inl a) → ∃ E : List Int, l = E.map Sum.inl
  | [], _ => ⟨[], rfl⟩
  | k :: l, h => by
    obtain ⟨a, e⟩ := h k List.mem_cons_self
    obtain ⟨E, e2⟩ := all_inl l fun k m => h k (List.mem_cons_of_mem _ m)
    exact ⟨a :: E, by rw [e, e2]; rfl⟩
/-- the ends, each once -/
theorem ends_of (ts : List Tie) : ∃ E : List Int, keysN (nbOf ts) = E.map Sum.inl ∧ E.Nodup ∧ (∀ a, a ∈ E ↔ isEnd ts a) ∧ (nbOf ts).length = E.length := by
  obtain ⟨h1, h2⟩ := keys_of ts
  obtain ⟨E, e⟩ := all_inl (keysN (nbOf ts)) fun k m => by
    obtain ⟨a, e, _⟩ := (h2 k).mp m
    exact ⟨a, e⟩
  rw [e] at h1 h2
  refine ⟨E, e, (List.pairwise_map.mp h1).imp fun h z => h (congrArg _ z), fun a => ?_, ?_⟩
  · have := h2 (.inl a)
    rw [List.mem_map] at this
    exact ⟨fun m => by
      obtain ⟨b, e, hb⟩ := this.mp ⟨a, m, rfl⟩
      cases e; exact hb, fun m => by
      obtain ⟨b, hb, e⟩ := this.mpr ⟨a, rfl, m⟩
      cases e; exact hb⟩
  · have := congrArg List.length e
    unfold keysN at this
    rwa [List.length_map, List.length_map] at this
def endsL (ts : List Tie) : List Int := ts.flatMap fun t => [t.1, t.2]
theorem endsL_mem {ts : List Tie} {a : Int} : a ∈ endsL ts ↔ isEnd ts a := by
  unfold endsL isEnd
  rw [List.mem_flatMap]
  constructor
  · rintro ⟨t, m, h⟩
    refine ⟨t, m, ?_⟩
    simp at h
    rcases h with h | h
    · exact .inl h.symm
    · exact .inr h.symm
  · rintro ⟨t, m, h⟩
    refine ⟨t, m, ?_⟩
    rcases h with h | h
    · simp [h]
    · simp [h]
theorem endsL_len : ∀ ts : List Tie, (endsL ts).length = 2 * ts.length
  | [] => rfl
  | t :: ts => by
    show ([t.1, t.2] ++ endsL ts).length = _
    rw [List.length_append, endsL_len ts, List.length_cons]
    simp
    omega
theorem hanging_at {ts : List Tie} (hl : ts.length ≤ 200) {w : D} (hw : okD w = true) {st : Int} (hs : isEnd ts st) (hst : wo w st = true) :
    ∃ met : List Int, m_hanging [nbD (nbOf ts), .int st, w] = some (.list (intsL (sortI met))) ∧ met.Nodup ∧ ∀ p, p ∈ met ↔ Rch (adj ts) (fun p => wo w p = true) st p :=
  hanging_is ts w hw st (endsL ts) (by rw [endsL_len]; omega) (fun x m => end_beside (endsL_mem.mp m)) (fun x _ p m => endsL_mem.mpr (beside_end m).2) (endsL_mem.mpr hs) hst (by omega)
theorem wo_int (p q : Int) : wo (.int p) q = true ↔ q ≠ p := by
  show (!PyData.eqv (.int q) (.int p)) = true ↔ _
  have e : PyData.eqv (.int q) (.int p) = decide (q = p) := by
    by_cases h : q = p
    · subst h; simp [PyData.eqv]
    · simp [PyData.eqv, h]
  rw [e]
  simp
theorem wo_none (q : Int) : wo .none q = true := rfl
theorem sortI_len (xs : List Int) : (sortI xs).length = xs.length := (List.mergeSort_perm _ _).length_eq
theorem rch_end {ts : List Tie} {S : Int → Prop} {a b : Int} (h : Rch (adj ts) S a b) (ha : isEnd ts a) : isEnd ts b := by
  induction h with
  | refl _ => exact ha
  | step _ e _ _ => exact (beside_end e).2
end GL
/-! The yard's checks. -/
namespace GL
open PySem L2 GR

theorem x_andV {a b : Sem} {env e1 e2 : LEnv} {x y : Bool} (ha : a env = some (.bool x, e1)) (hb : x = true → b e1 = some (.bool y, e2)) (h0 : x = false → e2 = e1) : fAndV a b env = some (.bool (x && y), e2) := by
  unfold fAndV
  rw [ha, Option.bind_some]
  cases x with
  | true => show ((b e1).bind fun q => some q) = _; rw [hb rfl]; rfl
  | false => rw [h0 rfl]; rfl
theorem isa_int (i : Int) : dIsa "int" (.int i) = some (.bool true) := by
  show (isaB "int" "int").map PyData.bool = _
  unfold isaB
  rw [show kitB "int" "int" = some true by decide +kernel]
  rfl
theorem isa_int_bool (i : Int) : dIsa "bool" (.int i) = some (.bool false) := by
  show (isaB "int" "bool").map PyData.bool = _
  unfold isaB
  rw [show kitB "int" "bool" = some false by decide +kernel]
  rfl
theorem v_is_number (i : Int) : m_is_number [.int i] = some (.bool true) := by
  refine x_runF (e := startE 1 [.int i]) ?_
  unfold b_is_number
  refine x_ret ?_
  have h1 : fOp1 (dIsa "int") (fPeek 0) (startE 1 [.int i]) = some (.bool true, startE 1 [.int i]) := x_op1 (x_peek rfl) (isa_int i)
  have h2 : fOp1 dNot (fOp1 (dIsa "bool") (fPeek 0)) (startE 1 [.int i]) = some (.bool true, startE 1 [.int i]) := x_op1 (x_op1 (x_peek rfl) (isa_int_bool i)) rfl
  exact x_andV h1 (fun _ => h2) (fun h => nomatch h)
theorem nn_none : m_is_number [.none] = some (.bool false) := by
  refine x_runF (e := startE 1 [.none]) ?_
  unfold b_is_number
  refine x_ret ?_
  have h1 : fOp1 (dIsa "int") (fPeek 0) (startE 1 [.none]) = some (.bool false, startE 1 [.none]) := x_op1 (x_peek rfl) (by
    show (kitB "NoneType" "int").map PyData.bool = _
    rw [show kitB "NoneType" "int" = some false by decide +kernel]
    rfl)
  exact x_andV (y := false) h1 (fun h => nomatch h) (fun _ => rfl)
theorem nn_bool (b : Bool) : m_is_number [.bool b] = some (.bool false) := by
  refine x_runF (e := startE 1 [.bool b]) ?_
  unfold b_is_number
  refine x_ret ?_
  have h1 : fOp1 (dIsa "int") (fPeek 0) (startE 1 [.bool b]) = some (.bool true, startE 1 [.bool b]) := x_op1 (x_peek rfl) (by
    show (kitB "bool" "int").map PyData.bool = _
    rw [show kitB "bool" "int" = some true by decide +kernel]
    rfl)
  have h3 : fOp1 (dIsa "bool") (fPeek 0) (startE 1 [.bool b]) = some (.bool true, startE 1 [.bool b]) := x_op1 (x_peek rfl) (by
    show (kitB "bool" "bool").map PyData.bool = _
    rw [show kitB "bool" "bool" = some true by decide +kernel]
    rfl)
  have h2 : fOp1 dNot (fOp1 (dIsa "bool") (fPeek 0)) (startE 1 [.bool b]) = some (.bool false, startE 1 [.bool b]) := x_op1 h3 rfl
  exact x_andV h1 (fun _ => h2) (fun h => nomatch h)
theorem x_chainLe {a b c : Sem} {env : LEnv} {i j k : Int} (ha : a env = some (.int i, env)) (hb : b env = some (.int j, env)) (hc : c env = some (.int k, env)) : fChain dLe dLe a b c env = some (.bool (decide (i ≤ j) && decide (j ≤ k)), env) := by
  unfold fChain
  rw [ha, Option.bind_some]
  dsimp only
  rw [hb, Option.bind_some]
  by_cases h : i ≤ j
  · simp [dLe, dInt2, h, hc]
  · simp [dLe, dInt2, h]
theorem v_is_from (i lo hi : Int) : m_is_from [.int i, .int lo, .int hi] = some (.bool (decide (lo ≤ i) && decide (i ≤ hi))) := by
  refine x_runF (e := startE 3 [.int i, .int lo, .int hi]) ?_
  unfold b_is_from
  refine x_ret ?_
  have h1 : fCall 1 m_is_number (fCons (fVar 0) fNil) (startE 3 [.int i, .int lo, .int hi]) = some (.bool true, startE 3 [.int i, .int lo, .int hi]) := x_call (x_cons (x_var rfl) rfl) rfl (v_is_number i)
  have h2 : fChain dLe dLe (fVar 1) (fVar 0) (fPeek 2) (startE 3 [.int i, .int lo, .int hi]) = some (.bool (decide (lo ≤ i) && decide (i ≤ hi)), startE 3 [.int i, .int lo, .int hi]) := x_chainLe (x_var rfl) (x_var rfl) (x_peek rfl)
  have := x_andV h1 (fun _ => h2) (fun h => nomatch h)
  exact this
theorem n_is_from {x : D} (h : m_is_number [x] = some (.bool false)) (a b : D) : m_is_from [x, a, b] = some (.bool false) := by
  refine x_runF (e := startE 3 [x, a, b]) ?_
  unfold b_is_from
  refine x_ret ?_
  have h1 : fCall 1 m_is_number (fCons (fVar 0) fNil) (startE 3 [x, a, b]) = some (.bool false, startE 3 [x, a, b]) := x_call (x_cons (x_var rfl) rfl) rfl h
  exact x_andV (y := false) h1 (fun h => nomatch h) (fun _ => rfl)
theorem v_is_place (i n : Int) : m_is_place [.int i, .int n] = some (.bool (decide (0 ≤ i) && decide (i < n))) := by
  have e : decide (i < n) = decide (i ≤ n - 1) := by
    by_cases h : i < n
    · rw [decide_eq_true h, decide_eq_true (by omega)]
    · rw [decide_eq_false h, decide_eq_false (by omega)]
  rw [e]
  refine x_runF (e := startE 2 [.int i, .int n]) ?_
  unfold b_is_place
  exact x_ret (x_call (x_cons (x_var rfl) (x_cons rfl (x_cons (x_op2 (x_var rfl) rfl rfl) rfl))) rfl (v_is_from i 0 (n - 1)))
theorem n_is_place {x : D} (h : m_is_number [x] = some (.bool false)) (n : Int) : m_is_place [x, .int n] = some (.bool false) := by
  refine x_runF (e := startE 2 [x, .int n]) ?_
  unfold b_is_place
  exact x_ret (x_call (x_cons (x_var rfl) (x_cons rfl (x_cons (x_op2 (x_var rfl) rfl rfl) rfl))) rfl (n_is_from h (.int 0) (.int (n - 1))))
theorem eqv_int (p q : Int) : PyData.eqv (.int p) (.int q) = decide (p = q) := by
  by_cases h : p = q
  · subst h; simp [PyData.eqv]
  · simp [PyData.eqv, h]
theorem d_eq_int (p q : Int) : dEq (.int p) (.int q) = some (.bool (decide (p = q))) := by
  unfold dEq
  rw [if_pos ⟨ok_int p, ok_int q⟩, eqv_int]
theorem isa_tuple (ds : List D) : dIsa "tuple" (.tuple ds) = some (.bool true) := by
  show (isaB "tuple" "tuple").map PyData.bool = _
  unfold isaB
  rw [show kitB "tuple" "tuple" = some true by decide +kernel]
  rfl
theorem v_is_tuple_of (ds : List D) (n : Int) : m_is_tuple_of [.tuple ds, .int n] = some (.bool (decide ((ds.length : Int) = n))) := by
  refine x_runF (e := startE 2 [.tuple ds, .int n]) ?_
  unfold b_is_tuple_of
  refine x_ret ?_
  have h1 : fOp1 (dIsa "tuple") (fPeek 0) (startE 2 [.tuple ds, .int n]) = some (.bool true, startE 2 [.tuple ds, .int n]) := x_op1 (x_peek rfl) (isa_tuple ds)
  have h2 : fOp2 dEq (fOp1 dLen (fPeek 0)) (fPeek 1) (startE 2 [.tuple ds, .int n]) = some (.bool (decide ((ds.length : Int) = n)), startE 2 [.tuple ds, .int n]) := x_op2 (x_op1 (x_peek rfl) rfl) (x_peek rfl) (d_eq_int _ _)
  have := x_andV h1 (fun _ => h2) (fun h => nomatch h)
  simpa using this
def tieOk (n : Int) (t : Tie) : Bool := (decide (0 ≤ t.1) && decide (t.1 < n)) && ((decide (0 ≤ t.2) && decide (t.2 < n)) && decide (t.1 < t.2))
theorem v_is_tie (t : Tie) (n : Int) : m_is_tie [tieD t, .int n] = some (.bool (tieOk n t)) := by
  have e0 : ∀ e : LEnv, e = [.val (tieD t), .val (.int n), .val (.int t.1), .val (.int t.2)] → fAndV (fCall 2 m_is_place (fCons (fVar 2) (fCons (fVar 1) fNil))) (fAndV (fCall 2 m_is_place (fCons (fVar 3) (fCons (fVar 1) fNil))) (fOp2 dLt (fVar 2) (fPeek 3))) e = some (.bool (tieOk n t), e) := by
    rintro e rfl
    exact x_andV (x_call (x_cons (x_var rfl) (x_cons (x_var rfl) rfl)) rfl (v_is_place t.1 n)) (fun _ => x_andV (x_call (x_cons (x_var rfl) (x_cons (x_var rfl) rfl)) rfl (v_is_place t.2 n)) (fun _ => x_op2 (x_var rfl) (x_peek rfl) rfl) (fun _ => rfl)) (fun _ => rfl)
  refine x_runF (e := [.val (tieD t), .val (.int n), .val (.int t.1), .val (.int t.2)]) ?_
  unfold b_is_tie
  have a1 : fCall 2 m_is_tuple_of (fCons (fVar 0) (fCons (fC (.int 2)) fNil)) (startE 4 [tieD t, .int n]) = some (.bool true, startE 4 [tieD t, .int n]) := x_call (x_cons (x_var rfl) (x_cons rfl rfl)) rfl (v_is_tuple_of [.int t.1, .int t.2] 2)
  have a2 : fNot (fTest (fCall 2 m_is_tuple_of (fCons (fVar 0) (fCons (fC (.int 2)) fNil)))) (startE 4 [tieD t, .int n]) = some (false, startE 4 [tieD t, .int n]) := by
    unfold fNot
    rw [x_test a1]
    rfl
  have a3 : sIf (fNot (fTest (fCall 2 m_is_tuple_of (fCons (fVar 0) (fCons (fC (.int 2)) fNil))))) (sRet (fC (.bool false))) sNext (startE 4 [tieD t, .int n]) = some (.nx (startE 4 [tieD t, .int n])) := by
    rw [x_if a2]
    rfl
  rw [x_seq a3]
  have a4 : sTarget (fVar 0) (tgTup 2 (tgCons (tgName 2) (tgCons (tgName 3) tgNil))) (startE 4 [tieD t, .int n]) = some (.nx [.val (tieD t), .val (.int n), .val (.int t.1), .val (.int t.2)]) := rfl
  rw [x_seq a4]
  exact x_ret (e0 _ rfl)
end GL
/-! Tools: comprehensions and loops with plain bodies. -/
namespace GL
open PySem L2

theorem x_asg' {i : Nat} {f : Sem} {env e1 e2 : LEnv} {d : D} (h : f env = some (d, e1)) (hr : noRow e1 i = true) (he : e1.set i (.val d) = e2) : sAsg i f env = some (.nx e2) := he ▸ x_asg h hr
theorem x_asgO {i : Nat} {f : SemL} {env e1 e2 : LEnv} {ds : List D} (h : f env = some (ds, e1)) (hr : noRow e1 i = true) (he : e1.set i (.ol ds) = e2) : sAsgO i f env = some (.nx e2) := by
  unfold sAsgO; rw [h, Option.bind_some]; dsimp only; rw [if_pos hr, he]
theorem x_asgW {i : Nat} {f : LEnv → Option (Slot × LEnv)} {env e1 e2 : LEnv} {s : Slot} (h : f env = some (s, e1)) (hr : noRow e1 i = true) (he : e1.set i s = e2) : sAsgW i f env = some (.nx e2) := by
  unfold sAsgW; rw [h, Option.bind_some]; dsimp only; rw [if_pos hr, he]
theorem x_list {f : SemL} {env e1 : LEnv} {ds : List D} (h : f env = some (ds, e1)) : asList f env = some (.list ds, e1) := by unfold asList; rw [h]; rfl
theorem x_lst {r : SemL} {env e1 : LEnv} {ds : List D} (h : r env = some (ds, e1)) (hl : ds.length ≤ 1000000) : fLst r env = some (.list ds, e1) := by
  unfold fLst; rw [h, Option.bind_some]; dsimp only; rw [if_pos hl]
theorem x_tup {r : SemL} {env e1 : LEnv} {ds : List D} (h : r env = some (ds, e1)) (hl : ds.length ≤ 1000000) : fTup r env = some (.tuple ds, e1) := by
  unfold fTup; rw [h, Option.bind_some]; dsimp only; rw [if_pos hl]
theorem x_items {f : Sem} {env e1 : LEnv} {d : D} {ds : List D} (h : f env = some (d, e1)) (hd : itemsD d = some ds) : fItems f env = some (ds, e1) := by
  unfold fItems; rw [h, Option.bind_some]; dsimp only; rw [hd]; rfl
theorem x_range1 {f : Sem} {env e1 : LEnv} {n : Int} (h : f env = some (.int n, e1)) (h1 : -1000000 ≤ n) (h2 : n ≤ 1000000) : fRange1 f env = some (rangeD 0 n.toNat, e1) := by
  unfold fRange1; rw [h, Option.bind_some]; dsimp only; rw [if_pos ⟨h1, h2⟩]
theorem x_range2 {f g : Sem} {env e1 e2 : LEnv} {m n : Int} (h : f env = some (.int m, e1)) (g1 : g e1 = some (.int n, e2)) (h1 : -1000000 ≤ m) (h2 : m ≤ 1000000) (h3 : -1000000 ≤ n) (h4 : n ≤ 1000000) : fRange2 f g env = some (rangeD m (n - m).toNat, e2) := by
  unfold fRange2; rw [h, Option.bind_some]; dsimp only; rw [g1, Option.bind_some]; dsimp only; rw [if_pos ⟨h1, h2, h3, h4⟩]
theorem x_not {t : SemB} {env e1 : LEnv} {b : Bool} (h : t env = some (b, e1)) : fNot t env = some (!b, e1) := by unfold fNot; rw [h]; rfl
theorem x_and {t u : SemB} {env : LEnv} {b c : Bool} (h : t env = some (b, env)) (g : b = true → u env = some (c, env)) : fAnd t u env = some (b && c, env) := by
  unfold fAnd
  rw [h, Option.bind_some]
  cases b with
  | true => rw [if_pos rfl, g rfl]; rfl
  | false => rfl
theorem x_or {t u : SemB} {env : LEnv} {b c : Bool} (h : t env = some (b, env)) (g : b = false → u env = some (c, env)) : fOr t u env = some (b || c, env) := by
  unfold fOr
  rw [h, Option.bind_some]
  cases b with
  | true => rfl
  | false => rw [if_neg Bool.false_ne_true, g rfl]; rfl
theorem x_append {i : Nat} {f : Sem} {env e1 e2 : LEnv} {d : D} {ds0 ds : List D} (h0 : env[i]? = some (.ol ds0)) (h : f env = some (d, e1)) (h1 : e1[i]? = some (.ol ds)) (hl : ds.length < 1000000) (he : e1.set i (.ol (ds ++ [d])) = e2) : sAppend i f env = some (.none, e2) := by
  unfold sAppend; rw [h0]; dsimp only; rw [h, Option.bind_some]; dsimp only; rw [h1]; dsimp only; rw [if_pos hl, he]
theorem x_extend {i : Nat} {f : Sem} {env e1 e2 : LEnv} {ds0 ds es : List D} (h0 : env[i]? = some (.ol ds0)) (h : f env = some (.list es, e1)) (h1 : e1[i]? = some (.ol ds)) (hl : ds.length + es.length ≤ 1000000) (he : e1.set i (.ol (ds ++ es)) = e2) : sExtend i f env = some (.none, e2) := by
  unfold sExtend; rw [h0]; dsimp only; rw [h, Option.bind_some]; dsimp only; rw [h1]; dsimp only; rw [if_pos hl, he]
theorem x_sForI {fi : SemL} {g : SemG} {b : SemS} {env e1 : LEnv} {ds : List D} {r : Fl} (h : fi env = some (ds, e1)) (h2 : sForL g b ds e1 = some r) : sFor fi g b env = some r := by
  unfold sFor; rw [h, Option.bind_some]; exact h2
theorem x_tg {i : Nat} {d : D} {env e2 : LEnv} (hr : noRow env i = true) (he : env.set i (.val d) = e2) : tgName i d env = some e2 := by
  unfold tgName; rw [if_pos hr, he]
theorem notOwn1 {env : LEnv} {i : Nat} (h : notOwn env [i] = true) : ∃ s, env[i]? = some s ∧ owns s = false := by
  unfold notOwn at h
  simp only [List.all_cons, List.all_nil, Bool.and_true] at h
  split at h
  · rename_i s hs
    exact ⟨s, hs, by simpa using h⟩
  · cases h
theorem lt_of_get {env : LEnv} {i : Nat} {s : Slot} (h : env[i]? = some s) : i < env.length := (List.getElem?_eq_some_iff.mp h).1
theorem noRow_un {env : LEnv} {i : Nat} (h : i < env.length) : noRow (env.set i .un) i = true := by
  unfold noRow
  rw [List.getElem?_set_self h]
theorem noRow_val {env : LEnv} {i : Nat} {d : D} (h : i < env.length) : noRow (env.set i (.val d)) i = true := by
  unfold noRow
  rw [List.getElem?_set_self h]
theorem notOwn_val {env : LEnv} {i : Nat} {d : D} (h : i < env.length) : notOwn (env.set i (.val d)) [i] = true := by
  unfold notOwn
  simp only [List.all_cons, List.all_nil, Bool.and_true]
  rw [List.getElem?_set_self h]
  rfl
theorem lc1 {fi : SemL} {t : SemB} {e : Sem} {i : Nat} {env env1 : LEnv} {ds : List D} (p : D → Bool) (f : D → D) (hi : fi env = some (ds, env1)) (hn : notOwn env1 [i] = true) (hl : ds.length ≤ 1000000)
    (ht : ∀ d ∈ ds, t (env1.set i (.val d)) = some (p d, env1.set i (.val d))) (he : ∀ d ∈ ds, p d = true → e (env1.set i (.val d)) = some (f d, env1.set i (.val d))) :
    fLc fi (tgName i) t e [i] env = some ((ds.filter p).map f, env1) := by
  obtain ⟨s, hs, _⟩ := notOwn1 hn
  have li := lt_of_get hs
  have so : ∀ d, SameOff env1 (env1.set i (.val d)) [i] := fun d => ⟨by show (env1.set i (.val d)).set i .un = env1.set i .un; rw [List.set_set], notOwn_val li⟩
  obtain ⟨en, h1, h2⟩ := x_lc (g := tgName i) (t := t) (e := e) p f hi hn hl fun d hd => ⟨env1.set i (.val d), env1.set i (.val d), by
    show (if noRow (env1.set i .un) i = true then some ((env1.set i .un).set i (.val d)) else none) = _
    rw [if_pos (noRow_un li), List.set_set], ht d hd, fun hp => ⟨_, he d hd hp, so d⟩, fun _ => so d⟩
  rw [h1, putBack_same h2 hn]
theorem notOwn2 {env : LEnv} {i j : Nat} (h : notOwn env [i, j] = true) : notOwn env [i] = true ∧ notOwn env [j] = true := by
  unfold notOwn at h ⊢
  simp only [List.all_cons, List.all_nil, Bool.and_true] at h ⊢
  rwa [Bool.and_eq_true] at h
/-- the targets a, b over pairs -/
theorem lc2 {fi : SemL} {t : SemB} {e : Sem} {i j : Nat} (hij : i ≠ j) {env env1 : LEnv} {ps : List (D × D)} (p : D × D → Bool) (f : D × D → D) (hi : fi env = some (ps.map fun q => .tuple [q.1, q.2], env1)) (hn : notOwn env1 [i, j] = true) (hl : ps.length ≤ 1000000)
    (ht : ∀ q ∈ ps, t ((env1.set i (.val q.1)).set j (.val q.2)) = some (p q, (env1.set i (.val q.1)).set j (.val q.2))) (he : ∀ q ∈ ps, p q = true → e ((env1.set i (.val q.1)).set j (.val q.2)) = some (f q, (env1.set i (.val q.1)).set j (.val q.2))) :
    fLc fi (tgTup 2 (tgCons (tgName i) (tgCons (tgName j) tgNil))) t e [i, j] env = some ((ps.filter p).map f, env1) := by
  obtain ⟨ni, nj⟩ := notOwn2 hn
  obtain ⟨s, hs, _⟩ := notOwn1 ni
  obtain ⟨s', hs', _⟩ := notOwn1 nj
  have li := lt_of_get hs
  have lj := lt_of_get hs'
  let mk : D × D → D := fun q => .tuple [q.1, q.2]
  let un : D → D × D := fun d => match d with
    | .tuple [a, b] => (a, b)
    | _ => (.none, .none)
  have um : ∀ q, un (mk q) = q := fun q => rfl
  have so : ∀ q : D × D, SameOff env1 ((env1.set i (.val q.1)).set j (.val q.2)) [i, j] := fun q => ⟨by
      show (((env1.set i (.val q.1)).set j (.val q.2)).set j .un).set i .un = (env1.set j .un).set i .un
      rw [List.set_set, List.set_comm _ _ hij, List.set_set], by
      unfold notOwn
      simp only [List.all_cons, List.all_nil, Bool.and_true]
      rw [List.getElem?_set_self (by rw [List.length_set]; exact lj), List.getElem?_set_ne (Ne.symm hij), List.getElem?_set_self li]
      rfl⟩
  obtain ⟨en, h1, h2⟩ := x_lc (g := tgTup 2 (tgCons (tgName i) (tgCons (tgName j) tgNil))) (t := t) (e := e) (fun d => p (un d)) (fun d => f (un d)) hi hn (by rw [List.length_map]; exact hl) fun d hd => by
    obtain ⟨q, hq, rfl⟩ := List.mem_map.mp hd
    refine ⟨(env1.set i (.val q.1)).set j (.val q.2), (env1.set i (.val q.1)).set j (.val q.2), ?_, ht q hq, fun hp => ⟨_, he q hq hp, so q⟩, fun _ => so q⟩
    show (tgName i q.1 ((env1.set j .un).set i .un)).bind (fun e => (tgName j q.2 e).bind fun e => some e) = _
    unfold tgName
    rw [if_pos (noRow_un (by rw [List.length_set]; exact li)), Option.bind_some, List.set_set]
    have e1 : (env1.set j Slot.un).set i (.val q.1) = (env1.set i (.val q.1)).set j .un := List.set_comm _ _ (Ne.symm hij)
    rw [e1, if_pos (noRow_un (by rw [List.length_set]; exact lj)), Option.bind_some, List.set_set]
  rw [h1, putBack_same h2 hn, List.filter_map, List.map_map]
  rfl
/-- a loop that goes on while p, and returns R where p fails -/
theorem x_forR {g : SemG} {b : SemS} (I : LEnv → Prop) (p : D → Bool) (R : D) : ∀ (ds : List D) (env : LEnv), I env →
    (∀ d ∈ ds, ∀ e, I e → ∃ e1, g d e = some e1 ∧ (p d = true → ∃ e2, b e1 = some (.nx e2) ∧ I e2) ∧ (p d = false → ∃ e2, b e1 = some (.rt R e2))) →
    (ds.all p = true → ∃ e', sForL g b ds env = some (.nx e') ∧ I e') ∧ (ds.all p = false → ∃ e', sForL g b ds env = some (.rt R e'))
  | [], env, h, _ => ⟨fun _ => ⟨env, rfl, h⟩, fun z => absurd z (by simp)⟩
  | d :: ds, env, h, st => by
    obtain ⟨e1, h1, h2, h3⟩ := st d List.mem_cons_self env h
    unfold sForL
    rw [h1, Option.bind_some, List.all_cons]
    cases hp : p d with
    | true =>
      obtain ⟨e2, h4, h5⟩ := h2 hp
      rw [h4, Option.bind_some, Bool.true_and]
      exact x_forR I p R ds e2 h5 fun d m => st d (List.mem_cons_of_mem _ m)
    | false =>
      obtain ⟨e2, h4⟩ := h3 hp
      rw [h4, Option.bind_some]
      exact ⟨fun z => absurd z (by simp), fun _ => ⟨e2, rfl⟩⟩
/-- a loop over known items: the invariant knows what is done and what is left -/
theorem x_forL {g : SemG} {b : SemS} (I : List D → LEnv → Prop) : ∀ (ds : List D) (done : List D) (env : LEnv), I done env → (∀ a d r e, done ++ ds = a ++ d :: r → done.length ≤ a.length → I a e → ∃ e1 e2, g d e = some e1 ∧ (b e1 = some (.nx e2) ∨ b e1 = some (.ct e2)) ∧ I (a ++ [d]) e2) → ∃ e', sForL g b ds env = some (.nx e') ∧ I (done ++ ds) e'
  | [], done, env, h, _ => ⟨env, rfl, by simpa using h⟩
  | d :: ds, done, env, h, st => by
    obtain ⟨e1, e2, h1, h2, h3⟩ := st done d ds env rfl (Nat.le_refl _) h
    obtain ⟨e', h4, h5⟩ := x_forL I ds (done ++ [d]) e2 h3 (fun a d' r e hd hl hi => st a d' r e (by rw [← hd, List.append_assoc]; rfl) (by rw [List.length_append] at hl; omega) hi)
    refine ⟨e', ?_, by rw [show done ++ d :: ds = done ++ [d] ++ ds by simp]; exact h5⟩
    unfold sForL
    rw [h1, Option.bind_some]
    rcases h2 with h2 | h2
    · rw [h2, Option.bind_some]; exact h4
    · rw [h2, Option.bind_some]; exact h4
/-- the same over f of things -/
theorem x_forM {α : Type} (f : α → D) {g : SemG} {b : SemS} (I : List α → LEnv → Prop) (xs : List α) (env : LEnv) (h : I [] env) (st : ∀ a x r e, xs = a ++ x :: r → I a e → ∃ e1 e2, g (f x) e = some e1 ∧ (b e1 = some (.nx e2) ∨ b e1 = some (.ct e2)) ∧ I (a ++ [x]) e2) : ∃ e', sForL g b (xs.map f) env = some (.nx e') ∧ I xs e' := by
  have main : ∀ (ys done : List α) (env : LEnv), xs = done ++ ys → I done env → ∃ e', sForL g b (ys.map f) env = some (.nx e') ∧ I xs e' := by
    intro ys
    induction ys with
    | nil => intro done env e h; exact ⟨env, rfl, by rw [e, List.append_nil]; exact h⟩
    | cons y ys ih =>
      intro done env e h
      obtain ⟨e1, e2, h1, h2, h3⟩ := st done y ys env e h
      obtain ⟨e', h4, h5⟩ := ih (done ++ [y]) e2 (by rw [e]; simp) h3
      refine ⟨e', ?_, h5⟩
      rw [List.map_cons]
      unfold sForL
      rw [h1, Option.bind_some]
      rcases h2 with h2 | h2
      · rw [h2, Option.bind_some]; exact h4
      · rw [h2, Option.bind_some]; exact h4
  exact main xs [] env rfl h
/-- a comprehension whose turns may change the frame (the draws' row): over f of things -/
theorem x_lcI {α : Type} (F : α → D) {fi : SemL} {g : SemG} {e : Sem} {vs : List Nat} {env env1 : LEnv} {xs : List α} (I : List α → List D → LEnv → Prop) (hi : fi env = some (xs.map F, env1)) (h0 : I [] [] env1)
    (hn : ∀ a ys en, I a ys en → notOwn en vs = true ∧ ys.length = a.length) (hl : xs.length ≤ 1000000)
    (st : ∀ a x r ys en, xs = a ++ x :: r → I a ys en → ∃ e1 e2 d, g (F x) (wipeE en vs) = some e1 ∧ e e1 = some (d, e2) ∧ I (a ++ [x]) (ys ++ [d]) e2) :
    ∃ ys en, fLc fi g fYes e vs env = some (ys, putBack env1 en vs) ∧ I xs ys en := by
  have main : ∀ (r a : List α) (ys : List D) (en : LEnv), xs = a ++ r → I a ys en → ∃ zs en', cLoop g fYes e vs (r.map F) ys en = some (zs, en') ∧ I xs zs en' := by
    intro r
    induction r with
    | nil => intro a ys en h i; exact ⟨ys, en, rfl, by rw [h, List.append_nil]; exact i⟩
    | cons x r ih =>
      intro a ys en h i
      obtain ⟨e1, e2, d, h1, h2, h3⟩ := st a x r ys en h i
      obtain ⟨zs, en', h4, h5⟩ := ih (a ++ [x]) (ys ++ [d]) e2 (by rw [h]; simp) h3
      refine ⟨zs, en', ?_, h5⟩
      have hlen : ys.length < 1000000 := by
        have := (hn a ys en i).2
        have : xs.length = a.length + (r.length + 1) := by rw [h]; simp
        omega
      rw [List.map_cons]
      unfold cLoop
      rw [if_pos (hn a ys en i).1, h1, Option.bind_some]
      show (if (true : Bool) = true then (e e1).bind fun q => if ys.length < 1000000 then cLoop g fYes e vs (r.map F) (ys ++ [q.1]) q.2 else none else cLoop g fYes e vs (r.map F) ys e1) = _
      rw [if_pos rfl, h2, Option.bind_some]
      dsimp only
      rw [if_pos hlen]
      exact h4
  obtain ⟨zs, en', h1, h2⟩ := main xs [] [] env1 rfl h0
  refine ⟨zs, en', ?_, h2⟩
  unfold fLc
  rw [hi, Option.bind_some]
  dsimp only
  rw [if_pos (hn _ _ _ h0).1, h1, Option.bind_some]
  dsimp only
  rw [if_pos (hn _ _ _ h2).1]
end GL
/-! The draws. -/
namespace GL
open PySem L2

def RowOk (st : Row) : Prop := 0 ≤ st.c
theorem mod_bd (a k : Int) (h : 0 < k) : 0 ≤ a % k ∧ a % k < k := ⟨Int.emod_nonneg _ (by omega), Int.emod_lt_of_pos _ h⟩
theorem x_row {i j : Nat} {env : LEnv} {st : Row} {x : Int} (h : rowAt env i = some st) (g : rowGet st j = some x) : fRow i j env = some (.int x, env) := by
  unfold fRow; rw [h, Option.bind_some, g]; rfl
theorem x_sRow {i j : Nat} {f : Sem} {env e1 e2 : LEnv} {st st' : Row} {x : Int} (hf : f env = some (.int x, e1)) (h : rowAt e1 i = some st) (g : rowPut st j x = some st') (he : e1.set i (.row st') = e2) : sRow i j f env = some (.nx e2) := by
  unfold sRow; rw [hf, Option.bind_some]; dsimp only; rw [h, Option.bind_some, g, ← he]; rfl
abbrev tkE (k : Int) (st : Row) (s t : Slot) : LEnv := [.row st, .val (.int k), s, t]
theorem d_mod {a k : Int} (h : 0 < k) : dMod (.int a) (.int k) = some (.int (a % k)) := by
  show (if decide (0 < k) = true then some (PyData.int (a % k)) else none) = _
  rw [if_pos (decide_eq_true h)]
theorem d_div {a k : Int} (h : 0 < k) (h2 : k < 1073741824) : dFdiv (.int a) (.int k) = some (.int (a / k)) := by
  show (if decide (0 < k ∧ k < 1073741824) = true then some (PyData.int (a / k)) else none) = _
  rw [if_pos (decide_eq_true ⟨h, h2⟩)]
theorem d_mul {a : Int} : dMul (.int a) (.int 48271) = some (.int (a * 48271)) := by
  show (if (decide (-(2 ^ 64) < a ∧ a < 2 ^ 64) || decide (-(2 ^ 64 : Int) < 48271 ∧ (48271 : Int) < 2 ^ 64)) = true then some (PyData.int (a * 48271)) else none) = _
  rw [if_pos (by simp)]
theorem d_pow : dPow (.int 10) (.int 18) = some (.int 1000000000000000000) := by
  show (if decide ((0 : Int) ≤ 18 ∧ (18 : Int) ≤ 1000000 ∧ (10 : Int).natAbs < 2 ^ 64) = true then some (PyData.int (10 ^ (18 : Int).toNat)) else none) = _
  rw [if_pos (by decide)]
  rfl
theorem d_ge (i j : Int) : dGe (.int i) (.int j) = some (.bool (decide (j ≤ i))) := rfl
theorem atI_nat {α : Type} (xs : List α) (i : Nat) (h : i < xs.length) : L2.atI xs (i : Int) = xs[i]? := by
  unfold L2.atI L2.ixN
  have h0 : (0 : Int) ≤ (i : Int) := by omega
  have h1 : (i : Int) < (xs.length : Int) := by omega
  simp [h0, h1]
theorem taken_is (st : Row) (k : Int) (hk : 0 < k) (hk2 : k < 1073741824) (ok : RowOk st) : ∃ x st', m__law_taken st [.int k] = some (.int x, st') ∧ 0 ≤ x ∧ x < k ∧ RowOk st' := by
  obtain ⟨ns, c, kk, r⟩ := st
  have ok' : 0 ≤ c := ok
  have run : ∀ {x : Int} {st' : Row} {s t : Slot}, b__law_taken (tkE k ⟨ns, c, kk, r⟩ .un .un) = some (.rt (.int x) (tkE k st' s t)) → m__law_taken ⟨ns, c, kk, r⟩ [.int k] = some (.int x, st') := by
    intro x st' s t h
    show (b__law_taken (tkE k ⟨ns, c, kk, r⟩ .un .un)).bind _ = _
    rw [h]
    rfl
  by_cases hr : 0 < r
  · obtain ⟨b1, b2⟩ := mod_bd r k hk
    refine ⟨r % k, ⟨ns, c, kk, r / k⟩, run (s := .val (.int (r % k))) (t := .un) ?_, b1, b2, ok'⟩
    unfold b__law_taken
    have t1 : fTest (fOp2 dGt (fRow 0 3) (fC (.int 0))) (tkE k ⟨ns, c, kk, r⟩ .un .un) = some (true, tkE k ⟨ns, c, kk, r⟩ .un .un) := x_test (x_op2 (x_row rfl rfl) rfl (by
      show some (PyData.bool (decide (0 < r))) = _
      rw [decide_eq_true hr]))
    have t2 : sAsg 2 (fOp2 dMod (fOp1 dInt (fRow 0 3)) (fPeek 1)) (tkE k ⟨ns, c, kk, r⟩ .un .un) = some (.nx (tkE k ⟨ns, c, kk, r⟩ (.val (.int (r % k))) .un)) := x_asg' (x_op2 (x_op1 (x_row rfl rfl) rfl) (x_peek rfl) (d_mod hk)) rfl rfl
    have t3 : sRow 0 3 (fOp2 dFdiv (fRow 0 3) (fPeek 1)) (tkE k ⟨ns, c, kk, r⟩ (.val (.int (r % k))) .un) = some (.nx (tkE k ⟨ns, c, kk, r / k⟩ (.val (.int (r % k))) .un)) := x_sRow (x_op2 (x_row rfl rfl) (x_peek rfl) (d_div hk hk2)) rfl rfl rfl
    refine x_seqR ?_
    rw [x_if t1, if_pos rfl, x_seq t2, x_seq t3]
    exact x_ret (x_var rfl)
  · have t1 : fTest (fOp2 dGt (fRow 0 3) (fC (.int 0))) (tkE k ⟨ns, c, kk, r⟩ .un .un) = some (false, tkE k ⟨ns, c, kk, r⟩ .un .un) := x_test (x_op2 (x_row rfl rfl) rfl (by
      show some (PyData.bool (decide (0 < r))) = _
      rw [decide_eq_false hr]))
    have t2 : sRow 0 1 (fOp2 dAdd (fRow 0 1) (fC (.int 1))) (tkE k ⟨ns, c, kk, r⟩ .un .un) = some (.nx (tkE k ⟨ns, c + 1, kk, r⟩ .un .un)) := x_sRow (x_op2 (x_row rfl rfl) rfl rfl) rfl rfl rfl
    by_cases hc : (ns.length : Int) < c + 1
    · have t3 : fTest (fOp2 dGt (fRow 0 1) (fRowLen 0)) (tkE k ⟨ns, c + 1, kk, r⟩ .un .un) = some (true, tkE k ⟨ns, c + 1, kk, r⟩ .un .un) := x_test (x_op2 (x_row rfl rfl) rfl (by
        show some (PyData.bool (decide ((ns.length : Int) < c + 1))) = _
        rw [decide_eq_true hc]))
      obtain ⟨b1, b2⟩ := mod_bd ((kk * 48271 + 11) % 2147483647 / 7) k hk
      refine ⟨(kk * 48271 + 11) % 2147483647 / 7 % k, ⟨ns, c + 1, (kk * 48271 + 11) % 2147483647, r⟩, run (s := .un) (t := .un) ?_, b1, b2, show 0 ≤ c + 1 by omega⟩
      unfold b__law_taken
      rw [x_seq (e1 := tkE k ⟨ns, c, kk, r⟩ .un .un) (by rw [x_if t1]; rfl), x_seq t2]
      refine x_seqR ?_
      rw [x_if t3, if_pos rfl]
      have t4 : sRow 0 2 (fOp2 dMod (fOp1 dInt (fOp2 dAdd (fOp2 dMul (fRow 0 2) (fC (.int 48271))) (fC (.int 11)))) (fC (.int 2147483647))) (tkE k ⟨ns, c + 1, kk, r⟩ .un .un) = some (.nx (tkE k ⟨ns, c + 1, (kk * 48271 + 11) % 2147483647, r⟩ .un .un)) := x_sRow (x_op2 (x_op1 (x_op2 (x_op2 (x_row rfl rfl) rfl d_mul) rfl rfl) rfl) rfl (d_mod (by decide))) rfl rfl rfl
      rw [x_seq t4]
      exact x_ret (x_op2 (x_op1 (x_op2 (x_row rfl rfl) rfl (d_div (by decide) (by decide))) rfl) (x_peek rfl) (d_mod hk))
    · have t3 : fTest (fOp2 dGt (fRow 0 1) (fRowLen 0)) (tkE k ⟨ns, c + 1, kk, r⟩ .un .un) = some (false, tkE k ⟨ns, c + 1, kk, r⟩ .un .un) := x_test (x_op2 (x_row rfl rfl) rfl (by
        show some (PyData.bool (decide ((ns.length : Int) < c + 1))) = _
        rw [decide_eq_false hc]))
      obtain ⟨n, rfl⟩ : ∃ n : Nat, c = (n : Int) := ⟨c.toNat, by omega⟩
      have hn : n < ns.length := by omega
      obtain ⟨v, hv⟩ : ∃ v, ns[n]? = some v := ⟨_, List.getElem?_eq_getElem hn⟩
      obtain ⟨b1, b2⟩ := mod_bd v k hk
      have t4 : sAsg 3 (fRowCell 0 (fOp2 dSub (fRow 0 1) (fC (.int 1)))) (tkE k ⟨ns, (n : Int) + 1, kk, r⟩ .un .un) = some (.nx (tkE k ⟨ns, (n : Int) + 1, kk, r⟩ .un (.val (.int v)))) := by
        refine x_asg' (e1 := tkE k ⟨ns, (n : Int) + 1, kk, r⟩ .un .un) (d := .int v) ?_ rfl rfl
        show (some (⟨ns, (n : Int) + 1, kk, r⟩ : Row)).bind _ = _
        rw [Option.bind_some, x_op2 (g := dSub) (x_row rfl rfl) rfl rfl, Option.bind_some]
        show (L2.atI ns ((n : Int) + 1 - 1)).map _ = _
        rw [show (n : Int) + 1 - 1 = (n : Int) by omega, atI_nat ns n hn, hv]
        rfl
      have t5 : sRow 0 2 (fOp2 dMod (fOp1 dInt (fOp2 dAdd (fOp2 dAdd (fOp2 dMul (fRow 0 2) (fC (.int 48271))) (fPeek 3)) (fC (.int 11)))) (fC (.int 2147483647))) (tkE k ⟨ns, (n : Int) + 1, kk, r⟩ .un (.val (.int v))) = some (.nx (tkE k ⟨ns, (n : Int) + 1, (kk * 48271 + v + 11) % 2147483647, r⟩ .un (.val (.int v)))) := x_sRow (x_op2 (x_op1 (x_op2 (x_op2 (x_op2 (x_row rfl rfl) rfl d_mul) (x_peek rfl) rfl) rfl rfl) rfl) rfl (d_mod (by decide))) rfl rfl rfl
      have t6 : fTest (fOp2 dGe (fVar 3) (fOp2 dPow (fC (.int 10)) (fC (.int 18)))) (tkE k ⟨ns, (n : Int) + 1, (kk * 48271 + v + 11) % 2147483647, r⟩ .un (.val (.int v))) = some (decide ((1000000000000000000 : Int) ≤ v), tkE k ⟨ns, (n : Int) + 1, (kk * 48271 + v + 11) % 2147483647, r⟩ .un (.val (.int v))) := x_test (x_op2 (x_var rfl) (x_op2 rfl rfl d_pow) (d_ge _ _))
      have tail : ∀ r', (sSeq (sIf (fTest (fOp2 dGe (fVar 3) (fOp2 dPow (fC (.int 10)) (fC (.int 18))))) (sRow 0 3 (fOp2 dFdiv (fVar 3) (fPeek 1))) sNext) (sRet (fOp2 dMod (fOp1 dInt (fPeek 3)) (fPeek 1)))) (tkE k ⟨ns, (n : Int) + 1, (kk * 48271 + v + 11) % 2147483647, r⟩ .un (.val (.int v))) = some (.rt (.int (v % k)) (tkE k ⟨ns, (n : Int) + 1, (kk * 48271 + v + 11) % 2147483647, r'⟩ .un (.val (.int v)))) →
          m__law_taken ⟨ns, n, kk, r⟩ [.int k] = some (.int (v % k), ⟨ns, (n : Int) + 1, (kk * 48271 + v + 11) % 2147483647, r'⟩) := by
        intro r' h
        refine run (s := .un) (t := .val (.int v)) ?_
        unfold b__law_taken
        rw [x_seq (e1 := tkE k ⟨ns, n, kk, r⟩ .un .un) (by rw [x_if t1]; rfl), x_seq t2, x_seq (e1 := tkE k ⟨ns, (n : Int) + 1, kk, r⟩ .un .un) (by rw [x_if t3]; rfl), x_seq t4, x_seq t5]
        exact h
      have last : ∀ r', sRet (fOp2 dMod (fOp1 dInt (fPeek 3)) (fPeek 1)) (tkE k ⟨ns, (n : Int) + 1, (kk * 48271 + v + 11) % 2147483647, r'⟩ .un (.val (.int v))) = some (.rt (.int (v % k)) (tkE k ⟨ns, (n : Int) + 1, (kk * 48271 + v + 11) % 2147483647, r'⟩ .un (.val (.int v)))) := fun r' => x_ret (x_op2 (x_op1 (x_peek rfl) rfl) (x_peek rfl) (d_mod hk))
      by_cases hv2 : (1000000000000000000 : Int) ≤ v
      · refine ⟨v % k, _, tail (v / k) ?_, b1, b2, show (0 : Int) ≤ (n : Int) + 1 by omega⟩
        rw [x_seq (e1 := tkE k ⟨ns, (n : Int) + 1, (kk * 48271 + v + 11) % 2147483647, v / k⟩ .un (.val (.int v))) (by rw [x_if t6, decide_eq_true hv2, if_pos rfl]; exact x_sRow (x_op2 (x_var rfl) (x_peek rfl) (d_div hk hk2)) rfl rfl rfl)]
        exact last _
      · refine ⟨v % k, _, tail r ?_, b1, b2, show (0 : Int) ≤ (n : Int) + 1 by omega⟩
        rw [x_seq (e1 := tkE k ⟨ns, (n : Int) + 1, (kk * 48271 + v + 11) % 2147483647, r⟩ .un (.val (.int v))) (by rw [x_if t6, decide_eq_false hv2]; rfl)]
        exact last _
/-- a draw in a frame whose row stands at i -/
theorem x_taken {i : Nat} {env e1 : LEnv} {st : Row} {a : Sem} {k : Int} (h0 : ∃ s, env[i]? = some (.row s)) (ha : a env = some (.int k, e1)) (h1 : e1[i]? = some (.row st)) (hk : 0 < k) (hk2 : k < 1073741824) (ok : RowOk st) :
    ∃ x st', fCallR i 1 m__law_taken (fCons a fNil) env = some (.int x, e1.set i (.row st')) ∧ 0 ≤ x ∧ x < k ∧ RowOk st' := by
  obtain ⟨x, st', h2, h3, h4, h5⟩ := taken_is st k hk hk2 ok
  refine ⟨x, st', ?_, h3, h4, h5⟩
  obtain ⟨s, hs⟩ := h0
  unfold fCallR
  rw [hs]
  dsimp only
  rw [x_cons ha rfl, Option.bind_some]
  dsimp only
  show (match e1[i]? with
    | some (.row st) => Option.map (fun p : D × Row => (p.1, List.set e1 i (Slot.row p.2))) (m__law_taken st [.int k])
    | _ => none) = _
  rw [h1]
  dsimp only
  rw [h2]
  rfl
/-- one of some things is drawn -/
theorem pick_is (st : Row) (ok : RowOk st) (d : D) (ds : List D) (hd : itemsD d = some ds) (hne : ds ≠ []) (hl : ds.length ≤ 1000000) : ∃ x st', m__law_pick st [d] = some (x, st') ∧ x ∈ ds ∧ RowOk st' := by
  have pos : 0 < ds.length := List.length_pos_iff.mpr hne
  have len : dLen d = some (.int ds.length) := by
    cases d with
    | list xs => cases hd; rfl
    | tuple xs => cases hd; rfl
    | _ => cases hd
  obtain ⟨x, st', h1, h2, h3, h4⟩ := x_taken (i := 0) (env := [.row st, .val d]) (e1 := [.row st, .val d]) (st := st) (a := fOp1 dLen (fPeek 1)) ⟨st, rfl⟩ (x_op1 (x_peek rfl) len) rfl (by omega) (by omega) ok
  obtain ⟨n, rfl⟩ : ∃ n : Nat, x = (n : Int) := ⟨x.toNat, by omega⟩
  have hn : n < ds.length := by omega
  refine ⟨ds[n], st', ?_, List.getElem_mem hn, h4⟩
  have ix : dIx d (.int n) = some ds[n] := by
    cases d with
    | list ys => cases hd; show L2.atI _ (n : Int) = _; rw [atI_nat _ n hn, List.getElem?_eq_getElem hn]
    | tuple ys => cases hd; show L2.atI _ (n : Int) = _; rw [atI_nat _ n hn, List.getElem?_eq_getElem hn]
    | _ => cases hd
  show (b__law_pick [.row st, .val d]).bind _ = _
  unfold b__law_pick
  have : fOp2N dIx 1 (fCallR 0 1 m__law_taken (fCons (fOp1 dLen (fPeek 1)) fNil)) [.row st, .val d] = some (ds[n], [.row st', .val d]) := x_op2N (x0 := d) (x := d) rfl h1 rfl ix
  rw [x_ret this]
  rfl
end GL
/-! The law's yards. -/
namespace GL
open PySem L2 GR

/-- ties of a yard of n places, not yet in order -/
structure Pre (n : Int) (T : List Tie) : Prop where
  bd : ∀ t ∈ T, 0 ≤ t.1 ∧ t.1 < t.2 ∧ t.2 < n
  tree : ∀ p, 1 ≤ p → p < n → ∃ q, 0 ≤ q ∧ q < p ∧ (q, p) ∈ T
theorem sort_two {p q : Int} (h : q < p) : sortI [p, q] = [q, p] := by
  have e : ¬ p ≤ q := by omega
  simp [sortI, List.mergeSort, List.merge, List.MergeSort.Internal.splitInTwo, e]
abbrev yE (M : Int) (st : Row) (s2 s3 s4 s5 s6 s7 s8 s9 : Slot) : LEnv := [.row st, .val (.int M), s2, s3, s4, s5, s6, s7, s8, s9]
abbrev yTree : SemL := fLc (fRange2 (fC (.int 1)) (fVar 2)) (tgName 4) fYes (fOp1 dTuple (fOp1 dSortedG (fLst (fCons (fVar 4) (fCons (fCallR 0 1 m__law_taken (fCons (fVar 4) fNil)) fNil))))) [4]
theorem yard_tree (M n : Int) (hn : 2 ≤ n) (hn2 : n ≤ 7) (st : Row) (ok : RowOk st) : ∃ T st', yTree (yE M st (.val (.int n)) .un .un .un .un .un .un .un) = some (T.map tieD, yE M st' (.val (.int n)) .un .un .un .un .un .un .un) ∧ RowOk st' ∧ Pre n T ∧ T.length ≤ 6 := by
  obtain ⟨k, hk⟩ : ∃ k : Nat, n = (k : Int) + 1 := ⟨(n - 1).toNat, by omega⟩
  obtain ⟨ys, en, h1, st', s4, T, h2, h3, h4, h5, h6, h7⟩ := x_lcI (α := Nat) (fun i => .int (1 + (i : Int))) (fi := fRange2 (fC (.int 1)) (fVar 2)) (g := tgName 4) (e := fOp1 dTuple (fOp1 dSortedG (fLst (fCons (fVar 4) (fCons (fCallR 0 1 m__law_taken (fCons (fVar 4) fNil)) fNil))))) (vs := [4])
    (env := yE M st (.val (.int n)) .un .un .un .un .un .un .un) (env1 := yE M st (.val (.int n)) .un .un .un .un .un .un .un) (xs := List.range k)
    (fun a ys en => ∃ st' s4 T, en = yE M st' (.val (.int n)) .un s4 .un .un .un .un .un ∧ owns s4 = false ∧ RowOk st' ∧ ys = T.map tieD ∧ T.length = a.length ∧ (∀ t ∈ T, 0 ≤ t.1 ∧ t.1 < t.2 ∧ ∃ i ∈ a, t.2 = 1 + (i : Int)) ∧ ∀ i ∈ a, ∃ q, 0 ≤ q ∧ q < 1 + (i : Int) ∧ (q, 1 + (i : Int)) ∈ T)
    (by rw [x_range2 (m := 1) (n := n) rfl (x_var rfl) (by decide) (by decide) (by omega) (by omega)]
        unfold rangeD
        rw [show (n - 1).toNat = k by omega])
    ⟨st, .un, [], rfl, rfl, ok, rfl, rfl, fun t m => (nomatch m), fun i m => (nomatch m)⟩
    (fun a ys en ⟨st', s4, T, e1, e2, e3, e4, e5, _, _⟩ => ⟨by
      subst e1
      show (!owns s4 && true) = true
      rw [e2]; rfl, by rw [e4, List.length_map, e5]⟩)
    (by rw [List.length_range]; omega)
    (fun a x r ys en hx ⟨st', s4, T, e1, e2, e3, e4, e5, e6, e7⟩ => by
      subst e1
      have hxk : x < k := by
        have : x ∈ List.range k := by rw [hx]; simp
        exact List.mem_range.mp this
      obtain ⟨q, st2, c1, c2, c3, c4⟩ := x_taken (i := 0) (env := yE M st' (.val (.int n)) .un (.val (.int (1 + (x : Int)))) .un .un .un .un .un) (e1 := yE M st' (.val (.int n)) .un (.val (.int (1 + (x : Int)))) .un .un .un .un .un) (st := st') (a := fVar 4) (k := 1 + (x : Int)) ⟨st', rfl⟩ (x_var rfl) rfl (by omega) (by omega) e3
      refine ⟨yE M st' (.val (.int n)) .un (.val (.int (1 + (x : Int)))) .un .un .un .un .un, yE M st2 (.val (.int n)) .un (.val (.int (1 + (x : Int)))) .un .un .un .un .un, tieD (q, 1 + (x : Int)), ?_, ?_, st2, .val (.int (1 + (x : Int))), T ++ [(q, 1 + (x : Int))], rfl, rfl, c4, ?_, ?_, ?_, ?_⟩
      · exact x_tg rfl rfl
      · refine x_op1 (x_op1 (x_lst (x_cons (x_var rfl) (x_cons c1 rfl)) (by simp)) (z := .list (intsL [q, 1 + (x : Int)])) ?_) rfl
        have := dSortL_ints (xs := [1 + (x : Int), q]) (by simp) (ok_ints _)
        have h2 := sort_two c3
        unfold sortI at h2
        rw [h2] at this
        exact this
      · rw [e4, List.map_append]; rfl
      · rw [List.length_append, List.length_append, e5]; rfl
      · intro t m
        rcases List.mem_append.mp m with m | m
        · obtain ⟨a1, a2, i, mi, a3⟩ := e6 t m
          exact ⟨a1, a2, i, List.mem_append_left _ mi, a3⟩
        · rw [List.mem_singleton.mp m]
          exact ⟨c2, c3, x, by simp, rfl⟩
      · intro i m
        rcases List.mem_append.mp m with m | m
        · obtain ⟨q', a1, a2, a3⟩ := e7 i m
          exact ⟨q', a1, a2, List.mem_append_left _ a3⟩
        · rw [List.mem_singleton.mp m]
          exact ⟨q, c2, c3, by simp⟩)
  subst h2
  refine ⟨T, st', h1.trans (by rw [h5]; rfl), h4, ⟨fun t m => ?_, fun p p1 p2 => ?_⟩, by rw [h6, List.length_range]; omega⟩
  · obtain ⟨a1, a2, i, mi, a3⟩ := h7.1 t m
    have := List.mem_range.mp mi
    exact ⟨a1, a2, by omega⟩
  · obtain ⟨q, a1, a2, a3⟩ := h7.2 (p - 1).toNat (List.mem_range.mpr (by omega))
    rw [show (1 : Int) + ((p - 1).toNat : Int) = p by omega] at a2 a3
    exact ⟨q, a1, a2, a3⟩
abbrev yPairs : SemS := sFor (fRange1 (fVar 2)) (tgName 6) (sAsg 5 (fOp2 dAdd (fVar 5) (asList (fLc (fRange2 (fOp2 dAdd (fVar 6) (fC (.int 1))) (fVar 2)) (tgName 7) fYes (fTup (fCons (fVar 6) (fCons (fVar 7) fNil))) [7]))))
theorem yard_pairs (M n : Int) (hn : 2 ≤ n) (hn2 : n ≤ 7) (st : Row) (s3 : Slot) : ∃ P s6, yPairs (yE M st (.val (.int n)) s3 .un (.val (.list [])) .un .un .un .un) = some (.nx (yE M st (.val (.int n)) s3 .un (.val (.list (P.map tieD))) s6 .un .un .un)) ∧ (∀ t ∈ P, 0 ≤ t.1 ∧ t.1 < t.2 ∧ t.2 < n) ∧ P ≠ [] ∧ P.length ≤ 49 := by
  obtain ⟨k, rfl⟩ : ∃ k : Nat, n = (k : Int) := ⟨n.toNat, by omega⟩
  obtain ⟨e', h1, P, s6, h2, h3, h4, h5, h6⟩ := x_forM (α := Nat) (fun i => .int (0 + (i : Int))) (g := tgName 6) (b := sAsg 5 (fOp2 dAdd (fVar 5) (asList (fLc (fRange2 (fOp2 dAdd (fVar 6) (fC (.int 1))) (fVar 2)) (tgName 7) fYes (fTup (fCons (fVar 6) (fCons (fVar 7) fNil))) [7]))))
    (fun a en => ∃ P s6, en = yE M st (.val (.int k)) s3 .un (.val (.list (P.map tieD))) s6 .un .un .un ∧ owns s6 = false ∧ (∀ t ∈ P, 0 ≤ t.1 ∧ t.1 < t.2 ∧ t.2 < (k : Int)) ∧ P.length ≤ 7 * a.length ∧ (0 ∈ a → P ≠ []))
    (List.range k) (yE M st (.val (.int k)) s3 .un (.val (.list [])) .un .un .un .un) ⟨[], .un, rfl, rfl, fun t m => (nomatch m), by simp, fun m => (nomatch m)⟩
    (fun a x r en hx ⟨P, s6, e1, e2, e3, e4, e5⟩ => by
      subst e1
      have hxk : x < k := by
        have : x ∈ List.range k := by rw [hx]; simp
        exact List.mem_range.mp this
      have hak : a.length < k := by
        have := congrArg List.length hx
        rw [List.length_range, List.length_append, List.length_cons] at this
        omega
      let Q : List Tie := (List.range (k - (x + 1))).map fun i : Nat => ((x : Int), (x : Int) + 1 + (i : Int))
      have n6 : noRow (yE M st (.val (.int k)) s3 .un (.val (.list (P.map tieD))) s6 .un .un .un) 6 = true := by
        show (match some s6 with | some (.row _) => false | some (.ln _) => false | none => false | _ => true) = true
        cases s6 <;> first | rfl | cases e2
      have lc : fLc (fRange2 (fOp2 dAdd (fVar 6) (fC (.int 1))) (fVar 2)) (tgName 7) fYes (fTup (fCons (fVar 6) (fCons (fVar 7) fNil))) [7] (yE M st (.val (.int k)) s3 .un (.val (.list (P.map tieD))) (.val (.int (0 + (x : Int)))) .un .un .un) = some (Q.map tieD, yE M st (.val (.int k)) s3 .un (.val (.list (P.map tieD))) (.val (.int (0 + (x : Int)))) .un .un .un) := by
        have := lc1 (i := 7) (t := fYes) (e := fTup (fCons (fVar 6) (fCons (fVar 7) fNil))) (env := yE M st (.val (.int k)) s3 .un (.val (.list (P.map tieD))) (.val (.int (0 + (x : Int)))) .un .un .un) (fun _ => true) (fun d => .tuple [.int (0 + (x : Int)), d]) (x_range2 (f := fOp2 dAdd (fVar 6) (fC (.int 1))) (g := fVar 2) (x_op2 (x_var rfl) rfl rfl) (x_var rfl) (by omega) (by omega) (by omega) (by omega)) rfl (by unfold rangeD; rw [List.length_map, List.length_range]; omega)
          (fun d _ => rfl) (fun d _ _ => x_tup (x_cons (x_var rfl) (x_cons (x_var rfl) rfl)) (by simp))
        rw [this]
        have q : ((rangeD (0 + (x : Int) + 1) ((k : Int) - (0 + (x : Int) + 1)).toNat).filter fun _ => true).map (fun d => PyData.tuple [.int (0 + (x : Int)), d]) = Q.map tieD := by
          have e : ((k : Int) - (0 + (x : Int) + 1)).toNat = k - (x + 1) := by omega
          rw [e, List.filter_eq_self.mpr (by simp)]
          show List.map _ (List.map _ _) = List.map _ (List.map _ _)
          rw [List.map_map, List.map_map]
          refine List.map_congr_left fun i _ => ?_
          show PyData.tuple [.int (0 + (x : Int)), .int (0 + (x : Int) + 1 + (i : Int))] = PyData.tuple [.int (x : Int), .int ((x : Int) + 1 + (i : Int))]
          rw [Int.zero_add]
        exact congrArg (fun l => some (l, _)) q
      refine ⟨yE M st (.val (.int k)) s3 .un (.val (.list (P.map tieD))) (.val (.int (0 + (x : Int)))) .un .un .un, yE M st (.val (.int k)) s3 .un (.val (.list ((P ++ Q).map tieD))) (.val (.int (0 + (x : Int)))) .un .un .un, x_tg n6 rfl, .inl ?_, P ++ Q, .val (.int (0 + (x : Int))), rfl, rfl, ?_, ?_, ?_⟩
      · refine x_asg' (x_op2 (x_var rfl) (x_list lc) (z := .list ((P ++ Q).map tieD)) ?_) rfl rfl
        show (if (P.map tieD).length + (Q.map tieD).length ≤ 1000000 then some (PyData.list (P.map tieD ++ Q.map tieD)) else none) = _
        rw [List.map_append, if_pos]
        simp only [List.length_map, Q, List.length_range]
        omega
      · intro t m
        rcases List.mem_append.mp m with m | m
        · exact e3 t m
        · obtain ⟨i, mi, rfl⟩ := List.mem_map.mp m
          have := List.mem_range.mp mi
          dsimp only
          omega
      · rw [List.length_append, List.length_append]
        simp only [List.length_map, Q, List.length_range, List.length_singleton]
        omega
      · intro m z
        obtain ⟨z1, z2⟩ := List.append_eq_nil_iff.mp z
        have lq : Q.length = 0 := by rw [z2]; rfl
        simp only [List.length_map, Q, List.length_range] at lq
        rcases List.mem_append.mp m with m | m
        · exact e5 m z1
        · have : (0 : Nat) = x := List.mem_singleton.mp m
          omega)
  subst h2
  refine ⟨P, s6, x_sForI (x_range1 (x_var rfl) (by omega) (by omega)) (by
    have : rangeD 0 ((k : Int)).toNat = (List.range k).map fun i : Nat => PyData.int (0 + (i : Int)) := rfl
    rw [this]; exact h1), h4, h6 (List.mem_range.mpr (by omega)), by rw [List.length_range] at h5; omega⟩
end GL
/-! The law's yards: the whole. -/
namespace GL
open PySem L2 GR

def tlt (a b : Tie) : Prop := a.1 < b.1 ∨ (a.1 = b.1 ∧ a.2 < b.2)
/-- a yard's ties -/
structure Web (n : Int) (ts : List Tie) : Prop where
  n2 : 2 ≤ n
  n7 : n ≤ 7
  bd : ∀ t ∈ ts, 0 ≤ t.1 ∧ t.1 < t.2 ∧ t.2 < n
  asc : ts.Pairwise tlt
  con : ∀ x y, 0 ≤ x → x < n → 0 ≤ y → y < n → Rch (adj ts) (fun _ => True) x y
  few : ts.length ≤ 63
theorem web_of {n : Int} {ts : List Tie} (h2 : 2 ≤ n) (h7 : n ≤ 7) (p : Pre n ts) (a : ts.Pairwise tlt) (f : ts.length ≤ 63) : Web n ts where
  n2 := h2
  n7 := h7
  bd := p.bd
  asc := a
  few := f
  con := by
    have base : ∀ k : Nat, ∀ x : Int, x = (k : Int) → x < n → Rch (adj ts) (fun _ => True) 0 x := by
      intro k
      induction k using Nat.strongRecOn with
      | ind k ih =>
        intro x hx hn
        by_cases h : k = 0
        · subst h; rw [hx]; exact .refl trivial
        · obtain ⟨q, q0, q1, m⟩ := p.tree x (by omega) hn
          exact .step (ih q.toNat (by omega) q (by omega) (by omega)) (mem_beside.mpr (.inl m)) trivial
    intro x y x0 x1 y0 y1
    exact ((base x.toNat x (by omega) x1).symm (adj_symm ts)).trans (base y.toNat y (by omega) y1)
theorem tups_is : ∀ T : List Tie, tupsD (T.map tieD) = some (T.map fun t => [t.1, t.2])
  | [] => rfl
  | t :: T => by
    rw [List.map_cons]
    show (some [t.1, t.2]).bind (fun ns => (tupsD (T.map tieD)).map (ns :: ·)) = _
    rw [tups_is T]
    rfl
theorem code_two (x y : Int) : TS.code cap [x, y] = x * 1000 + y := by
  have e1 : (1000 : Int) ^ 1 = 1000 := by decide
  have e0 : (1000 : Int) ^ 0 = 1 := by decide
  show x * 1000 ^ 1 + (y * 1000 ^ 0 + 0) = x * 1000 + y
  rw [e1, e0, Int.mul_one, Int.add_zero]
/-- what sorted(set(ties)) is -/
theorem sort_ties (T : List Tie) (hl : T.length < 64) (bd : ∀ t ∈ T, 0 ≤ t.1 ∧ t.1 < t.2 ∧ t.2 < 7) : ∃ ts : List Tie, okSet 2 (T.map fun t => [t.1, t.2]) = true ∧ (sortSet (T.map fun t => [t.1, t.2])).map tupI = ts.map tieD ∧ (∀ t, t ∈ ts ↔ t ∈ T) ∧ ts.Pairwise tlt ∧ ts.length ≤ 63 := by
  let xs : List (List Int) := T.map fun t => [t.1, t.2]
  have mem : ∀ l ∈ sortSet xs, ∃ t ∈ T, l = [t.1, t.2] := fun l m => by
    obtain ⟨t, ht, e⟩ := List.mem_map.mp (sortSet_mem.mp m)
    exact ⟨t, ht, e.symm⟩
  let g : List Int → Tie := fun l => (l.getD 0 0, l.getD 1 0)
  have gb : ∀ l ∈ sortSet xs, [(g l).1, (g l).2] = l := fun l m => by
    obtain ⟨t, _, e⟩ := mem l m
    rw [e]
    rfl
  refine ⟨(sortSet xs).map g, ?_, ?_, fun t => ?_, ?_, ?_⟩
  · unfold okSet
    simp only [Bool.and_eq_true, decide_eq_true_eq, List.all_eq_true, List.length_map]
    refine ⟨hl, fun l m => ?_⟩
    obtain ⟨t, ht, e⟩ := List.mem_map.mp m
    obtain ⟨b1, b2, b3⟩ := bd t ht
    subst e
    refine ⟨rfl, fun i mi => ?_⟩
    simp only [List.mem_cons, List.not_mem_nil, or_false] at mi
    unfold cap
    omega
  · rw [List.map_map]
    refine List.map_congr_left fun l m => ?_
    show tupI l = tieD (g l)
    conv => lhs; rw [← gb l m]
    rfl
  · rw [List.mem_map]
    constructor
    · rintro ⟨l, m, rfl⟩
      obtain ⟨t, ht, e⟩ := mem l m
      rw [e]
      exact ht
    · intro ht
      exact ⟨[t.1, t.2], sortSet_mem.mpr (List.mem_map.mpr ⟨t, ht, rfl⟩), rfl⟩
  · rw [List.pairwise_map]
    have h1 := sortSet_le xs
    have h2 : (sortSet xs).Pairwise (· ≠ ·) := sortSet_nodup xs
    refine (List.Pairwise.and h1 h2).imp_of_mem fun {a b} ma mb h => ?_
    obtain ⟨s, hs, ea⟩ := mem a ma
    obtain ⟨t, ht, eb⟩ := mem b mb
    obtain ⟨b1, b2, b3⟩ := bd s hs
    obtain ⟨c1, c2, c3⟩ := bd t ht
    subst ea; subst eb
    have h3 := h.1
    rw [code_two, code_two] at h3
    show s.1 < t.1 ∨ (s.1 = t.1 ∧ s.2 < t.2)
    by_cases e : s.1 = t.1
    · have : s.2 ≠ t.2 := fun z => h.2 (by rw [e, z])
      omega
    · omega
  · have := nodup_le (sortSet_nodup xs) (ys := xs) fun x m => sortSet_mem.mp m
    have l2 : xs.length = T.length := List.length_map _
    rw [List.length_map]
    omega
abbrev yPath : SemS := sIf (fTest (fOp2 dEq (fVar 8) (fC (.int 0)))) (sAsgO 3 (fAddL (asList (fLc (fRange1 (fOp2 dSub (fVar 2) (fC (.int 1)))) (tgName 4) fYes (fTup (fCons (fVar 4) (fCons (fOp2 dAdd (fVar 4) (fC (.int 1))) fNil))) [4])) (fLst (fCons (fTup (fCons (fC (.int 0)) (fCons (fOp2 dSub (fVar 2) (fC (.int 1))) fNil))) fNil)))) sNext
theorem yard_path (M n : Int) (hn : 2 ≤ n) (hn2 : n ≤ 7) (st : Row) (T : List Tie) (hT : Pre n T) (lT : T.length ≤ 6) (s5 s6 : Slot) (w : Int) : ∃ T', yPath (yE M st (.val (.int n)) (.ol (T.map tieD)) .un s5 s6 .un (.val (.int w)) .un) = some (.nx (yE M st (.val (.int n)) (.ol (T'.map tieD)) .un s5 s6 .un (.val (.int w)) .un)) ∧ Pre n T' ∧ T'.length ≤ 7 := by
  have t1 : fTest (fOp2 dEq (fVar 8) (fC (.int 0))) (yE M st (.val (.int n)) (.ol (T.map tieD)) .un s5 s6 .un (.val (.int w)) .un) = some (decide (w = 0), yE M st (.val (.int n)) (.ol (T.map tieD)) .un s5 s6 .un (.val (.int w)) .un) := x_test (x_op2 (x_var rfl) rfl (d_eq_int _ _))
  by_cases hw : w = 0
  · obtain ⟨k, hk⟩ : ∃ k : Nat, n = (k : Int) + 1 := ⟨(n - 1).toNat, by omega⟩
    let Q : List Tie := (List.range k).map fun i : Nat => ((i : Int), (i : Int) + 1)
    refine ⟨Q ++ [(0, n - 1)], ?_, ⟨fun t m => ?_, fun p p1 p2 => ?_⟩, ?_⟩
    · unfold yPath
      rw [x_if t1, if_pos (decide_eq_true hw)]
      have lc := lc1 (i := 4) (t := fYes) (e := fTup (fCons (fVar 4) (fCons (fOp2 dAdd (fVar 4) (fC (.int 1))) fNil))) (env := yE M st (.val (.int n)) (.ol (T.map tieD)) .un s5 s6 .un (.val (.int w)) .un) (fun _ => true) (fun d => match d with | .int i => .tuple [.int i, .int (i + 1)] | _ => .none) (x_range1 (f := fOp2 dSub (fVar 2) (fC (.int 1))) (n := n - 1) (x_op2 (x_var rfl) rfl rfl) (by omega) (by omega)) rfl (by unfold rangeD; rw [List.length_map, List.length_range]; omega)
          (fun d _ => rfl) (fun d m _ => by
            obtain ⟨i, mi, rfl⟩ := List.mem_map.mp m
            exact x_tup (x_cons (x_var rfl) (x_cons (x_op2 (x_var rfl) rfl rfl) rfl)) (by simp))
      have q : ((rangeD 0 (n - 1).toNat).filter fun _ => true).map (fun d => match d with | .int i => PyData.tuple [.int i, .int (i + 1)] | _ => .none) = Q.map tieD := by
        rw [show (n - 1).toNat = k by omega, List.filter_eq_self.mpr (by simp)]
        show List.map _ (List.map _ _) = List.map _ (List.map _ _)
        rw [List.map_map, List.map_map]
        refine List.map_congr_left fun i _ => ?_
        show PyData.tuple [.int (0 + (i : Int)), .int (0 + (i : Int) + 1)] = PyData.tuple [.int (i : Int), .int ((i : Int) + 1)]
        rw [Int.zero_add]
      rw [q] at lc
      refine x_asgO (e1 := yE M st (.val (.int n)) (.ol (T.map tieD)) .un s5 s6 .un (.val (.int w)) .un) (ds := (Q ++ [(0, n - 1)]).map tieD) ?_ rfl rfl
      have e2 : fLst (fCons (fTup (fCons (fC (.int 0)) (fCons (fOp2 dSub (fVar 2) (fC (.int 1))) fNil))) fNil) (yE M st (.val (.int n)) (.ol (T.map tieD)) .un s5 s6 .un (.val (.int w)) .un) = some (.list [tieD (0, n - 1)], yE M st (.val (.int n)) (.ol (T.map tieD)) .un s5 s6 .un (.val (.int w)) .un) :=
        x_lst (x_cons (x_tup (x_cons rfl (x_cons (x_op2 (x_var rfl) rfl rfl) rfl)) (by simp)) rfl) (by simp)
      unfold fAddL
      rw [x_list lc, Option.bind_some]
      dsimp only
      rw [e2, Option.bind_some]
      dsimp only
      rw [if_pos (by simp only [List.length_map, Q, List.length_range, List.length_singleton]; omega), List.map_append]
      rfl
    · rcases List.mem_append.mp m with m | m
      · obtain ⟨i, mi, rfl⟩ := List.mem_map.mp m
        have := List.mem_range.mp mi
        dsimp only
        omega
      · rw [List.mem_singleton.mp m]
        dsimp only
        omega
    · refine ⟨p - 1, by omega, by omega, List.mem_append_left _ (List.mem_map.mpr ⟨(p - 1).toNat, List.mem_range.mpr (by omega), ?_⟩)⟩
      rw [show ((p - 1).toNat : Int) = p - 1 by omega, show p - 1 + 1 = p by omega]
    · simp only [List.length_append, List.length_map, Q, List.length_range, List.length_singleton]
      omega
  · exact ⟨T, by unfold yPath; rw [x_if t1, decide_eq_false hw]; rfl, hT, by omega⟩
abbrev yMore : SemS := sFor (fRange1 (fIf (fTest (fOp2 dLt (fVar 8) (fC (.int 3)))) (fCallR 0 1 m__law_taken (fCons (fC (.int 4)) fNil)) (fC (.int 0)))) (tgName 9) (sExpr (sAppend 3 (fCallR 0 1 m__law_pick (fCons (fVar 5) fNil))))
theorem yard_more (M n : Int) (hn : 2 ≤ n) (hn2 : n ≤ 7) (st : Row) (ok : RowOk st) (T P : List Tie) (hT : Pre n T) (lT : T.length ≤ 7) (hP : ∀ t ∈ P, 0 ≤ t.1 ∧ t.1 < t.2 ∧ t.2 < n) (nP : P ≠ []) (lP : P.length ≤ 49) (s6 : Slot) (w : Int) :
    ∃ T' st' s9, yMore (yE M st (.val (.int n)) (.ol (T.map tieD)) .un (.val (.list (P.map tieD))) s6 .un (.val (.int w)) .un) = some (.nx (yE M st' (.val (.int n)) (.ol (T'.map tieD)) .un (.val (.list (P.map tieD))) s6 .un (.val (.int w)) s9)) ∧ Pre n T' ∧ T'.length ≤ 20 ∧ RowOk st' := by
  let E : Row → List Tie → Slot → LEnv := fun st T s9 => yE M st (.val (.int n)) (.ol (T.map tieD)) .un (.val (.list (P.map tieD))) s6 .un (.val (.int w)) s9
  obtain ⟨c, st1, h1, c0, c4, ok1⟩ : ∃ (c : Int) (st1 : Row), fIf (fTest (fOp2 dLt (fVar 8) (fC (.int 3)))) (fCallR 0 1 m__law_taken (fCons (fC (.int 4)) fNil)) (fC (.int 0)) (E st T .un) = some (.int c, E st1 T .un) ∧ 0 ≤ c ∧ c < 4 ∧ RowOk st1 := by
    have t1 : fTest (fOp2 dLt (fVar 8) (fC (.int 3))) (E st T .un) = some (decide (w < 3), E st T .un) := x_test (x_op2 (x_var rfl) rfl rfl)
    by_cases hw : w < 3
    · obtain ⟨x, st', g1, g2, g3, g4⟩ := x_taken (i := 0) (env := E st T .un) (e1 := E st T .un) (st := st) (a := fC (.int 4)) (k := 4) ⟨st, rfl⟩ rfl rfl (by decide) (by decide) ok
      refine ⟨x, st', ?_, g2, g3, g4⟩
      unfold fIf
      rw [t1, Option.bind_some]
      dsimp only
      rw [if_pos (decide_eq_true hw)]
      exact g1
    · refine ⟨0, st, ?_, by decide, by decide, ok⟩
      unfold fIf
      rw [t1, Option.bind_some]
      dsimp only
      rw [decide_eq_false hw, if_neg Bool.false_ne_true]
      rfl
  obtain ⟨e', h2, T', st', s9, h3, h4, h5, h6, h7⟩ := x_forM (α := Nat) (fun i => .int (0 + (i : Int))) (g := tgName 9) (b := sExpr (sAppend 3 (fCallR 0 1 m__law_pick (fCons (fVar 5) fNil))))
    (fun a en => ∃ T' st' s9, en = E st' T' s9 ∧ owns s9 = false ∧ Pre n T' ∧ T'.length ≤ 7 + a.length ∧ RowOk st')
    (List.range c.toNat) (E st1 T .un) ⟨T, st1, .un, rfl, rfl, hT, by simpa using lT, ok1⟩
    (fun a x r en hx ⟨T', st', s9, e1, e2, e3, e4, e5⟩ => by
      subst e1
      have hac : a.length < 4 := by
        have := congrArg List.length hx
        rw [List.length_range, List.length_append, List.length_cons] at this
        omega
      have n9 : noRow (E st' T' s9) 9 = true := by
        show (match some s9 with | some (.row _) => false | some (.ln _) => false | none => false | _ => true) = true
        cases s9 <;> first | rfl | cases e2
      obtain ⟨d, st2, p1, p2, p3⟩ := pick_is st' e5 (.list (P.map tieD)) (P.map tieD) rfl (fun z => nP (List.map_eq_nil_iff.mp z)) (by rw [List.length_map]; omega)
      obtain ⟨t, mt, rfl⟩ := List.mem_map.mp p2
      have c1 : fCallR 0 1 m__law_pick (fCons (fVar 5) fNil) (E st' T' (.val (.int (0 + (x : Int))))) = some (tieD t, E st2 T' (.val (.int (0 + (x : Int))))) := by
        show (if [PyData.list (P.map tieD)].length = 1 then (m__law_pick st' [.list (P.map tieD)]).map (fun p : D × Row => (p.1, (E st' T' (.val (.int (0 + (x : Int))))).set 0 (Slot.row p.2))) else none) = _
        rw [p1]
        rfl
      refine ⟨E st' T' (.val (.int (0 + (x : Int)))), E st2 (T' ++ [t]) (.val (.int (0 + (x : Int)))), x_tg n9 rfl, .inl (x_expr (x_append (ds0 := T'.map tieD) (ds := T'.map tieD) rfl c1 rfl (by rw [List.length_map]; omega) ?_)), T' ++ [t], st2, .val (.int (0 + (x : Int))), rfl, rfl, ⟨fun s m => ?_, fun p p1 p2 => ?_⟩, ?_, p3⟩
      · simp only [E, List.map_append]
        rfl
      · rcases List.mem_append.mp m with m | m
        · exact e3.bd s m
        · rw [List.mem_singleton.mp m]; exact hP t mt
      · obtain ⟨q, q1, q2, q3⟩ := e3.tree p p1 p2
        exact ⟨q, q1, q2, List.mem_append_left _ q3⟩
      · rw [List.length_append, List.length_append, List.length_singleton, List.length_singleton]; omega)
  subst h3
  refine ⟨T', st', s9, x_sForI (x_range1 h1 (by omega) (by omega)) (by
    have : rangeD 0 c.toNat = (List.range c.toNat).map fun i : Nat => PyData.int (0 + (i : Int)) := rfl
    rw [this]; exact h2), h5, by rw [List.length_range] at h6; omega, h7⟩
theorem law_yard_is (M : Int) (m2 : 2 ≤ M) (m7 : M ≤ 7) (st : Row) (ok : RowOk st) : ∃ n ts g st', m__law_yard st [.int M] = some (.tuple [.int n, .tuple (ts.map tieD), .int g], st') ∧ Web n ts ∧ n ≤ M ∧ 0 ≤ g ∧ g < n ∧ RowOk st' := by
  obtain ⟨x, st1, a1, a2, a3, ok1⟩ := x_taken (i := 0) (env := yE M st .un .un .un .un .un .un .un .un) (e1 := yE M st .un .un .un .un .un .un .un .un) (st := st) (a := fOp2 dSub (fVar 1) (fC (.int 1))) (k := M - 1) ⟨st, rfl⟩ (x_op2 (x_var rfl) rfl rfl) rfl (by omega) (by omega) ok
  have n2 : 2 ≤ 2 + x := by omega
  have n7 : 2 + x ≤ 7 := by omega
  obtain ⟨T, st2, b1, ok2, b2, b3⟩ := yard_tree M (2 + x) n2 n7 st1 ok1
  obtain ⟨P, s6, c1, c2, c3, c4⟩ := yard_pairs M (2 + x) n2 n7 st2 (.ol (T.map tieD))
  obtain ⟨w, st3, d1, _, _, ok3⟩ := x_taken (i := 0) (env := yE M st2 (.val (.int (2 + x))) (.ol (T.map tieD)) .un (.val (.list (P.map tieD))) s6 .un .un .un) (e1 := yE M st2 (.val (.int (2 + x))) (.ol (T.map tieD)) .un (.val (.list (P.map tieD))) s6 .un .un .un) (st := st2) (a := fC (.int 4)) (k := 4) ⟨st2, rfl⟩ rfl rfl (by decide) (by decide) ok2
  obtain ⟨T2, f1, f2, f3⟩ := yard_path M (2 + x) n2 n7 st3 T b2 b3 (.val (.list (P.map tieD))) s6 w
  obtain ⟨T3, st4, s9, g1, g2, g3, ok4⟩ := yard_more M (2 + x) n2 n7 st3 ok3 T2 P f2 f3 c2 c3 c4 s6 w
  obtain ⟨ts, k1, k2, k3, k4, k5⟩ := sort_ties T3 (by omega) fun t m => by
    obtain ⟨q1, q2, q3⟩ := g2.bd t m
    omega
  obtain ⟨g, st5, l1, l2, l3, ok5⟩ := x_taken (i := 0) (env := yE M st4 (.val (.int (2 + x))) (.ol (T3.map tieD)) .un (.val (.list (P.map tieD))) s6 .un (.val (.int w)) s9) (e1 := yE M st4 (.val (.int (2 + x))) (.ol (T3.map tieD)) .un (.val (.list (P.map tieD))) s6 .un (.val (.int w)) s9) (st := st4) (a := fVar 2) (k := 2 + x) ⟨st4, rfl⟩ (x_var rfl) rfl (by omega) (by omega) ok4
  refine ⟨2 + x, ts, g, st5, ?_, web_of n2 n7 ⟨fun t m => g2.bd t ((k3 t).mp m), fun p p1 p2 => ?_⟩ k4 k5, by omega, l2, l3, ok5⟩
  · have ss : fSortSet 2 (fPeek 3) (yE M st4 (.val (.int (2 + x))) (.ol (T3.map tieD)) .un (.val (.list (P.map tieD))) s6 .un (.val (.int w)) s9) = some (.list (ts.map tieD), yE M st4 (.val (.int (2 + x))) (.ol (T3.map tieD)) .un (.val (.list (P.map tieD))) s6 .un (.val (.int w)) s9) := by
      unfold fSortSet
      rw [x_peek (d := .list (T3.map tieD)) rfl, Option.bind_some]
      dsimp only
      rw [tups_is, Option.bind_some, if_pos ⟨k1, by decide⟩, k2]
    have fin : sRet (fTup (fCons (fVar 2) (fCons (fOp1 dTuple (fSortSet 2 (fPeek 3))) (fCons (fCallR 0 1 m__law_taken (fCons (fVar 2) fNil)) fNil)))) (yE M st4 (.val (.int (2 + x))) (.ol (T3.map tieD)) .un (.val (.list (P.map tieD))) s6 .un (.val (.int w)) s9) = some (.rt (.tuple [.int (2 + x), .tuple (ts.map tieD), .int g]) (yE M st5 (.val (.int (2 + x))) (.ol (T3.map tieD)) .un (.val (.list (P.map tieD))) s6 .un (.val (.int w)) s9)) :=
      x_ret (x_tup (x_cons (x_var rfl) (x_cons (x_op1 ss rfl) (x_cons l1 rfl))) (by simp))
    show (b__law_yard (yE M st .un .un .un .un .un .un .un .un)).bind _ = _
    unfold b__law_yard
    rw [x_seq (x_asg' (e2 := yE M st1 (.val (.int (2 + x))) .un .un .un .un .un .un .un) (x_op2 rfl a1 rfl) rfl rfl),
      x_seq (x_asgO (e2 := yE M st2 (.val (.int (2 + x))) (.ol (T.map tieD)) .un .un .un .un .un .un) b1 rfl rfl),
      x_seq (x_asg' (e2 := yE M st2 (.val (.int (2 + x))) (.ol (T.map tieD)) .un (.val (.list [])) .un .un .un .un) (x_lst rfl (by simp)) rfl rfl),
      x_seq c1, x_seq (x_asg' (e2 := yE M st3 (.val (.int (2 + x))) (.ol (T.map tieD)) .un (.val (.list (P.map tieD))) s6 .un (.val (.int w)) .un) d1 rfl rfl),
      x_seq f1, x_seq g1, fin]
    rfl
  · obtain ⟨q, q1, q2, q3⟩ := g2.tree p p1 p2
    exact ⟨q, q1, q2, (k3 _).mpr q3⟩
end GL
/-! The yard's checks, on the law's yards. -/
namespace GL
open PySem L2 GR

def lexT (a b : Tie) : Bool := decide (a.1 < b.1) || (decide (a.1 = b.1) && decide (a.2 < b.2))
theorem lexT_iff {a b : Tie} : lexT a b = true ↔ tlt a b := by
  unfold lexT tlt
  simp
theorem lt_tie (a b : Tie) : PySem.W.dataLt (tieD a) (tieD b) = lexT a b := by
  obtain ⟨x, y⟩ := a
  obtain ⟨u, v⟩ := b
  unfold PySem.W.dataLt tieD lexT
  simp only [PySem.W.keyToks, PySem.W.keyToksAll, PyProof.Rows.lexLt, PyProof.Rows.itemOrd, PyProof.Rows.itemLt, List.cons_append, List.nil_append]
  by_cases h1 : x < u
  · simp [h1]
  · by_cases h2 : u < x
    · have : ¬ x = u := by omega
      simp [h1, h2, this]
    · have : x = u := by omega
      subst this
      by_cases h3 : y < v
      · simp [h3]
      · simp [h3]
theorem ok_tie (t : Tie) : okD (tieD t) = true := rfl
theorem ge_tie (a b : Tie) : dGe (tieD a) (tieD b) = some (.bool (!lexT a b)) := by
  show (if okD (tieD a) = true ∧ okD (tieD b) = true ∧ PySem.W.alike (tieD a) (tieD b) = true then some (PyData.bool (!PySem.W.dataLt (tieD a) (tieD b))) else none) = _
  rw [if_pos ⟨rfl, rfl, rfl⟩, lt_tie]
def ascAll (L : List Tie) : Bool := (L.zip L.tail).all fun q => lexT q.1 q.2
theorem asc_of {L : List Tie} (h : L.Pairwise tlt) : ascAll L = true := by
  induction L with
  | nil => rfl
  | cons a L ih =>
    obtain ⟨h1, h2⟩ := List.pairwise_cons.mp h
    have := ih h2
    cases L with
    | nil => rfl
    | cons b L =>
      show (lexT a b && ascAll (b :: L)) = true
      rw [this, Bool.and_true]
      exact lexT_iff.mpr (h1 b List.mem_cons_self)
theorem asc_false {A B : List Tie} {t : Tie} : ascAll (A ++ t :: t :: B) = false := by
  induction A with
  | nil =>
    show (lexT t t && ascAll (t :: B)) = false
    have : lexT t t = false := by unfold lexT; simp
    rw [this, Bool.false_and]
  | cons a A ih =>
    cases A with
    | nil => show (lexT a t && ascAll (t :: t :: B)) = false; rw [show ascAll (t :: t :: B) = false from ih, Bool.and_false]
    | cons b A => show (lexT a b && ascAll (b :: (A ++ t :: t :: B))) = false; rw [show ascAll (b :: (A ++ t :: t :: B)) = false from ih, Bool.and_false]
def pairLt : D → Bool
  | .tuple [.tuple [.int a, .int b], .tuple [.int c, .int d]] => lexT (a, b) (c, d)
  | _ => false
abbrev atE (v m : D) (s2 s3 s4 : Slot) : LEnv := [.val v, .val m, s2, s3, s4]
theorem noRow_own {env : LEnv} {i : Nat} {s : Slot} (h : env[i]? = some s) (o : owns s = false) : noRow env i = true := by
  unfold noRow
  rw [h]
  cases s <;> first | rfl | cases o
theorem cut_tail (xs : List D) : cutD xs (some 1) none = xs.tail := by
  unfold cutD
  have h1 : HT.sIx xs.length 0 (some 1) = min 1 xs.length := by
    cases xs <;> simp [HT.sIx]
  have h2 : HT.sIx xs.length xs.length none = xs.length := rfl
  rw [h1, h2]
  cases xs with
  | nil => rfl
  | cons a xs =>
    have : min 1 (a :: xs).length = 1 := by simp
    rw [this]
    simp
theorem noN_ties : ∀ L : List Tie, hasNd (L.map tieD) = false
  | [] => rfl
  | _ :: L => noN_ties L
theorem are_ties_go (L : List Tie) (m : Int) (b : Bool) (hn : L ≠ []) (hl : L.length ≤ 200) (ok : ∀ t ∈ L, tieOk m t = true)
    (fin : ascAll L = true → ∀ a t L', L = (a, t) :: L' → ∃ met : List Int, m_hanging [nbD (nbOf L), .int a, .none] = some (.list (intsL met)) ∧ decide ((met.length : Int) = m) = b) (nf : ascAll L = false → b = false) :
    m_are_ties [.tuple (L.map tieD), .int m] = some (.bool b) := by
  let E := atE (.tuple (L.map tieD)) (.int m)
  have z1 : sIf (fOr (fNot (fTest (fOp1 (dIsa "tuple") (fPeek 0)))) (fNot (fTruth (fPeek 0)))) (sRet (fC (.bool false))) sNext (E .un .un .un) = some (.nx (E .un .un .un)) := by
    have a1 : fNot (fTest (fOp1 (dIsa "tuple") (fPeek 0))) (E .un .un .un) = some (false, E .un .un .un) := x_not (x_test (x_op1 (x_peek rfl) (isa_tuple _)))
    have a2 : fNot (fTruth (fPeek 0)) (E .un .un .un) = some (false, E .un .un .un) := by
      refine x_not (b := true) ?_
      show some ((!(L.map tieD).isEmpty), E .un .un .un) = _
      cases L with
      | nil => exact absurd rfl hn
      | cons t L => rfl
    rw [x_if (x_or a1 fun _ => a2)]
    rfl
  obtain ⟨e1, z2, s2, he1, o2⟩ := (x_forR (g := tgName 2) (b := sIf (fNot (fTest (fCall 2 m_is_tie (fCons (fVar 2) (fCons (fVar 1) fNil))))) (sRet (fC (.bool false))) sNext) (fun e => ∃ s2, e = E s2 .un .un ∧ owns s2 = false) (fun _ => true) (.bool false) (L.map tieD) (E .un .un .un) ⟨.un, rfl, rfl⟩ fun d hd e ⟨s2, he, o2⟩ => by
    subst he
    obtain ⟨t, mt, rfl⟩ := List.mem_map.mp hd
    refine ⟨E (.val (tieD t)) .un .un, x_tg (noRow_own (s := s2) rfl o2) rfl, fun _ => ⟨E (.val (tieD t)) .un .un, ?_, .val (tieD t), rfl, rfl⟩, fun z => nomatch z⟩
    have a1 : fNot (fTest (fCall 2 m_is_tie (fCons (fVar 2) (fCons (fVar 1) fNil)))) (E (.val (tieD t)) .un .un) = some (false, E (.val (tieD t)) .un .un) := x_not (b := true) (x_test (x_call (x_cons (x_var rfl) (x_cons (x_var rfl) rfl)) rfl (by rw [v_is_tie, ok t mt])))
    rw [x_if a1]
    rfl).1 (by simp)
  subst he1
  have zz := x_forR (g := tgTup 2 (tgCons (tgName 3) (tgCons (tgName 4) tgNil))) (b := sIf (fTest (fOp2 dGe (fVar 3) (fPeek 4))) (sRet (fC (.bool false))) sNext) (fun e => ∃ s3 s4, e = E s2 s3 s4 ∧ owns s3 = false ∧ owns s4 = false)
    pairLt (.bool false) ((L.zip L.tail).map fun q => .tuple [tieD q.1, tieD q.2]) (E s2 .un .un) ⟨.un, .un, rfl, rfl, rfl⟩ fun d hd e ⟨s3, s4, he, o3, o4⟩ => by
      subst he
      obtain ⟨⟨p, q⟩, mt, rfl⟩ := List.mem_map.mp hd
      have a1 : fTest (fOp2 dGe (fVar 3) (fPeek 4)) (E s2 (.val (tieD p)) (.val (tieD q))) = some (!lexT p q, E s2 (.val (tieD p)) (.val (tieD q))) := x_test (x_op2 (x_var rfl) (x_peek rfl) (ge_tie p q))
      have n3 : noRow (E s2 s3 s4) 3 = true := noRow_own (s := s3) rfl o3
      have n4 : noRow (E s2 (.val (tieD p)) s4) 4 = true := noRow_own (s := s4) rfl o4
      refine ⟨E s2 (.val (tieD p)) (.val (tieD q)), ?_, fun h => ⟨_, ?_, .val (tieD p), .val (tieD q), rfl, rfl, rfl⟩, fun h => ⟨E s2 (.val (tieD p)) (.val (tieD q)), ?_⟩⟩
      · show (tgName 3 (tieD p) (E s2 s3 s4)).bind (fun e => (tgName 4 (tieD q) e).bind fun e => some e) = _
        rw [x_tg (e2 := E s2 (.val (tieD p)) s4) n3 rfl, Option.bind_some, x_tg (e2 := E s2 (.val (tieD p)) (.val (tieD q))) n4 rfl]
        rfl
      · have h' : lexT p q = true := h
        rw [x_if a1, h']
        rfl
      · have h' : lexT p q = false := h
        rw [x_if a1, h']
        rfl
  have zip_is : zipD (L.map tieD) (L.map tieD).tail = (L.zip L.tail).map fun q => .tuple [tieD q.1, tieD q.2] := by
    unfold zipD
    rw [← List.map_tail, List.zip_map, List.map_map]
    rfl
  have all_is : ((L.zip L.tail).map fun q => PyData.tuple [tieD q.1, tieD q.2]).all pairLt = ascAll L := by
    rw [List.all_map]
    rfl
  rw [all_is] at zz
  have zi : fZip (fVar 0) (fSl (fVar 0) (foSome (fC (.int 1))) foNone) (E s2 .un .un) = some ((L.zip L.tail).map fun q => .tuple [tieD q.1, tieD q.2], E s2 .un .un) := by
    show (if hasNd (L.map tieD) = false ∧ hasNd (cutD (L.map tieD) (some 1) none) = false then some (zipD (L.map tieD) (cutD (L.map tieD) (some 1) none), E s2 .un .un) else none) = _
    rw [cut_tail, if_pos ⟨noN_ties L, by rw [← List.map_tail]; exact noN_ties L.tail⟩, zip_is]
  have z2' : sFor (fItems (fVar 0)) (tgName 2) (sIf (fNot (fTest (fCall 2 m_is_tie (fCons (fVar 2) (fCons (fVar 1) fNil))))) (sRet (fC (.bool false))) sNext) (E .un .un .un) = some (.nx (E s2 .un .un)) := x_sForI (x_items (x_var rfl) rfl) z2
  have start : startE 5 [.tuple (L.map tieD), .int m] = E .un .un .un := rfl
  unfold m_are_ties
  cases ha : ascAll L with
  | true =>
    obtain ⟨e3, z3, s3, s4, he3, _, _⟩ := zz.1 ha
    subst he3
    obtain ⟨⟨a, t⟩, L', hL⟩ := List.exists_cons_of_ne_nil hn
    obtain ⟨met, h1, h2⟩ := fin ha a t L' hL
    refine x_runF (e := E s2 s3 s4) ?_
    rw [start]
    unfold b_are_ties
    rw [x_seq z1, x_seq z2', x_seq (x_sForI zi z3)]
    have ix : fOp2 dIx (fOp2N dIx 0 (fC (.int 0))) (fC (.int 0)) (E s2 s3 s4) = some (.int a, E s2 s3 s4) := by
      subst hL
      refine x_op2 (x := tieD (a, t)) (x_op2N (x0 := .tuple (((a, t) :: L').map tieD)) (x := .tuple (((a, t) :: L').map tieD)) rfl rfl rfl ?_) rfl ?_
      · show L2.atI (((a, t) :: L').map tieD) ((0 : Nat) : Int) = _
        rw [atI_nat _ 0 (by simp)]
        rfl
      · show L2.atI [PyData.int a, PyData.int t] ((0 : Nat) : Int) = _
        rw [atI_nat _ 0 (by simp)]
        rfl
    refine x_ret (x_op2 (x := .int met.length) (x_op1 (x_call (x_cons (x_call (x_cons (x_var rfl) rfl) rfl (near_is rfl (by omega))) (x_cons ix (x_cons rfl rfl))) rfl h1) ?_) (x_peek rfl) ?_)
    · show some (PyData.int (intsL met).length) = _
      unfold intsL
      rw [List.length_map]
    · rw [d_eq_int, h2]
  | false =>
    obtain ⟨e3, z3⟩ := zz.2 ha
    rw [nf ha]
    refine x_runF (e := e3) ?_
    rw [start]
    unfold b_are_ties
    rw [x_seq z1, x_seq z2']
    exact x_seqR (x_sForI zi z3)
theorem count_to {n : Int} (h0 : 0 ≤ n) {xs : List Int} (nd : xs.Nodup) (h : ∀ x, x ∈ xs ↔ 0 ≤ x ∧ x < n) : (xs.length : Int) = n := by
  let R : List Int := (List.range n.toNat).map fun i : Nat => (i : Int)
  have rn : R.Nodup := (List.pairwise_map.mpr (List.nodup_range.imp fun h z => h (by omega)))
  have rm : ∀ x, x ∈ R ↔ 0 ≤ x ∧ x < n := fun x => by
    rw [List.mem_map]
    constructor
    · rintro ⟨i, mi, rfl⟩
      have := List.mem_range.mp mi
      omega
    · intro hx
      exact ⟨x.toNat, List.mem_range.mpr (by omega), by omega⟩
  have l1 := nodup_le nd fun x m => (rm x).mpr ((h x).mp m)
  have l2 := nodup_le rn fun x m => (h x).mpr ((rm x).mp m)
  have l3 : R.length = n.toNat := by rw [List.length_map, List.length_range]
  omega
section
variable {n : Int} {ts : List Tie}
theorem Web.ne (W : Web n ts) : ts ≠ [] := fun z => by
  subst z
  have := W.con 0 1 (by decide) (by have := W.n2; omega) (by decide) (by have := W.n2; omega)
  cases this with
  | step _ e _ => cases e
theorem Web.lo (W : Web n ts) : ∀ t ∈ ts, t.1 ≠ t.2 := fun t m => by have := W.bd t m; omega
theorem Web.isEnd_iff (W : Web n ts) (x : Int) : isEnd ts x ↔ 0 ≤ x ∧ x < n := by
  constructor
  · rintro ⟨t, m, h⟩
    have := W.bd t m
    omega
  · intro hx
    by_cases h : x = 0
    · have := W.con x 1 hx.1 hx.2 (by decide) (by have := W.n2; omega)
      have := this.symm (adj_symm ts)
      cases this with
      | refl => omega
      | step _ e _ => exact (beside_end e).2
    · have := W.con 0 x (by decide) (by have := W.n2; omega) hx.1 hx.2
      cases this with
      | refl => omega
      | step _ e _ => exact (beside_end e).2
theorem Web.lt200 (W : Web n ts) : ts.length ≤ 200 := by have := W.few; omega
theorem Web.tieOk (W : Web n ts) {m : Int} (hm : n ≤ m) : ∀ t ∈ ts, tieOk m t = true := fun t mt => by
  have := W.bd t mt
  unfold GL.tieOk
  simp
  omega
theorem Web.hang (W : Web n ts) (a : Int) (ha : 0 ≤ a ∧ a < n) : ∃ met : List Int, m_hanging [nbD (nbOf ts), .int a, .none] = some (.list (intsL met)) ∧ (met.length : Int) = n := by
  obtain ⟨met, h1, h2, h3⟩ := hanging_at W.lt200 (w := .none) rfl ((W.isEnd_iff a).mpr ha) rfl
  refine ⟨sortI met, h1, ?_⟩
  rw [sortI_len]
  refine count_to (by have := W.n2; omega) h2 fun x => (h3 x).trans ⟨fun h => ?_, fun h => (W.con a x ha.1 ha.2 h.1 h.2).mono fun _ _ => rfl⟩
  exact (W.isEnd_iff x).mp (rch_end h ((W.isEnd_iff a).mpr ha))
theorem ties_web (W : Web n ts) {m : Int} (hm : n ≤ m) : m_are_ties [.tuple (ts.map tieD), .int m] = some (.bool (decide (n = m))) := by
  refine are_ties_go ts m _ W.ne W.lt200 (W.tieOk hm) (fun _ a t L' hL => ?_) fun h => ?_
  · have mt : (a, t) ∈ ts := by rw [hL]; exact List.mem_cons_self
    have b := W.bd _ mt
    dsimp only at b
    obtain ⟨met, h1, h2⟩ := W.hang a (by omega)
    exact ⟨met, h1, by rw [h2]⟩
  · rw [asc_of W.asc] at h
    cases h
theorem ties_twice (W : Web n ts) : m_are_ties [.tuple ((ts.tail ++ ts.take 1 ++ ts).map tieD), .int n] = some (.bool false) := by
  obtain ⟨t, L, hL⟩ := List.exists_cons_of_ne_nil W.ne
  have e : ts.tail ++ ts.take 1 ++ ts = L ++ t :: t :: L := by rw [hL]; simp
  rw [e]
  have few := W.few
  rw [hL, List.length_cons] at few
  refine are_ties_go _ n _ (by simp) (by simp only [List.length_append, List.length_cons]; omega) (fun s m => W.tieOk (Int.le_refl n) s (by rw [hL]; simp at m ⊢; rcases m with m | m | m <;> simp [m])) (fun h => ?_) fun _ => rfl
  rw [asc_false] at h
  cases h
end
theorem ties_list (xs : List D) (m : Int) : m_are_ties [.list xs, .int m] = some (.bool false) := by
  refine x_runF (e := startE 5 [.list xs, .int m]) ?_
  unfold b_are_ties
  refine x_seqR ?_
  have a0 : dIsa "tuple" (.list xs) = some (.bool false) := by
    show (kitB "list" "tuple").map PyData.bool = _
    rw [show kitB "list" "tuple" = some false by decide +kernel]
    rfl
  have a1 : fNot (fTest (fOp1 (dIsa "tuple") (fPeek 0))) (startE 5 [.list xs, .int m]) = some (true, startE 5 [.list xs, .int m]) := x_not (x_test (x_op1 (x_peek rfl) a0))
  have a2 : fOr (fNot (fTest (fOp1 (dIsa "tuple") (fPeek 0)))) (fNot (fTruth (fPeek 0))) (startE 5 [.list xs, .int m]) = some (true, startE 5 [.list xs, .int m]) := by
    unfold fOr
    rw [a1]
    rfl
  rw [x_if a2]
  rfl
end GL
/-! check_yard, check_place; the bodies that may raise. -/
namespace GL
open PySem L2 GR

theorem xs_seq {f g : SemX} {env e1 : LEnv} (h : f env = some (.fl (.nx e1))) : xSeq f g env = g e1 := by
  unfold xSeq; rw [h]; rfl
theorem xs_go {f g : SemX} {env e1 : LEnv} {r : FlX} (h : f env = some (.fl (.nx e1))) (k : g e1 = some r) : xSeq f g env = some r := (xs_seq h).trans k
theorem x_go {f g : SemS} {env e1 : LEnv} {r : Fl} (h : f env = some (.nx e1)) (k : g e1 = some r) : sSeq f g env = some r := (x_seq h).trans k
theorem xs_ex {f g : SemX} {env e1 : LEnv} {x : ExD} (h : f env = some (.ex x e1)) : xSeq f g env = some (.ex x e1) := by
  unfold xSeq; rw [h]; rfl
theorem xs_if {t : SemB} {f g : SemX} {env e1 : LEnv} {b : Bool} (h : t env = some (b, e1)) : xIf t f g env = if b = true then f e1 else g e1 := by
  unfold xIf; rw [h]; rfl
theorem xs_lift {f : SemS} {env : LEnv} {r : Fl} (h : f env = some r) : xLift f env = some (.fl r) := by
  unfold xLift; rw [h]; rfl
theorem xs_skip {t : SemB} {f : SemX} {env : LEnv} (h : t env = some (false, env)) : xIf t f (xLift sNext) env = some (.fl (.nx env)) := by
  rw [xs_if h]; rfl
theorem xs_raise {t : SemB} {g : SemX} {r : LEnv → Option (ExD × LEnv)} {env : LEnv} {x : ExD} (h : t env = some (true, env)) (hr : r env = some (x, env)) : xIf t (xRaise r) g env = some (.ex x env) := by
  rw [xs_if h, if_pos rfl]
  unfold xRaise
  rw [hr]
  rfl
theorem xs_call {n : Nat} {fn : List D → Option Rs} {r : SemL} {env e1 : LEnv} {ds : List D} {d : D} (hr : r env = some (ds, e1)) (hn : ds.length = n) (hf : fn ds = some (.ok d)) : xCall n fn r env = some (.fl (.nx e1)) := by
  unfold xCall; rw [hr, Option.bind_some]; dsimp only; rw [if_pos hn, hf]; rfl
theorem xs_callE {n : Nat} {fn : List D → Option Rs} {r : SemL} {env e1 : LEnv} {ds : List D} {x : ExD} (hr : r env = some (ds, e1)) (hn : ds.length = n) (hf : fn ds = some (.er x)) : xCall n fn r env = some (.ex x e1) := by
  unfold xCall; rw [hr, Option.bind_some]; dsimp only; rw [if_pos hn, hf]; rfl
theorem xs_ok {m : Nat} {fb : SemX} {ds : List D} {e : LEnv} (h : fb (startE m ds) = some (.fl (.nx e))) : runX m fb ds = some (.ok .none) := by
  unfold runX; rw [h]; rfl
theorem xs_ret {m : Nat} {fb : SemX} {ds : List D} {d : D} {e : LEnv} (h : fb (startE m ds) = some (.fl (.rt d e))) : runX m fb ds = some (.ok d) := by
  unfold runX; rw [h]; rfl
theorem xs_er {m : Nat} {fb : SemX} {ds : List D} {x : ExD} {e : LEnv} (h : fb (startE m ds) = some (.ex x e)) : runX m fb ds = some (.er x) := by
  unfold runX; rw [h]; rfl
def badYard (part : Str) : ExD := ⟨"BadYard", some ("part", .str part)⟩
abbrev cyE (y : D) (s1 s2 s3 : Slot) : LEnv := [.val y, s1, s2, s3]
theorem isnt_tuple_none (n : Int) : m_is_tuple_of [.none, .int n] = some (.bool false) := by
  refine x_runF (e := startE 2 [.none, .int n]) ?_
  unfold b_is_tuple_of
  refine x_ret ?_
  have h1 : fOp1 (dIsa "tuple") (fPeek 0) (startE 2 [.none, .int n]) = some (.bool false, startE 2 [.none, .int n]) := x_op1 (x_peek rfl) (by
    show (kitB "NoneType" "tuple").map PyData.bool = _
    rw [show kitB "NoneType" "tuple" = some false by decide +kernel]
    rfl)
  exact x_andV (y := false) h1 (fun h => nomatch h) (fun _ => rfl)
theorem cy_none : m_check_yard [.none] = some (.er (badYard "yard")) := by
  refine xs_er (e := startE 4 [.none]) ?_
  unfold b_check_yard
  refine xs_ex (xs_raise (x_not (b := false) (x_test (x_call (x_cons (x_var rfl) (x_cons rfl rfl)) rfl (isnt_tuple_none 3)))) rfl)
section
variable {n g : Int} {t : D}
theorem cy_head (r : FlX) (h : (xSeq (xIf (fNot (fTest (fCall 3 m_is_from (fCons (fVar 1) (fCons (fC (.int 2)) (fCons (fC (.int 7)) fNil)))))) (xRaise (mField "BadYard" "part" (fC (.str "places")))) (xLift sNext)) (xSeq (xIf (fNot (fTest (fCall 2 m_are_ties (fCons (fVar 2) (fCons (fVar 1) fNil))))) (xRaise (mField "BadYard" "part" (fC (.str "ties")))) (xLift sNext)) (xIf (fNot (fTest (fCall 2 m_is_place (fCons (fVar 3) (fCons (fVar 1) fNil))))) (xRaise (mField "BadYard" "part" (fC (.str "gate")))) (xLift sNext))))
    (cyE (.tuple [.int n, t, .int g]) (.val (.int n)) (.val t) (.val (.int g))) = some r) : b_check_yard (cyE (.tuple [.int n, t, .int g]) .un .un .un) = some r := by
  unfold b_check_yard
  refine xs_go (e1 := cyE (.tuple [.int n, t, .int g]) .un .un .un) (xs_skip (x_not (b := true) (x_test (x_call (x_cons (x_var rfl) (x_cons rfl rfl)) rfl (v_is_tuple_of [.int n, t, .int g] 3))))) ?_
  exact xs_go (e1 := cyE (.tuple [.int n, t, .int g]) (.val (.int n)) (.val t) (.val (.int g))) (xs_lift rfl) h
theorem from_places (n : Int) : fNot (fTest (fCall 3 m_is_from (fCons (fVar 1) (fCons (fC (.int 2)) (fCons (fC (.int 7)) fNil))))) (cyE (.tuple [.int n, t, .int g]) (.val (.int n)) (.val t) (.val (.int g))) = some (!(decide (2 ≤ n) && decide (n ≤ 7)), cyE (.tuple [.int n, t, .int g]) (.val (.int n)) (.val t) (.val (.int g))) :=
  x_not (x_test (x_call (x_cons (x_var rfl) (x_cons rfl (x_cons rfl rfl))) rfl (v_is_from n 2 7)))
theorem cy_places (h : ¬ (2 ≤ n ∧ n ≤ 7)) : m_check_yard [.tuple [.int n, t, .int g]] = some (.er (badYard "places")) := by
  refine xs_er (e := cyE (.tuple [.int n, t, .int g]) (.val (.int n)) (.val t) (.val (.int g))) (cy_head _ ?_)
  refine xs_ex (xs_raise ((from_places n).trans ?_) rfl)
  have : (!(decide (2 ≤ n) && decide (n ≤ 7))) = true := by simp; omega
  rw [this]
theorem cy_ties (h2 : 2 ≤ n) (h7 : n ≤ 7) (ht : m_are_ties [t, .int n] = some (.bool false)) : m_check_yard [.tuple [.int n, t, .int g]] = some (.er (badYard "ties")) := by
  refine xs_er (e := cyE (.tuple [.int n, t, .int g]) (.val (.int n)) (.val t) (.val (.int g))) (cy_head _ ?_)
  have f : (!(decide (2 ≤ n) && decide (n ≤ 7))) = false := by simp; omega
  refine xs_go (xs_skip ((from_places n).trans (by rw [f]))) ?_
  exact xs_ex (xs_raise (x_not (b := false) (x_test (x_call (x_cons (x_var rfl) (x_cons (x_var rfl) rfl)) rfl ht))) rfl)
theorem cy_gate (h2 : 2 ≤ n) (h7 : n ≤ 7) (ht : m_are_ties [t, .int n] = some (.bool true)) (hg : ¬ (0 ≤ g ∧ g < n)) : m_check_yard [.tuple [.int n, t, .int g]] = some (.er (badYard "gate")) := by
  refine xs_er (e := cyE (.tuple [.int n, t, .int g]) (.val (.int n)) (.val t) (.val (.int g))) (cy_head _ ?_)
  have f : (!(decide (2 ≤ n) && decide (n ≤ 7))) = false := by simp; omega
  have k : (decide (0 ≤ g) && decide (g < n)) = false := by
    cases h : (decide (0 ≤ g) && decide (g < n)) with
    | false => rfl
    | true => simp at h; exact absurd h hg
  refine xs_go (xs_skip ((from_places n).trans (by rw [f]))) ?_
  refine xs_go (e1 := cyE (.tuple [.int n, t, .int g]) (.val (.int n)) (.val t) (.val (.int g))) (xs_skip (x_not (b := true) (x_test (x_call (x_cons (x_var rfl) (x_cons (x_var rfl) rfl)) rfl ht)))) ?_
  exact xs_raise (x_not (b := false) (x_test (x_call (x_cons (x_var rfl) (x_cons (x_var rfl) rfl)) rfl ((v_is_place g n).trans (by rw [k]))))) rfl
theorem cy_good (h2 : 2 ≤ n) (h7 : n ≤ 7) (ht : m_are_ties [t, .int n] = some (.bool true)) (hg : 0 ≤ g ∧ g < n) : m_check_yard [.tuple [.int n, t, .int g]] = some (.ok .none) := by
  refine xs_ok (e := cyE (.tuple [.int n, t, .int g]) (.val (.int n)) (.val t) (.val (.int g))) (cy_head _ ?_)
  have f : (!(decide (2 ≤ n) && decide (n ≤ 7))) = false := by simp; omega
  have k : (decide (0 ≤ g) && decide (g < n)) = true := by simp; exact hg
  refine xs_go (xs_skip ((from_places n).trans (by rw [f]))) ?_
  refine xs_go (e1 := cyE (.tuple [.int n, t, .int g]) (.val (.int n)) (.val t) (.val (.int g))) (xs_skip (x_not (b := true) (x_test (x_call (x_cons (x_var rfl) (x_cons (x_var rfl) rfl)) rfl ht)))) ?_
  exact xs_skip (x_not (b := true) (x_test (x_call (x_cons (x_var rfl) (x_cons (x_var rfl) rfl)) rfl ((v_is_place g n).trans (by rw [k])))))
end
abbrev yardD (n : Int) (ts : List Tie) (g : Int) : D := .tuple [.int n, .tuple (ts.map tieD), .int g]
theorem cy_web {n g : Int} {ts : List Tie} (W : Web n ts) (hg : 0 ≤ g ∧ g < n) : m_check_yard [yardD n ts g] = some (.ok .none) := cy_good W.n2 W.n7 ((ties_web W (Int.le_refl n)).trans (by simp)) hg
theorem ix3 (a b c : D) (k : Nat) (x : D) (h : [a, b, c][k]? = some x) : dIx (.tuple [a, b, c]) (.int k) = some x := by
  show L2.atI [a, b, c] (k : Int) = _
  have : k < [a, b, c].length := (List.getElem?_eq_some_iff.mp h).1
  rw [atI_nat _ k this, h]
end GL
/-! The law's own near and hanging. -/
namespace GL
open PySem L2 GR

theorem plainA_ints : ∀ xs : List Int, PyData.plainAll (intsL xs) = true := plain_ints
theorem ok_tints (xs : List Int) : okD (.tuple (intsL xs)) = true := by
  unfold okD
  rw [Bool.and_eq_true]
  refine ⟨?_, ?_⟩
  · show PyData.plain (.tuple (intsL xs)) = true
    simpa [PyData.plain] using plain_ints xs
  · have := depth_ints xs
    rw [decide_eq_true_eq]
    unfold PyData.depth
    omega
theorem any_ints (xs : List Int) (x : Int) : ((intsL xs).any fun y => PyData.eqv y (.int x)) = decide (x ∈ xs) := by
  induction xs with
  | nil => rfl
  | cons a xs ih =>
    show (PyData.eqv (.int a) (.int x) || ((intsL xs).any fun y => PyData.eqv y (.int x))) = _
    rw [ih, eqv_int]
    by_cases h : a = x
    · subst h; simp
    · have h' : ¬ x = a := fun z => h z.symm
      simp [h, h']
theorem in_list (x : Int) (xs : List Int) : dIn (.int x) (.list (intsL xs)) = some (.bool (decide (x ∈ xs))) := by
  unfold dIn dInB
  dsimp only
  rw [if_pos ⟨ok_int x, ok_ints xs⟩, any_ints]
  rfl
theorem in_tup (x : Int) (xs : List Int) : dIn (.int x) (.tuple (intsL xs)) = some (.bool (decide (x ∈ xs))) := by
  unfold dIn dInB
  dsimp only
  rw [if_pos ⟨ok_int x, ok_tints xs⟩, any_ints]
  rfl
theorem notin_list (x : Int) (xs : List Int) : dNotIn (.int x) (.list (intsL xs)) = some (.bool (!decide (x ∈ xs))) := by
  unfold dNotIn dInB
  dsimp only
  rw [if_pos ⟨ok_int x, ok_ints xs⟩, any_ints]
  rfl
theorem notin_tup (x : Int) (xs : List Int) : dNotIn (.int x) (.tuple (intsL xs)) = some (.bool (!decide (x ∈ xs))) := by
  unfold dNotIn dInB
  dsimp only
  rw [if_pos ⟨ok_int x, ok_tints xs⟩, any_ints]
  rfl
theorem sortI_mem {xs : List Int} {x : Int} : x ∈ sortI xs ↔ x ∈ xs := (List.mergeSort_perm _ _).mem_iff
def nearL (ts : List Tie) (p : Int) : List Int := sortI ((ts.filter fun t => decide (t.2 = p)).map (·.1) ++ (ts.filter fun t => decide (t.1 = p)).map (·.2))
theorem mem_near {ts : List Tie} {p x : Int} : x ∈ nearL ts p ↔ adj ts p x := by
  unfold nearL adj
  rw [sortI_mem, mem_beside, List.mem_append, List.mem_map, List.mem_map]
  constructor
  · rintro (⟨t, m, rfl⟩ | ⟨t, m, rfl⟩)
    · obtain ⟨m1, m2⟩ := List.mem_filter.mp m
      rw [← of_decide_eq_true m2]
      exact .inr m1
    · obtain ⟨m1, m2⟩ := List.mem_filter.mp m
      rw [← of_decide_eq_true m2]
      exact .inl m1
  · rintro (m | m)
    · exact .inr ⟨_, List.mem_filter.mpr ⟨m, by simp⟩, rfl⟩
    · exact .inl ⟨_, List.mem_filter.mpr ⟨m, by simp⟩, rfl⟩
theorem near_len (ts : List Tie) (p : Int) : (nearL ts p).length ≤ 2 * ts.length := by
  unfold nearL
  rw [sortI_len, List.length_append, List.length_map, List.length_map]
  have := List.length_filter_le (fun t : Tie => decide (t.2 = p)) ts
  have := List.length_filter_le (fun t : Tie => decide (t.1 = p)) ts
  omega
theorem law_near_is {x : D} {ts : List Tie} (hx : itemsD x = some (ts.map tieD)) (hl : ts.length ≤ 1000) (p : Int) : m__law_near [x, .int p] = some (.list (intsL (nearL ts p))) := by
  let E : LEnv := startE 4 [x, .int p]
  let ps : List (D × D) := ts.map fun t => (.int t.1, .int t.2)
  have hps : (ps.map fun q => PyData.tuple [q.1, q.2]) = ts.map tieD := by
    show List.map _ (List.map _ _) = _
    rw [List.map_map]
    rfl
  have it : fItems (fVar 0) E = some (ps.map fun q => .tuple [q.1, q.2], E) := by rw [hps]; exact x_items (x_var rfl) hx
  have t1 : ∀ q ∈ ps, fTest (fOp2 dEq (fVar 3) (fPeek 1)) ((E.set 2 (.val q.1)).set 3 (.val q.2)) = some ((match q.2 with | .int i => decide (i = p) | _ => false), (E.set 2 (.val q.1)).set 3 (.val q.2)) := by
    intro q m
    obtain ⟨t, _, rfl⟩ := List.mem_map.mp m
    exact x_test (x_op2 (x_var rfl) (x_peek rfl) (d_eq_int _ _))
  have t2 : ∀ q ∈ ps, fTest (fOp2 dEq (fVar 2) (fPeek 1)) ((E.set 2 (.val q.1)).set 3 (.val q.2)) = some ((match q.1 with | .int i => decide (i = p) | _ => false), (E.set 2 (.val q.1)).set 3 (.val q.2)) := by
    intro q m
    obtain ⟨t, _, rfl⟩ := List.mem_map.mp m
    exact x_test (x_op2 (x_var rfl) (x_peek rfl) (d_eq_int _ _))
  have l1 := lc2 (i := 2) (j := 3) (by decide) (e := fVar 2) (fun q => match q.2 with | .int i => decide (i = p) | _ => false) (fun q => q.1) it rfl (by simp only [ps, List.length_map]; omega) t1 (fun q _ _ => x_var rfl)
  have l2 := lc2 (i := 2) (j := 3) (by decide) (e := fVar 3) (fun q => match q.1 with | .int i => decide (i = p) | _ => false) (fun q => q.2) it rfl (by simp only [ps, List.length_map]; omega) t2 (fun q _ _ => x_var rfl)
  have e1 : (ps.filter fun q => match q.2 with | .int i => decide (i = p) | _ => false).map (fun q => q.1) = intsL ((ts.filter fun t => decide (t.2 = p)).map (·.1)) := by
    simp only [ps]
    rw [List.filter_map, List.map_map]
    unfold intsL
    rw [List.map_map]
    rfl
  have e2 : (ps.filter fun q => match q.1 with | .int i => decide (i = p) | _ => false).map (fun q => q.2) = intsL ((ts.filter fun t => decide (t.1 = p)).map (·.2)) := by
    simp only [ps]
    rw [List.filter_map, List.map_map]
    unfold intsL
    rw [List.map_map]
    rfl
  rw [e1] at l1
  rw [e2] at l2
  have f1 := List.length_filter_le (fun t : Tie => decide (t.2 = p)) ts
  have f2 := List.length_filter_le (fun t : Tie => decide (t.1 = p)) ts
  refine x_runF (e := E) ?_
  unfold b__law_near
  refine x_ret (x_op1 (x_op2 (x_list l1) (x_list l2) (z := .list (intsL ((ts.filter fun t => decide (t.2 = p)).map (·.1) ++ (ts.filter fun t => decide (t.1 = p)).map (·.2)))) ?_) ?_)
  · unfold dAdd
    dsimp only
    rw [if_pos]
    · unfold intsL
      rw [List.map_append]
    · unfold intsL
      simp only [List.length_map]
      omega
  · show dSortL _ = _
    exact dSortL_ints (by simp only [List.length_append, List.length_map]; omega) (ok_ints _)
end GL
/-! The order of ties. -/
namespace GL
open PySem L2 GR

theorem pair_nodup {ts : List Tie} (nd : ts.Nodup) (lt : ∀ t ∈ ts, t.1 < t.2) (p : Int) : (nearL ts p).Nodup := by
  unfold nearL sortI
  refine (List.mergeSort_perm _ _).nodup_iff.mpr (List.nodup_append.mpr ⟨?_, ?_, ?_⟩)
  · refine List.pairwise_map.mpr ((nd.filter _).imp_of_mem fun {a b} ma mb h z => h ?_)
    have e1 := of_decide_eq_true (List.mem_filter.mp ma).2
    have e2 := of_decide_eq_true (List.mem_filter.mp mb).2
    exact Prod.ext z (e1.trans e2.symm)
  · refine List.pairwise_map.mpr ((nd.filter _).imp_of_mem fun {a b} ma mb h z => h ?_)
    have e1 := of_decide_eq_true (List.mem_filter.mp ma).2
    have e2 := of_decide_eq_true (List.mem_filter.mp mb).2
    exact Prod.ext (e1.trans e2.symm) z
  · intro a ma b mb z
    obtain ⟨s, m1, rfl⟩ := List.mem_map.mp ma
    obtain ⟨t, m2, rfl⟩ := List.mem_map.mp mb
    have e1 := of_decide_eq_true (List.mem_filter.mp m1).2
    have e2 := of_decide_eq_true (List.mem_filter.mp m2).2
    have := lt s (List.mem_filter.mp m1).1
    have := lt t (List.mem_filter.mp m2).1
    omega
theorem tlt_nodup {ts : List Tie} (h : ts.Pairwise tlt) : ts.Nodup := h.imp fun {a b} h z => by
  subst z
  rcases h with h | ⟨_, h⟩ <;> omega
theorem Web.sm {n : Int} {ts : List Tie} (W : Web n ts) (p : Int) : (nearL ts p).Nodup := pair_nodup (tlt_nodup W.asc) (fun t m => (W.bd t m).2.1) p
/-! the order of ties -/
def sortT (xs : List Tie) : List Tie := xs.mergeSort fun a b => !lexT b a
theorem sort_tiesD (xs : List Tie) : sortD (xs.map tieD) = (sortT xs).map tieD := by
  unfold sortD sortT
  rw [List.map_mergeSort]
  intro a _ b _
  show _ = (!PySem.W.dataLt (tieD b) (tieD a))
  rw [lt_tie]
theorem depth_tie (t : Tie) : PyData.depth (tieD t) ≤ 2 := by
  have := depth_ints [t.1, t.2]
  show PyData.depth (.tuple (intsL [t.1, t.2])) ≤ 2
  unfold PyData.depth
  omega
theorem depthA_ties : ∀ xs : List Tie, PyData.depthAll (xs.map tieD) ≤ 2
  | [] => by decide
  | t :: xs => by
    have h1 := depth_tie t
    have h2 := depthA_ties xs
    show max (PyData.depth (tieD t)) (PyData.depthAll (xs.map tieD)) ≤ 2
    omega
theorem plainA_ties : ∀ xs : List Tie, PyData.plainAll (xs.map tieD) = true
  | [] => rfl
  | t :: xs => by
    show (PyData.plain (tieD t) && PyData.plainAll (xs.map tieD)) = true
    rw [plainA_ties xs]
    rfl
theorem ok_ties (xs : List Tie) : okD (.list (xs.map tieD)) = true := by
  unfold okD
  rw [Bool.and_eq_true]
  refine ⟨?_, ?_⟩
  · have := plainA_ties xs
    simpa [PyData.plain] using this
  · have := depthA_ties xs
    rw [decide_eq_true_eq]
    unfold PyData.depth
    omega
theorem dSortL_ties {xs : List Tie} (hl : xs.length ≤ 1000000) : dSortL (xs.map tieD) = some (.list ((sortT xs).map tieD)) := by
  have a1 : alikes (xs.map tieD) = true := by
    unfold alikes
    simp only [List.all_map, List.all_eq_true, Function.comp]
    intro x _ y _
    rfl
  have a2 : sortable (xs.map tieD) = true := by
    unfold sortable
    rw [Bool.or_eq_true]
    left
    rw [List.all_map, List.all_eq_true]
    intro x _
    rfl
  unfold dSortL
  rw [if_pos ⟨a1, a2, ok_ties xs, by rw [List.length_map]; exact hl⟩, sort_tiesD]
theorem lexT_total (a b : Tie) : ((!lexT b a) || (!lexT a b)) = true := by
  unfold lexT
  by_cases h : a.1 < b.1
  · have : ¬ b.1 < a.1 := by omega
    have : ¬ b.1 = a.1 := by omega
    simp [*]
  · by_cases h2 : a.1 = b.1
    · simp [h2]
      omega
    · simp [h, h2]
theorem not_lexT {a b : Tie} : (!lexT b a) = true ↔ (a.1 < b.1 ∨ (a.1 = b.1 ∧ a.2 ≤ b.2)) := by
  unfold lexT
  rw [Bool.not_eq_true']
  simp only [Bool.or_eq_false_iff, Bool.and_eq_false_iff, decide_eq_false_iff_not]
  omega
theorem sortT_sorted (xs : List Tie) : (sortT xs).Pairwise fun a b => (!lexT b a) = true :=
  List.pairwise_mergeSort (fun a b c h1 h2 => by
    rw [not_lexT] at h1 h2 ⊢
    omega) (fun a b => lexT_total a b) xs
theorem sortT_is {xs L : List Tie} (nd : xs.Nodup) (hL : L.Pairwise tlt) (h : ∀ t, t ∈ xs ↔ t ∈ L) : sortT xs = L := by
  refine List.Perm.eq_of_pairwise (le := fun a b => (!lexT b a) = true) (fun a b _ _ h1 h2 => ?_) (sortT_sorted xs) (hL.imp fun {a b} h => ?_) ?_
  · rw [not_lexT] at h1 h2
    exact Prod.ext (by omega) (by omega)
  · rw [not_lexT]
    rcases h with h | ⟨h, h'⟩
    · exact .inl h
    · exact .inr ⟨h, by omega⟩
  · exact (List.mergeSort_perm _ _).trans ((List.perm_ext_iff_of_nodup nd (tlt_nodup hL)).mpr h)
end GL
/-! The places. -/
namespace GL
open PySem L2 GR

def placesL (n : Int) : List Int := (List.range n.toNat).map fun i : Nat => (i : Int)
theorem mem_places {n x : Int} : x ∈ placesL n ↔ 0 ≤ x ∧ x < n := by
  unfold placesL
  rw [List.mem_map]
  constructor
  · rintro ⟨i, mi, rfl⟩
    have := List.mem_range.mp mi
    omega
  · intro hx
    exact ⟨x.toNat, List.mem_range.mpr (by omega), by omega⟩
theorem places_asc (n : Int) : (placesL n).Pairwise (· < ·) := List.pairwise_map.mpr (List.pairwise_lt_range.imp fun h => by omega)
theorem asc_nodup {xs : List Int} (h : xs.Pairwise (· < ·)) : xs.Nodup := h.imp fun h z => by omega
theorem places_len {n : Int} : (placesL n).length = n.toNat := by unfold placesL; rw [List.length_map, List.length_range]
theorem range_places (n : Int) : rangeD 0 n.toNat = intsL (placesL n) := by
  unfold rangeD intsL placesL
  rw [List.map_map]
  refine List.map_congr_left fun i _ => ?_
  show PyData.int (0 + (i : Int)) = PyData.int (i : Int)
  rw [Int.zero_add]
end GL
/-! Equal data. -/
namespace GL
open PySem L2 GR

theorem eqv_ints : ∀ a b : List Int, PyData.eqvAll (intsL a) (intsL b) = decide (a = b)
  | [], [] => by simp [intsL, PyData.eqvAll]
  | [], _ :: _ => by simp [intsL, PyData.eqvAll]
  | _ :: _, [] => by simp [intsL, PyData.eqvAll]
  | x :: a, y :: b => by
    show (PyData.eqv (.int x) (.int y) && PyData.eqvAll (intsL a) (intsL b)) = _
    rw [eqv_ints a b, eqv_int]
    by_cases h : x = y
    · by_cases h2 : a = b
      · simp [h, h2]
      · simp [h, h2]
    · simp [h]
theorem eqv_tup (a b : List Int) : PyData.eqv (tupI a) (tupI b) = decide (a = b) := by
  have := eqv_ints a b
  show PyData.eqv (.tuple (intsL a)) (.tuple (intsL b)) = _
  simpa [PyData.eqv] using this
theorem ok_tup1 (a : List Int) : okD (tupI a) = true := ok_tints a
theorem ne_tup (a b : List Int) : dNe (tupI a) (tupI b) = some (.bool (!decide (a = b))) := by
  unfold dNe
  rw [if_pos ⟨ok_tup1 a, ok_tup1 b⟩, eqv_tup]
theorem eq_nil {xs : List D} (h : okD (.list xs) = true) : dEq (.list xs) (.list []) = some (.bool xs.isEmpty) := by
  unfold dEq
  rw [if_pos ⟨h, rfl⟩]
  cases xs with
  | nil => simp [PyData.eqv, PyData.eqvAll]
  | cons a xs => simp [PyData.eqv, PyData.eqvAll]
theorem ne_int (p q : Int) : dNe (.int p) (.int q) = some (.bool (!decide (p = q))) := by
  unfold dNe
  rw [if_pos ⟨ok_int p, ok_int q⟩, eqv_int]
end GL
/-! alike. -/
namespace GL
open PySem L2 GR

/-! alike -/
theorem x_ifV {t : SemB} {a b : Sem} {env e1 : LEnv} {c : Bool} (h : t env = some (c, e1)) : fIf t a b env = if c = true then a e1 else b e1 := by
  unfold fIf; rw [h]; rfl
theorem isa2_tup (ds : List D) : dIsa2 "tuple" "list" (.tuple ds) = some (.bool true) := by
  show (kitB "tuple" "tuple").bind (fun a => (kitB "tuple" "list").map fun b => PyData.bool (a || b)) = _
  rw [show kitB "tuple" "tuple" = some true by decide +kernel, show kitB "tuple" "list" = some false by decide +kernel]
  rfl
theorem isa2_int (i : Int) : dIsa2 "tuple" "list" (.int i) = some (.bool false) := by
  show (kitB "int" "tuple").bind (fun a => (kitB "int" "list").map fun b => PyData.bool (a || b)) = _
  rw [show kitB "int" "tuple" = some false by decide +kernel, show kitB "int" "list" = some false by decide +kernel]
  rfl
theorem isa_list_tup (ds : List D) : dIsa "list" (.tuple ds) = some (.bool false) := by
  show (kitB "tuple" "list").map PyData.bool = _
  rw [show kitB "tuple" "list" = some false by decide +kernel]
  rfl
theorem isa_str_int (i : Int) : dIsa "str" (.int i) = some (.bool false) := by
  show (kitB "int" "str").map PyData.bool = _
  rw [show kitB "int" "str" = some false by decide +kernel]
  rfl
theorem bool_eq (a b : Bool) : dEq (.bool a) (.bool b) = some (.bool (a == b)) := by
  unfold dEq
  rw [if_pos ⟨rfl, rfl⟩]
  cases a <;> cases b <;> rfl
theorem bool_ne (a b : Bool) : dNe (.bool a) (.bool b) = some (.bool (!(a == b))) := by
  unfold dNe
  rw [if_pos ⟨rfl, rfl⟩]
  cases a <;> cases b <;> rfl
theorem alike_int (k : Nat) (i : Int) : m__law_alike (k + 1) [.int i, .int i] = some (.bool true) := by
  let E : LEnv := startE 3 [.int i, .int i]
  refine x_runF (e := E) ?_
  unfold b__law_alike
  have t1 : fTest (fOp1 (dIsa2 "tuple" "list") (fPeek 1)) E = some (false, E) := x_test (x_op1 (x_peek rfl) (isa2_int i))
  have t2 : fOr (fTest (fOp2 dIsN (fVar 1) (fC .none))) (fTest (fOp1 (dIsa "str") (fPeek 1))) E = some (false, E) := x_or (b := false) (c := false) (x_test (x_op2 (x_var rfl) rfl rfl)) fun _ => x_test (x_op1 (x_peek rfl) (isa_str_int i))
  refine x_go (e1 := E) (by rw [x_if t1]; rfl) (x_go (e1 := E) (by rw [x_if t2]; rfl) (x_ret ?_))
  have v1 : fOp1 (dIsa "int") (fPeek 0) E = some (.bool true, E) := x_op1 (x_peek rfl) (isa_int i)
  have v2 : fOp2 dEq (fOp1 (dIsa "bool") (fPeek 0)) (fOp1 (dIsa "bool") (fPeek 1)) E = some (.bool true, E) := x_op2 (x_op1 (x_peek rfl) (isa_int_bool i)) (x_op1 (x_peek rfl) (isa_int_bool i)) (bool_eq false false)
  have v3 : fOp2 dEq (fVar 0) (fPeek 1) E = some (.bool true, E) := x_op2 (x_var rfl) (x_peek rfl) ((d_eq_int i i).trans (by simp))
  exact x_andV (x := true) (y := true) v1 (fun _ => x_andV (x := true) (y := true) v2 (fun _ => v3) (fun h => nomatch h)) (fun h => nomatch h)
theorem alike_tup (k : Nat) (ds : List D) (hl : ds.length ≤ 1000) (h : ∀ d ∈ ds, m__law_alike k [d, d] = some (.bool true)) : m__law_alike (k + 1) [.tuple ds, .tuple ds] = some (.bool true) := by
  let E : LEnv := startE 3 [.tuple ds, .tuple ds]
  refine x_runF (e := E) ?_
  unfold b__law_alike
  have t1 : fTest (fOp1 (dIsa2 "tuple" "list") (fPeek 1)) E = some (true, E) := x_test (x_op1 (x_peek rfl) (isa2_tup ds))
  have t2 : fOr (fNot (fTest (fOp1 (dIsa2 "tuple" "list") (fPeek 0)))) (fTest (fOp2 dNe (fOp1 (dIsa "list") (fPeek 0)) (fOp1 (dIsa "list") (fPeek 1)))) E = some (false, E) :=
    x_or (b := false) (c := false) (x_not (b := true) (x_test (x_op1 (x_peek rfl) (isa2_tup ds)))) fun _ => x_test (x_op2 (x_op1 (x_peek rfl) (isa_list_tup ds)) (x_op1 (x_peek rfl) (isa_list_tup ds)) (bool_ne false false))
  have t3 : fTest (fOp2 dNe (fOp1 dLen (fPeek 0)) (fOp1 dLen (fPeek 1))) E = some (false, E) := x_test (x_op2 (x := .int ds.length) (y := .int ds.length) (x_op1 (x_peek rfl) rfl) (x_op1 (x_peek rfl) rfl) ((ne_int _ _).trans (by simp)))
  refine x_seqR ?_
  rw [x_if t1, if_pos rfl]
  refine x_go (e1 := E) (by rw [x_if t2]; rfl) (x_go (e1 := E) (by rw [x_if t3]; rfl) (x_ret ?_))
  have lc := lc1 (i := 2) (t := fNot (fTest (fCall 2 (m__law_alike k) (fCons (fOp2N dIx 0 (fPeek 2)) (fCons (fOp2N dIx 1 (fPeek 2)) fNil))))) (e := fVar 2) (env := E) (env1 := E) (fi := fRange1 (fOp1 dLen (fPeek 1))) (ds := intsL (placesL ds.length)) (fun _ => false) (fun d => d)
    (by rw [x_range1 (n := ds.length) (x_op1 (x_peek (d := .tuple ds) rfl) rfl) (by omega) (by omega), range_places]) rfl (by unfold intsL; rw [List.length_map, places_len]; omega) (fun d m => by
      obtain ⟨i, mi, rfl⟩ := List.mem_map.mp m
      have hi := mem_places.mp mi
      obtain ⟨j, rfl⟩ : ∃ j : Nat, i = (j : Int) := ⟨i.toNat, by omega⟩
      have hj : j < ds.length := by omega
      have ix : dIx (.tuple ds) (.int (j : Int)) = some ds[j] := by
        show L2.atI ds (j : Int) = _
        rw [atI_nat ds j hj, List.getElem?_eq_getElem hj]
      exact x_not (b := true) (x_test (x_call (x_cons (x_op2N (x0 := .tuple ds) (x := .tuple ds) rfl (x_peek (d := .int (j : Int)) rfl) rfl ix) (x_cons (x_op2N (x0 := .tuple ds) (x := .tuple ds) rfl (x_peek (d := .int (j : Int)) rfl) rfl ix) rfl)) rfl (h _ (List.getElem_mem hj))))) (fun d _ hf => nomatch hf)
  have e1 : ((intsL (placesL ds.length)).filter fun _ => false).map (fun d => d) = [] := by simp
  rw [e1] at lc
  exact x_op2 (x_list lc) (x_lst rfl (by simp)) (eq_nil rfl)
theorem alike_ints4 (k : Nat) (xs : List Int) (hl : xs.length ≤ 1000) : m__law_alike (k + 2) [tupI xs, tupI xs] = some (.bool true) :=
  alike_tup (k + 1) _ (by rw [List.length_map]; exact hl) fun d m => by
    obtain ⟨i, _, rfl⟩ := List.mem_map.mp m
    exact alike_int k i
theorem alike_tups4 (xs : List (List Int)) (hl : xs.length ≤ 1000) (h : ∀ x ∈ xs, x.length ≤ 1000) : m__law_alike 4 [.tuple (xs.map tupI), .tuple (xs.map tupI)] = some (.bool true) :=
  alike_tup 3 _ (by rw [List.length_map]; exact hl) fun d m => by
    obtain ⟨i, mi, rfl⟩ := List.mem_map.mp m
    exact alike_ints4 1 i (h i mi)
theorem eq_str (s : Str) : dEq (.str s) (.str s) = some (.bool true) := by
  unfold dEq
  rw [if_pos ⟨rfl, rfl⟩]
  simp [PyData.eqv]
theorem ne_str (s : Str) : dNe (.str s) (.str s) = some (.bool false) := by
  unfold dNe
  rw [if_pos ⟨rfl, rfl⟩]
  simp [PyData.eqv]
end GL
/-! Standings: as data, as keys; slides; what may be drawn. -/
namespace GL
open PySem L2 GR

abbrev St := List (Option Int)
def cD : Option Int → D
  | none => .none
  | some b => .int b
def stD (S : St) : D := .tuple (S.map cD)
def cK : Option Int → NKey
  | none => .none
  | some b => .num b
def stK (S : St) : NKey := .tup (S.map cK)
theorem cK_inj {a b : Option Int} (h : cK a = cK b) : a = b := by
  cases a <;> cases b <;> first | rfl | cases h
  rfl
theorem stK_inj {S T : St} (h : stK S = stK T) : S = T := by
  unfold stK at h
  injection h with h
  exact List.map_inj_right (fun _ _ => cK_inj) |>.mp h
theorem nk_c (c : Option Int) : nkOf (cD c) = some (cK c) := by
  cases c <;> simp [cD, cK, nkOf]
theorem nks_is : ∀ S : St, nkOfs (S.map cD) = some (S.map cK)
  | [] => by simp [nkOfs]
  | c :: S => by
    rw [List.map_cons, nkOfs, nk_c, nks_is S]
    rfl
theorem depthA_c : ∀ S : St, NestedKey.depthAll (S.map cK) ≤ 1
  | [] => by simp [NestedKey.depthAll]
  | c :: S => by
    have := depthA_c S
    rw [List.map_cons, NestedKey.depthAll]
    cases c <;> simp [cK, NestedKey.depth] <;> omega
theorem tk_st (S : St) : tkOf (stD S) = some (stK S) := by
  show (nkOf (.tuple (S.map cD))).bind (fun k => if k.depth ≤ 8 then some k else none) = _
  rw [nkOf, nks_is]
  show (if (NestedKey.tup (S.map cK)).depth ≤ 8 then some (NestedKey.tup (S.map cK)) else none) = some (stK S)
  rw [if_pos]
  · rfl
  · have := depthA_c S
    rw [NestedKey.depth]
    omega
theorem data_c (c : Option Int) : (cK c).data = cD c := by cases c <;> simp [cK, cD, NestedKey.data]
theorem datas_c : ∀ S : St, NestedKey.datas (S.map cK) = S.map cD
  | [] => by simp [NestedKey.datas]
  | c :: S => by rw [List.map_cons, NestedKey.datas, data_c, datas_c S]; rfl
theorem data_st (S : St) : (stK S).data = stD S := by
  unfold stK stD
  rw [NestedKey.data, datas_c]
/-! what stands at a place -/
def stAt (S : St) (p : Int) : Option (Option Int) := if 0 ≤ p then S[p.toNat]? else none
theorem ix_st (S : St) (p : Int) (h : 0 ≤ p) : dIx (stD S) (.int p) = (S[p.toNat]?).map cD := by
  show L2.atI (S.map cD) p = _
  by_cases hl : p.toNat < S.length
  · rw [show p = ((p.toNat : Nat) : Int) by omega, atI_nat _ _ (by rw [List.length_map]; omega), List.getElem?_map]
    rfl
  · rw [List.getElem?_eq_none (by omega)]
    unfold L2.atI L2.ixN
    have h1 : ¬ p < (S.length : Int) := by omega
    simp [h, h1]
/-! slides -/
/-- slide t = (from, to): the book goes -/
def mvL (S : St) (t : Tie) : St := (S.set t.2.toNat (S[t.1.toNat]?.getD none)).set t.1.toNat none
/-- a slide that can be done -/
def Sl (n : Int) (ts : List Tie) (S : St) (t : Tie) : Prop := 0 ≤ t.1 ∧ t.1 < n ∧ 0 ≤ t.2 ∧ t.2 < n ∧ adj ts t.1 t.2 ∧ (∃ b, S[t.1.toNat]? = some (some b)) ∧ S[t.2.toNat]? = some none
def isBk (S : St) (p : Int) : Bool := match S[p.toNat]? with
  | some (some _) => true
  | _ => false
def isHo (S : St) (p : Int) : Bool := match S[p.toNat]? with
  | some none => true
  | _ => false
/-- the slides, in order: as the law makes them -/
def slL (ts : List Tie) (S : St) : List Tie := (List.range S.length).flatMap fun p : Nat => if isBk S p = true then ((nearL ts p).filter fun q => isHo S q).map fun q => ((p : Int), q) else []
theorem isBk_iff {S : St} {p : Int} : isBk S p = true ↔ ∃ b, S[p.toNat]? = some (some b) := by
  unfold isBk
  split
  · rename_i b h; exact ⟨fun _ => ⟨b, h⟩, fun _ => rfl⟩
  · rename_i h; exact ⟨fun z => (nomatch z), fun ⟨b, z⟩ => absurd z (h b)⟩
theorem isHo_iff {S : St} {p : Int} : isHo S p = true ↔ S[p.toNat]? = some none := by
  unfold isHo
  split
  · rename_i h; exact ⟨fun _ => h, fun _ => rfl⟩
  · rename_i h; exact ⟨fun z => (nomatch z), fun z => absurd z h⟩
theorem adj_bd {n : Int} {ts : List Tie} (W : Web n ts) {a b : Int} (h : adj ts a b) : 0 ≤ a ∧ a < n ∧ 0 ≤ b ∧ b < n := by
  rcases mem_beside.mp h with m | m
  · have := W.bd _ m; dsimp only at this; omega
  · have := W.bd _ m; dsimp only at this; omega
theorem mem_sl {n : Int} {ts : List Tie} (W : Web n ts) {S : St} (hl : (S.length : Int) = n) {t : Tie} : t ∈ slL ts S ↔ Sl n ts S t := by
  unfold slL
  rw [List.mem_flatMap]
  constructor
  · rintro ⟨p, mp, h⟩
    have := List.mem_range.mp mp
    split at h
    · rename_i hb
      obtain ⟨q, mq, rfl⟩ := List.mem_map.mp h
      obtain ⟨m1, m2⟩ := List.mem_filter.mp mq
      have a := mem_near.mp m1
      have b := adj_bd W a
      exact ⟨b.1, b.2.1, b.2.2.1, b.2.2.2, a, isBk_iff.mp hb, isHo_iff.mp m2⟩
    · cases h
  · rintro ⟨h1, h2, h3, h4, a, hb, hh⟩
    refine ⟨t.1.toNat, List.mem_range.mpr (by omega), ?_⟩
    have e : ((t.1.toNat : Nat) : Int) = t.1 := by omega
    rw [e, if_pos (isBk_iff.mpr hb)]
    exact List.mem_map.mpr ⟨t.2, List.mem_filter.mpr ⟨mem_near.mpr a, isHo_iff.mpr hh⟩, rfl⟩
theorem sortI_pw (xs : List Int) : (sortI xs).Pairwise fun a b => a ≤ b := by
  have := List.pairwise_mergeSort (le := fun a b : Int => decide (a ≤ b)) (fun a b c h1 h2 => by simp at *; omega) (fun a b => by simp; omega) xs
  exact this.imp fun h => by simpa using h
theorem near_lt {n : Int} {ts : List Tie} (W : Web n ts) (p : Int) : (nearL ts p).Pairwise fun a b => a < b := by
  have h1 : (nearL ts p).Pairwise fun a b => a ≤ b := sortI_pw _
  have h2 : (nearL ts p).Pairwise fun a b => a ≠ b := W.sm p
  refine (List.Pairwise.and h1 h2).imp fun {a b} h => ?_
  have := h.1; have := h.2; omega
theorem slL_pw {n : Int} {ts : List Tie} (W : Web n ts) (S : St) : (slL ts S).Pairwise tlt := by
  unfold slL
  rw [List.pairwise_flatMap]
  refine ⟨fun p _ => ?_, ?_⟩
  · split
    · rw [List.pairwise_map]
      exact ((near_lt W p).filter _).imp fun {a b} h => .inr ⟨rfl, h⟩
    · exact .nil
  · have : (List.range S.length).Pairwise fun a b => a < b := List.pairwise_lt_range
    refine this.imp ?_
    intro a b h x hx y hy
    split at hx
    · obtain ⟨q, _, rfl⟩ := List.mem_map.mp hx
      split at hy
      · obtain ⟨q', _, rfl⟩ := List.mem_map.mp hy
        exact .inl (by show (a : Int) < (b : Int); omega)
      · cases hy
    · cases hx
end GL
/-! slides_at, and the law's slides; what a slide makes. -/
namespace GL
open PySem L2 GR

def saT (S : St) (t : Tie) : List Tie := (if (isBk S t.1 && isHo S t.2) = true then [(t.1, t.2)] else []) ++ (if (isHo S t.1 && isBk S t.2) = true then [(t.2, t.1)] else [])
def saF (S : St) (ts : List Tie) : List Tie := ts.flatMap (saT S)
theorem saT_mem {S : St} {t x : Tie} : x ∈ saT S t ↔ (x = (t.1, t.2) ∧ isBk S t.1 = true ∧ isHo S t.2 = true) ∨ (x = (t.2, t.1) ∧ isHo S t.1 = true ∧ isBk S t.2 = true) := by
  unfold saT
  rw [List.mem_append]
  constructor
  · rintro (h | h)
    · split at h
      · rename_i c
        rw [Bool.and_eq_true] at c
        exact .inl ⟨List.mem_singleton.mp h, c⟩
      · cases h
    · split at h
      · rename_i c
        rw [Bool.and_eq_true] at c
        exact .inr ⟨List.mem_singleton.mp h, c⟩
      · cases h
  · rintro (⟨e, a, b⟩ | ⟨e, a, b⟩)
    · exact .inl (by rw [a, b, e]; exact List.mem_cons_self)
    · exact .inr (by rw [a, b, e]; exact List.mem_cons_self)
theorem bk_ho {S : St} {p : Int} (h : isBk S p = true) (h' : isHo S p = true) : False := by
  obtain ⟨b, e⟩ := isBk_iff.mp h
  rw [isHo_iff.mp h'] at e
  cases e
theorem saF_mem {n : Int} {ts : List Tie} (W : Web n ts) {S : St} {x : Tie} : x ∈ saF S ts ↔ Sl n ts S x := by
  unfold saF
  rw [List.mem_flatMap]
  constructor
  · rintro ⟨t, mt, h⟩
    have b := W.bd t mt
    rcases saT_mem.mp h with ⟨e, h1, h2⟩ | ⟨e, h1, h2⟩
    · subst e
      exact ⟨b.1, by show t.1 < n; omega, by show 0 ≤ t.2; omega, b.2.2, mem_beside.mpr (.inl mt), isBk_iff.mp h1, isHo_iff.mp h2⟩
    · subst e
      exact ⟨by show 0 ≤ t.2; omega, b.2.2, b.1, by show t.1 < n; omega, mem_beside.mpr (.inr mt), isBk_iff.mp h2, isHo_iff.mp h1⟩
  · rintro ⟨_, _, _, _, a, hb, hh⟩
    rcases mem_beside.mp a with m | m
    · exact ⟨_, m, saT_mem.mpr (.inl ⟨rfl, isBk_iff.mpr hb, isHo_iff.mpr hh⟩)⟩
    · exact ⟨_, m, saT_mem.mpr (.inr ⟨rfl, isHo_iff.mpr hh, isBk_iff.mpr hb⟩)⟩
theorem saT_len (S : St) (t : Tie) : (saT S t).length ≤ 1 := by
  unfold saT
  cases h1 : (isBk S t.1 && isHo S t.2) <;> cases h2 : (isHo S t.1 && isBk S t.2) <;> simp
  rw [Bool.and_eq_true] at h1 h2
  exact bk_ho h1.1 h2.1
theorem saF_len (S : St) : ∀ ts : List Tie, (saF S ts).length ≤ ts.length
  | [] => Nat.le_refl _
  | t :: ts => by
    have h1 := saT_len S t
    have h2 := saF_len S ts
    show (saT S t ++ saF S ts).length ≤ _
    rw [List.length_append, List.length_cons]
    omega
theorem saF_nd {n : Int} {ts : List Tie} (W : Web n ts) (S : St) : (saF S ts).Nodup := by
  unfold saF List.Nodup
  rw [List.pairwise_flatMap]
  refine ⟨fun t _ => ?_, ?_⟩
  · have := saT_len S t
    match h : saT S t with
    | [] => exact .nil
    | [x] => exact List.pairwise_singleton _ _
    | x :: y :: r => rw [h] at this; simp at this
  · refine List.Pairwise.imp_of_mem ?_ W.asc
    intro t u mt mu h x hx y hy z
    subst z
    have b1 := W.bd t mt
    have b2 := W.bd u mu
    have ne : ¬ (t.1 = u.1 ∧ t.2 = u.2) := fun z => by rcases h with h | h <;> omega
    rcases saT_mem.mp hx with ⟨e, _⟩ | ⟨e, _⟩ <;> rcases saT_mem.mp hy with ⟨e', _⟩ | ⟨e', _⟩ <;> rw [e] at e' <;> injection e' with e1 e2 <;> omega
theorem slL_sort {n : Int} {ts : List Tie} (W : Web n ts) {S : St} (hl : (S.length : Int) = n) : sortT (saF S ts) = slL ts S :=
  sortT_is (saF_nd W S) (slL_pw W S) fun t => (saF_mem W).trans (mem_sl W hl).symm
abbrev saE (y : D) (S : St) (s2 s3 s4 : Slot) : LEnv := [.val y, .val (stD S), s2, s3, s4]
theorem notN_c (c : Option Int) : dNotN (cD c) .none = some (.bool c.isSome) := by cases c <;> rfl
theorem isN_c (c : Option Int) : dIsN (cD c) .none = some (.bool c.isNone) := by cases c <;> rfl
theorem at_ok {n : Int} {S : St} (hl : (S.length : Int) = n) {p : Int} (h : 0 ≤ p) (h' : p < n) : ∃ c, S[p.toNat]? = some c ∧ dIx (stD S) (.int p) = some (cD c) ∧ isBk S p = c.isSome ∧ isHo S p = c.isNone := by
  obtain ⟨c, hc⟩ : ∃ c, S[p.toNat]? = some c := ⟨_, List.getElem?_eq_getElem (by omega)⟩
  refine ⟨c, hc, by rw [ix_st S p h, hc]; rfl, ?_, ?_⟩
  · unfold isBk; rw [hc]; cases c <;> rfl
  · unfold isHo; rw [hc]; cases c <;> rfl
theorem slides_at_is {n : Int} {ts : List Tie} (W : Web n ts) {S : St} (hl : (S.length : Int) = n) : m_slides_at [.tuple (ts.map tieD), stD S] = some (.list ((slL ts S).map tieD)) := by
  let y : D := .tuple (ts.map tieD)
  have few := W.few
  obtain ⟨e', h1, s3, s4, h2, h3, h4⟩ := x_forM (α := Tie) tieD (g := tgTup 2 (tgCons (tgName 3) (tgCons (tgName 4) tgNil))) (b := (sSeq (sIf (fAnd (fTest (fOp2 dNotN (fOp2N dIx 1 (fPeek 3)) (fC .none))) (fTest (fOp2 dIsN (fOp2N dIx 1 (fPeek 4)) (fC .none)))) (sExpr (sAppend 2 (fTup (fCons (fVar 3) (fCons (fVar 4) fNil))))) sNext) (sIf (fAnd (fTest (fOp2 dIsN (fOp2N dIx 1 (fPeek 3)) (fC .none))) (fTest (fOp2 dNotN (fOp2N dIx 1 (fPeek 4)) (fC .none)))) (sExpr (sAppend 2 (fTup (fCons (fVar 4) (fCons (fVar 3) fNil))))) sNext)))
    (fun a en => ∃ s3 s4, en = saE y S (.ol ((saF S a).map tieD)) s3 s4 ∧ owns s3 = false ∧ owns s4 = false) ts (saE y S (.ol []) .un .un) ⟨.un, .un, rfl, rfl, rfl⟩
    (fun a x r en hx ⟨s3, s4, e1, o3, o4⟩ => by
      subst e1
      obtain ⟨one, other⟩ := x
      have mx : (one, other) ∈ ts := by rw [hx]; simp
      have b := W.bd _ mx
      dsimp only at b
      obtain ⟨c1, _, i1, k1, z1⟩ := at_ok hl (p := one) b.1 (by omega)
      obtain ⟨c2, _, i2, k2, z2⟩ := at_ok hl (p := other) (by omega) b.2.2
      have al : (saF S a).length < 1000000 := by
        have := saF_len S a
        have : a.length ≤ ts.length := by rw [hx]; simp
        omega
      have n3 : noRow (saE y S (.ol ((saF S a).map tieD)) s3 s4) 3 = true := noRow_own (s := s3) rfl o3
      have n4 : noRow (saE y S (.ol ((saF S a).map tieD)) (.val (.int one)) s4) 4 = true := noRow_own (s := s4) rfl o4
      let E : List Tie → LEnv := fun f => saE y S (.ol (f.map tieD)) (.val (.int one)) (.val (.int other))
      have tN : ∀ f, fAnd (fTest (fOp2 dNotN (fOp2N dIx 1 (fPeek 3)) (fC .none))) (fTest (fOp2 dIsN (fOp2N dIx 1 (fPeek 4)) (fC .none))) (E f) = some (c1.isSome && c2.isNone, E f) := fun f =>
        x_and (x_test (x_op2 (x_op2N (x0 := stD S) (x := stD S) rfl (x_peek rfl) rfl i1) rfl (notN_c c1))) fun _ => x_test (x_op2 (x_op2N (x0 := stD S) (x := stD S) rfl (x_peek rfl) rfl i2) rfl (isN_c c2))
      have tM : ∀ f, fAnd (fTest (fOp2 dIsN (fOp2N dIx 1 (fPeek 3)) (fC .none))) (fTest (fOp2 dNotN (fOp2N dIx 1 (fPeek 4)) (fC .none))) (E f) = some (c1.isNone && c2.isSome, E f) := fun f =>
        x_and (x_test (x_op2 (x_op2N (x0 := stD S) (x := stD S) rfl (x_peek rfl) rfl i1) rfl (isN_c c1))) fun _ => x_test (x_op2 (x_op2N (x0 := stD S) (x := stD S) rfl (x_peek rfl) rfl i2) rfl (notN_c c2))
      have ap : ∀ f, f.length < 1000000 → ∀ t : Tie, ∀ fa : Sem, fa (E f) = some (tieD t, E f) → sExpr (sAppend 2 fa) (E f) = some (.nx (E (f ++ [t]))) := fun f hf t fa hfa =>
        x_expr (x_append (e1 := E f) (ds0 := f.map tieD) (ds := f.map tieD) rfl hfa rfl (by rw [List.length_map]; exact hf) (by show saE y S (.ol (f.map tieD ++ [tieD t])) _ _ = saE y S (.ol ((f ++ [t]).map tieD)) _ _; rw [List.map_append]; rfl))
      have u1 : ∀ f, fTup (fCons (fVar 3) (fCons (fVar 4) fNil)) (E f) = some (tieD (one, other), E f) := fun f => x_tup (x_cons (x_var rfl) (x_cons (x_var rfl) rfl)) (by simp)
      have u2 : ∀ f, fTup (fCons (fVar 4) (fCons (fVar 3) fNil)) (E f) = some (tieD (other, one), E f) := fun f => x_tup (x_cons (x_var rfl) (x_cons (x_var rfl) rfl)) (by simp)
      have tg : tgTup 2 (tgCons (tgName 3) (tgCons (tgName 4) tgNil)) (tieD (one, other)) (saE y S (.ol ((saF S a).map tieD)) s3 s4) = some (E (saF S a)) := by
        show (tgName 3 (.int one) (saE y S (.ol ((saF S a).map tieD)) s3 s4)).bind (fun e => (tgName 4 (.int other) e).bind fun e => some e) = _
        rw [x_tg (e2 := saE y S (.ol ((saF S a).map tieD)) (.val (.int one)) s4) n3 rfl, Option.bind_some, x_tg (e2 := E (saF S a)) n4 rfl]
        rfl
      have fin : saF S (a ++ [(one, other)]) = saF S a ++ saT S (one, other) := by
        unfold saF
        rw [List.flatMap_append]
        simp
      refine ⟨E (saF S a), E (saF S (a ++ [(one, other)])), tg, .inl ?_, _, _, rfl, rfl, rfl⟩
      rw [fin]
      have sT : saT S (one, other) = (if (c1.isSome && c2.isNone) = true then [(one, other)] else []) ++ (if (c1.isNone && c2.isSome) = true then [(other, one)] else []) := by
        unfold saT
        dsimp only
        rw [k1, k2, z1, z2]
      rw [sT]
      cases c1 <;> cases c2
      · exact x_go (by rw [x_if (tN _)]; rfl) (by rw [x_if (tM _)]; show some (Fl.nx (E (saF S a))) = _; simp)
      · exact x_go (by rw [x_if (tN _)]; rfl) (by rw [x_if (tM _)]; exact (ap _ al (other, one) _ (u2 _)))
      · exact x_go (by rw [x_if (tN _)]; exact (ap _ al (one, other) _ (u1 _))) (by rw [x_if (tM _)]; rfl)
      · exact x_go (by rw [x_if (tN _)]; rfl) (by rw [x_if (tM _)]; show some (Fl.nx (E (saF S a))) = _; simp))
  subst h2
  refine x_runF (e := saE y S (.ol ((saF S ts).map tieD)) s3 s4) ?_
  unfold b_slides_at
  refine x_go (e1 := saE y S (.ol []) .un .un) (x_asgO rfl rfl rfl) ?_
  refine x_go (x_sForI (x_items (x_var rfl) rfl) h1) ?_
  refine x_ret (x_op1 (x_peek (d := .list ((saF S ts).map tieD)) rfl) ?_)
  show dSortL _ = _
  have := saF_len S ts
  rw [dSortL_ties (by omega), slL_sort W hl]
end GL
/-! The law's slides. -/
namespace GL
open PySem L2 GR

def lsT (ts : List Tie) (S : St) (p : Nat) : List Tie := if isBk S p = true then ((nearL ts p).filter fun q => isHo S q).map fun q => ((p : Int), q) else []
def lsF (ts : List Tie) (S : St) (a : List Nat) : List Tie := a.flatMap (lsT ts S)
theorem lsF_all (ts : List Tie) (S : St) : lsF ts S (List.range S.length) = slL ts S := rfl
theorem lsT_len (ts : List Tie) (S : St) (p : Nat) : (lsT ts S p).length ≤ 2 * ts.length := by
  unfold lsT
  split
  · rw [List.length_map]
    exact Nat.le_trans (List.length_filter_le _ _) (near_len ts p)
  · exact Nat.zero_le _
theorem lsF_len (ts : List Tie) (S : St) : ∀ a : List Nat, (lsF ts S a).length ≤ a.length * (2 * ts.length)
  | [] => Nat.zero_le _
  | p :: a => by
    have h1 := lsT_len ts S p
    have h2 := lsF_len ts S a
    show (lsT ts S p ++ lsF ts S a).length ≤ (a.length + 1) * (2 * ts.length)
    rw [List.length_append, Nat.add_mul]
    omega
def ecD (S : St) (i : Nat) : D := .tuple [.int (i : Int), cD (S[i]?.getD none)]
theorem enum_st (S : St) : enumD (S.map cD) = (List.range S.length).map (ecD S) := by
  unfold enumD
  apply List.ext_getElem?
  intro i
  rw [List.getElem?_zipWith]
  by_cases h : i < S.length
  · simp only [List.getElem?_map, List.length_map, List.getElem?_range h, List.getElem?_eq_getElem h, Option.map_some]
    unfold ecD
    rw [List.getElem?_eq_getElem h]
    rfl
  · have h1 : (List.range S.length)[i]? = none := List.getElem?_eq_none (by rw [List.length_range]; omega)
    simp only [List.getElem?_map, List.length_map, h1, Option.map_none]
abbrev lsE (y : D) (S : St) (f : List Tie) (s3 s4 s5 s6 : Slot) : LEnv := [.val y, .val (stD S), .val (.list (f.map tieD)), s3, s4, s5, s6]
theorem law_slides_is {n g : Int} {ts : List Tie} (W : Web n ts) {S : St} (hl : (S.length : Int) = n) : m__law_slides [yardD n ts g, stD S] = some (.list ((slL ts S).map tieD)) := by
  let y : D := yardD n ts g
  have few := W.few
  have n7 := W.n7
  have yx : dIx y (.int 1) = some (.tuple (ts.map tieD)) := ix3 _ _ _ 1 _ rfl
  obtain ⟨e', h1, s3, s4, s5, h2, _⟩ := x_forM (α := Nat) (ecD S) (g := tgTup 2 (tgCons (tgName 3) (tgCons (tgName 4) tgNil))) (b := (sSeq (sAsgO 5 (fLc (fItems (fCall 2 m__law_near (fCons (fOp2N dIx 0 (fC (.int 1))) (fCons (fVar 3) fNil)))) (tgName 6) (fTest (fOp2 dIsN (fOp2N dIx 1 (fPeek 6)) (fC .none))) (fVar 6) [6])) (sAsg 2 (fOp2 dAdd (fVar 2) (fIf (fTest (fOp2 dNotN (fVar 4) (fC .none))) (asList (fLc (fItems (fVar 5)) (tgName 6) fYes (fTup (fCons (fVar 3) (fCons (fVar 6) fNil))) [6])) (fLst fNil))))))
    (fun a en => ∃ s3 s4 s5, en = lsE y S (lsF ts S a) s3 s4 s5 .un ∧ owns s3 = false ∧ owns s4 = false ∧ isLent s5 = false) (List.range S.length) (lsE y S [] .un .un .un .un) ⟨.un, .un, .un, rfl, rfl, rfl, rfl⟩
    (fun a x r en hx ⟨s3, s4, s5, e1, o3, o4, o5⟩ => by
      subst e1
      have mx : x < S.length := List.mem_range.mp (by rw [hx]; simp)
      have ha : a.length < S.length := by
        have := congrArg List.length hx
        rw [List.length_range, List.length_append, List.length_cons] at this
        omega
      obtain ⟨c, hc, ix, kb, kh⟩ := at_ok hl (p := (x : Int)) (by omega) (by omega)
      have hc' : S[x]? = some c := hc
      have n3 : noRow (lsE y S (lsF ts S a) s3 s4 s5 .un) 3 = true := noRow_own (s := s3) rfl o3
      have n4 : noRow (lsE y S (lsF ts S a) (.val (.int x)) s4 s5 .un) 4 = true := noRow_own (s := s4) rfl o4
      have fl := lsF_len ts S a
      have tl := lsT_len ts S x
      have am : a.length * (2 * ts.length) ≤ 7 * 126 := Nat.mul_le_mul (by omega) (by omega)
      let E : List Tie → Slot → LEnv := fun f s => lsE y S f (.val (.int x)) (.val (cD c)) s .un
      have ec : ecD S x = .tuple [.int x, cD c] := by unfold ecD; rw [hc']; rfl
      have tg : tgTup 2 (tgCons (tgName 3) (tgCons (tgName 4) tgNil)) (ecD S x) (lsE y S (lsF ts S a) s3 s4 s5 .un) = some (E (lsF ts S a) s5) := by
        rw [ec]
        show (tgName 3 (.int x) (lsE y S (lsF ts S a) s3 s4 s5 .un)).bind (fun e => (tgName 4 (cD c) e).bind fun e => some e) = _
        rw [x_tg (e2 := lsE y S (lsF ts S a) (.val (.int x)) s4 s5 .un) n3 rfl, Option.bind_some, x_tg (e2 := E (lsF ts S a) s5) n4 rfl]
        rfl
      have near := law_near_is (x := .tuple (ts.map tieD)) (ts := ts) rfl (by omega) x
      have lcn := lc1 (i := 6) (t := fTest (fOp2 dIsN (fOp2N dIx 1 (fPeek 6)) (fC .none))) (e := fVar 6) (env := E (lsF ts S a) s5) (env1 := E (lsF ts S a) s5) (fi := fItems (fCall 2 m__law_near (fCons (fOp2N dIx 0 (fC (.int 1))) (fCons (fVar 3) fNil)))) (ds := intsL (nearL ts x))
        (fun d => match d with | .int q => isHo S q | _ => false) id (x_items (x_call (x_cons (x_op2N (x0 := y) (x := y) rfl rfl rfl yx) (x_cons (x_var rfl) rfl)) rfl near) rfl) rfl (by unfold intsL; rw [List.length_map]; have := near_len ts x; omega)
        (fun d m => by
          obtain ⟨q, mq, rfl⟩ := List.mem_map.mp m
          have bq := adj_bd W (mem_near.mp mq)
          obtain ⟨c2, _, i2, _, k2⟩ := at_ok hl (p := q) bq.2.2.1 bq.2.2.2
          show _ = some (isHo S q, _)
          rw [k2]
          exact x_test (x_op2 (x_op2N (x0 := stD S) (x := stD S) rfl (x_peek rfl) rfl i2) rfl (isN_c c2)))
        (fun d m _ => x_var rfl)
      have ln : ((intsL (nearL ts x)).filter fun d => match d with | .int q => isHo S q | _ => false).map id = intsL ((nearL ts x).filter fun q => isHo S q) := by
        unfold intsL
        rw [List.filter_map, List.map_id]
        rfl
      rw [ln] at lcn
      have nfl := List.length_filter_le (fun q => isHo S q) (nearL ts x)
      have nl := near_len ts x
      have n5 : noRow (E (lsF ts S a) s5) 5 = true := by
        show (match some s5 with | some (.row _) => false | some (.ln _) => false | none => false | _ => true) = true
        cases s5 <;> first | rfl | cases o5
      have fin : lsF ts S (a ++ [x]) = lsF ts S a ++ lsT ts S x := by
        unfold lsF
        rw [List.flatMap_append]
        simp
      have lt : lsT ts S x = if c.isSome = true then ((nearL ts x).filter fun q => isHo S q).map fun q => ((x : Int), q) else [] := by
        unfold lsT
        rw [kb]
      have tst : ∀ s, fTest (fOp2 dNotN (fVar 4) (fC .none)) (E (lsF ts S a) s) = some (c.isSome, E (lsF ts S a) s) := fun s => x_test (x_op2 (x_var rfl) rfl (notN_c c))
      have add : ∀ f : List Tie, f.length ≤ 1000 → dAdd (.list ((lsF ts S a).map tieD)) (.list (f.map tieD)) = some (.list ((lsF ts S a ++ f).map tieD)) := fun f hf => by
        show (if ((lsF ts S a).map tieD).length + (f.map tieD).length ≤ 1000000 then some (PyData.list ((lsF ts S a).map tieD ++ f.map tieD)) else none) = _
        rw [if_pos (by rw [List.length_map, List.length_map]; omega), List.map_append]
      rw [fin, lt]
      cases c with
      | none =>
        refine ⟨_, E (lsF ts S a ++ []) (.ol (intsL ((nearL ts x).filter fun q => isHo S q))), tg, .inl ?_, _, _, _, rfl, rfl, rfl, rfl⟩
        refine x_go (e1 := E (lsF ts S a) (.ol (intsL ((nearL ts x).filter fun q => isHo S q)))) (x_asgO lcn n5 rfl) ?_
        refine x_asg' (x_op2 (x_var rfl) (y := .list (([] : List Tie).map tieD)) (e2 := E (lsF ts S a) (.ol (intsL ((nearL ts x).filter fun q => isHo S q)))) ?_ (add [] (by simp))) rfl rfl
        unfold fIf
        rw [tst]
        rfl
      | some b =>
        refine ⟨_, E (lsF ts S a ++ ((nearL ts x).filter fun q => isHo S q).map fun q => ((x : Int), q)) (.val (.list (intsL ((nearL ts x).filter fun q => isHo S q)))), tg, .inl ?_, _, _, _, rfl, rfl, rfl, rfl⟩
        refine x_go (e1 := E (lsF ts S a) (.ol (intsL ((nearL ts x).filter fun q => isHo S q)))) (x_asgO lcn n5 rfl) ?_
        have lc2 := lc1 (i := 6) (t := fYes) (e := fTup (fCons (fVar 3) (fCons (fVar 6) fNil))) (env := E (lsF ts S a) (.ol (intsL ((nearL ts x).filter fun q => isHo S q)))) (env1 := E (lsF ts S a) (.val (.list (intsL ((nearL ts x).filter fun q => isHo S q))))) (fi := fItems (fVar 5)) (ds := intsL ((nearL ts x).filter fun q => isHo S q))
          (fun _ => true) (fun d => .tuple [.int x, d]) (x_items (d := .list (intsL ((nearL ts x).filter fun q => isHo S q))) rfl rfl) rfl (by unfold intsL; rw [List.length_map]; omega) (fun _ _ => rfl) (fun d _ _ => x_tup (x_cons (x_var rfl) (x_cons (x_var rfl) rfl)) (by simp))
        have l2 : ((intsL ((nearL ts x).filter fun q => isHo S q)).filter fun _ => true).map (fun d => PyData.tuple [.int x, d]) = (((nearL ts x).filter fun q => isHo S q).map fun q => ((x : Int), q)).map tieD := by
          rw [List.filter_eq_self.mpr (by simp)]
          unfold intsL
          rw [List.map_map, List.map_map]
          rfl
        rw [l2] at lc2
        refine x_asg' (x_op2 (x_var rfl) (y := .list ((((nearL ts x).filter fun q => isHo S q).map fun q => ((x : Int), q)).map tieD)) (e2 := E (lsF ts S a) (.val (.list (intsL ((nearL ts x).filter fun q => isHo S q))))) ?_ (add _ (by rw [List.length_map]; omega))) rfl rfl
        unfold fIf
        rw [tst, Option.bind_some]
        exact x_list lc2)
  subst h2
  refine x_runF (e := lsE y S (slL ts S) s3 s4 s5 .un) ?_
  unfold b__law_slides
  refine x_go (e1 := lsE y S [] .un .un .un .un) (x_asg' (x_lst rfl (by simp)) rfl rfl) ?_
  refine x_go (x_sForI (e1 := lsE y S [] .un .un .un .un) (ds := (List.range S.length).map (ecD S)) ?_ h1) (x_ret (x_var rfl))
  show (some (stD S, _)).bind _ = _
  rw [Option.bind_some]
  show some (enumD (S.map cD), _) = _
  rw [enum_st]
end GL
/-! What a slide makes: moved, and the law's own. -/
namespace GL
open PySem L2 GR

theorem ixN_ok {n : Nat} {p : Int} (h : 0 ≤ p) (h' : p.toNat < n) : L2.ixN n p = some p.toNat := by
  unfold L2.ixN
  have : p < (n : Int) := by omega
  simp [h, this]
theorem set_c (S : St) (i : Nat) (c : Option Int) : (S.map cD).set i (cD c) = (S.set i c).map cD := by rw [List.map_set]
theorem moved_is {n : Int} {ts : List Tie} {S : St} (hl : (S.length : Int) = n) {t : Tie} (h : Sl n ts S t) : m_moved [stD S, tieD t] = some (stD (mvL S t)) := by
  obtain ⟨h1, h2, h3, h4, _, ⟨b, hb⟩, hh⟩ := h
  let E : Slot → LEnv := fun s => [.val (stD S), .val (tieD t), .val (.int t.1), .val (.int t.2), s]
  have ix : atI (S.map cD) t.1 = some (cD (some b)) := by
    have := ix_st S t.1 h1
    rw [hb] at this
    exact this
  refine x_runF (e := E (.ol ((mvL S t).map cD))) ?_
  unfold b_moved
  refine x_go (e1 := E .un) rfl ?_
  refine x_go (e1 := E (.ol (S.map cD))) (x_asgO (e1 := E .un) rfl rfl rfl) ?_
  have s1 : sSetI 4 (fVar 3) (fOp2N dIx 4 (fPeek 2)) (E (.ol (S.map cD))) = some (.nx (E (.ol ((S.set t.2.toNat (some b)).map cD)))) := by
    have v : fOp2N dIx 4 (fPeek 2) (E (.ol (S.map cD))) = some (cD (some b), E (.ol (S.map cD))) := x_op2N (x0 := .list (S.map cD)) (x := .list (S.map cD)) rfl (x_peek rfl) rfl ix
    unfold sSetI
    rw [v, Option.bind_some]
    show (some (PyData.int t.2, E (.ol (S.map cD)))).bind _ = _
    rw [Option.bind_some]
    show (L2.ixN (S.map cD).length t.2).map _ = _
    rw [ixN_ok h3 (by rw [List.length_map]; omega)]
    show some (Fl.nx (E (.ol ((S.map cD).set t.2.toNat (cD (some b)))))) = _
    rw [set_c]
  have s2 : sSetI 4 (fVar 2) (fC .none) (E (.ol ((S.set t.2.toNat (some b)).map cD))) = some (.nx (E (.ol ((mvL S t).map cD)))) := by
    unfold sSetI
    show (some (PyData.none, E (.ol ((S.set t.2.toNat (some b)).map cD)))).bind _ = _
    rw [Option.bind_some]
    show (some (PyData.int t.1, E (.ol ((S.set t.2.toNat (some b)).map cD)))).bind _ = _
    rw [Option.bind_some]
    show (L2.ixN ((S.set t.2.toNat (some b)).map cD).length t.1).map _ = _
    rw [ixN_ok h1 (by rw [List.length_map, List.length_set]; omega)]
    show some (Fl.nx (E (.ol (((S.set t.2.toNat (some b)).map cD).set t.1.toNat (cD none))))) = _
    rw [set_c]
    unfold mvL
    rw [hb]
    rfl
  refine x_go s1 (x_go s2 (x_ret (x_op1 (x_peek (d := .list ((mvL S t).map cD)) rfl) rfl)))
theorem law_slid_is {n : Int} {ts : List Tie} {S : St} (hl : (S.length : Int) = n) {t : Tie} (h : Sl n ts S t) : m__law_slid [stD S, tieD t] = some (stD (mvL S t)) := by
  obtain ⟨h1, h2, h3, h4, _, ⟨b, hb⟩, hh⟩ := h
  let E : Slot → LEnv := fun s => [.val (stD S), .val (tieD t), s]
  have ix : dIx (stD S) (.int t.1) = some (cD (some b)) := by
    have := ix_st S t.1 h1
    rw [hb] at this
    exact this
  refine x_runF (e := E (.ol ((mvL S t).map cD))) ?_
  unfold b__law_slid
  refine x_go (e1 := E (.ol (S.map cD))) (x_asgO (e1 := E .un) rfl rfl rfl) ?_
  have i0 : ∀ s, fOp2N dIx 1 (fC (.int 0)) (E s) = some (.int t.1, E s) := fun s => x_op2N (x0 := tieD t) (x := tieD t) rfl rfl rfl rfl
  have i1 : ∀ s, fOp2N dIx 1 (fC (.int 1)) (E s) = some (.int t.2, E s) := fun s => x_op2N (x0 := tieD t) (x := tieD t) rfl rfl rfl rfl
  have s1 : sSet2 2 (fOp2N dIx 1 (fC (.int 1))) (fOp2N dIx 1 (fC (.int 0))) (fOp2N dIx 0 (fOp2N dIx 1 (fC (.int 0)))) (fC .none) (E (.ol (S.map cD))) = some (.nx (E (.ol ((mvL S t).map cD)))) := by
    have v : fOp2N dIx 0 (fOp2N dIx 1 (fC (.int 0))) (E (.ol (S.map cD))) = some (cD (some b), E (.ol (S.map cD))) := x_op2N (x0 := stD S) (x := stD S) rfl (i0 _) rfl ix
    unfold sSet2
    rw [v, Option.bind_some]
    show (some (PyData.none, E (.ol (S.map cD)))).bind _ = _
    rw [Option.bind_some]
    have a1 : setO2 2 (fOp2N dIx 1 (fC (.int 1))) (cD (some b)) (E (.ol (S.map cD))) = some (E (.ol ((S.set t.2.toNat (some b)).map cD))) := by
      unfold setO2
      show ((fOp2N dIx 1 (fC (.int 1)) (E (.ol (S.map cD)))).bind _) = _
      rw [i1, Option.bind_some]
      show (L2.ixN (S.map cD).length t.2).map _ = _
      rw [ixN_ok h3 (by rw [List.length_map]; omega)]
      show some (E (.ol ((S.map cD).set t.2.toNat (cD (some b))))) = _
      rw [set_c]
    have a2 : setO2 2 (fOp2N dIx 1 (fC (.int 0))) .none (E (.ol ((S.set t.2.toNat (some b)).map cD))) = some (E (.ol ((mvL S t).map cD))) := by
      unfold setO2
      show ((fOp2N dIx 1 (fC (.int 0)) (E (.ol ((S.set t.2.toNat (some b)).map cD)))).bind _) = _
      rw [i0, Option.bind_some]
      show (L2.ixN ((S.set t.2.toNat (some b)).map cD).length t.1).map _ = _
      rw [ixN_ok h1 (by rw [List.length_map, List.length_set]; omega)]
      show some (E (.ol (((S.set t.2.toNat (some b)).map cD).set t.1.toNat (cD none)))) = _
      rw [set_c]
      unfold mvL
      rw [hb]
      rfl
    show (setO2 2 _ (cD (some b)) (E (.ol (S.map cD)))).bind _ = _
    rw [a1, Option.bind_some]
    show (setO2 2 _ PyData.none (E (.ol ((S.set t.2.toNat (some b)).map cD)))).map _ = _
    rw [a2]
    rfl
  exact x_go s1 (x_ret (x_op1 (x_peek (d := .list ((mvL S t).map cD)) rfl) rfl))
theorem mv_len (S : St) (t : Tie) : (mvL S t).length = S.length := by unfold mvL; rw [List.length_set, List.length_set]
/-- a slide lays the same things anew -/
theorem mv_perm {n : Int} {ts : List Tie} {S : St} (hl : (S.length : Int) = n) {t : Tie} (h : Sl n ts S t) : (mvL S t).Perm S := by
  obtain ⟨h1, h2, h3, h4, _, ⟨b, hb⟩, hh⟩ := h
  unfold mvL
  rw [hb]
  show ((S.set t.2.toNat (some b)).set t.1.toNat none).Perm S
  have l1 : t.1.toNat < S.length := by omega
  have l2 : t.2.toNat < S.length := by omega
  have g1 : S[t.1.toNat] = some b := by
    have := List.getElem?_eq_getElem l1
    rw [hb] at this
    exact (Option.some.inj this).symm
  have g2 : S[t.2.toNat] = none := by
    have := List.getElem?_eq_getElem l2
    rw [hh] at this
    exact (Option.some.inj this).symm
  have := List.set_set_perm (as := S) l1 l2
  rw [g1, g2] at this
  rw [List.set_comm _ _ (fun z => by rw [z, hb] at hh; cases hh)]
  exact this
end GL
/-! check_standing. -/
namespace GL
open PySem L2 GR

def bksL (S : St) : List Int := S.filterMap id
def badSt : ExD := ⟨"BadStanding", none⟩
/-- the numbers 0 .. k - 1 -/
def upto (k : Nat) : List Int := (List.range k).map fun i : Nat => (i : Int)
theorem rangeD_upto (k : Nat) : rangeD 0 k = intsL (upto k) := by
  unfold rangeD intsL upto
  rw [List.map_map]
  refine List.map_congr_left fun i _ => ?_
  show PyData.int (0 + (i : Int)) = PyData.int (i : Int)
  rw [Int.zero_add]
theorem eqvS_ints : ∀ a b : List Int, PyData.eqvAll (intsL a) (intsL b) = decide (a = b)
  | [], [] => by simp [intsL, PyData.eqvAll]
  | [], _ :: _ => by simp [intsL, PyData.eqvAll]
  | _ :: _, [] => by simp [intsL, PyData.eqvAll]
  | x :: a, y :: b => by
    show (PyData.eqv (.int x) (.int y) && PyData.eqvAll (intsL a) (intsL b)) = _
    rw [eqv_int, eqvS_ints a b]
    by_cases h : x = y <;> by_cases h' : a = b <;> simp [h, h']
theorem ne_intsL (a b : List Int) : dNe (.list (intsL a)) (.list (intsL b)) = some (.bool (!decide (a = b))) := by
  unfold dNe
  rw [if_pos ⟨ok_ints a, ok_ints b⟩]
  show some (PyData.bool (!PyData.eqv (.list (intsL a)) (.list (intsL b)))) = _
  rw [PyData.eqv, eqvS_ints]
theorem bools_true : ∀ k : Nat, boolsOf (List.replicate k (PyData.bool true)) = some (List.replicate k true)
  | 0 => rfl
  | k + 1 => by
    show boolsOf (PyData.bool true :: List.replicate k (PyData.bool true)) = _
    unfold boolsOf
    rw [bools_true k]
    rfl
abbrev csE (y x : D) (s2 s3 s4 s5 : Slot) : LEnv := [.val y, .val x, s2, s3, s4, s5]
theorem fm_c (S : St) : ((S.map cD).filter fun d => !isNoneD d).map id = intsL (bksL S) := by
  rw [List.map_id]
  unfold bksL intsL
  induction S with
  | nil => rfl
  | cons c S ih =>
    cases c with
    | none =>
      show (List.filter _ (PyData.none :: S.map cD)) = _
      rw [List.filter_cons_of_neg (by decide), ih]
      rfl
    | some b =>
      show (List.filter _ (PyData.int b :: S.map cD)) = _
      rw [List.filter_cons_of_pos rfl, ih]
      rfl
theorem bks_len (S : St) : (bksL S).length ≤ S.length := List.length_filterMap_le _ _
/-- a standing is a tuple with an item for each place, its books are numbered from 0 -/
def goodB (n : Nat) (S : St) : Bool := !(bksL S).isEmpty && !decide ((bksL S).length = n) && decide (sortI (bksL S) = upto (bksL S).length)
section
variable {n : Nat} {g : Int} {t : D}
theorem ck_head (x : D) (r : FlX) (h : (xSeq (xIf (fNot (fTest (fCall 2 m_is_tuple_of (fCons (fVar 1) (fCons (fVar 2) fNil))))) (xRaise (mPlain "BadStanding")) (xLift sNext)) (xSeq (xLift (sAsgO 3 (fLc (fItems (fVar 1)) (tgName 4) (fTest (fOp2 dNotN (fVar 4) (fC .none))) (fVar 4) [4]))) (xSeq (xIf (fNot (fTest (fOp1 dAll (asList (fLc (fItems (fVar 3)) (tgName 5) fYes (fCall 1 m_is_number (fCons (fVar 5) fNil)) [5]))))) (xRaise (mPlain "BadStanding")) (xLift sNext)) (xSeq (xIf (fOr (fNot (fTruth (fPeek 3))) (fTest (fOp2 dEq (fOp1 dLen (fPeek 3)) (fPeek 2)))) (xRaise (mPlain "BadStanding")) (xLift sNext)) (xIf (fTest (fOp2 dNe (fOp1 dSortedG (fPeek 3)) (fListR (fRange1 (fOp1 dLen (fPeek 3)))))) (xRaise (mPlain "BadStanding")) (xLift sNext))))))
    (csE (.tuple [.int n, t, .int g]) x (.val (.int n)) .un .un .un) = some r) : b_check_standing (csE (.tuple [.int n, t, .int g]) x .un .un .un .un) = some r := by
  unfold b_check_standing
  exact xs_go (e1 := csE (.tuple [.int n, t, .int g]) x (.val (.int n)) .un .un .un) (xs_lift (x_asg' (x_op2N (x0 := .tuple [.int n, t, .int g]) (x := .tuple [.int n, t, .int g]) rfl rfl rfl (ix3 _ _ _ 0 _ rfl)) rfl rfl)) h
theorem ck_no {x : D} (h : m_is_tuple_of [x, .int n] = some (.bool false)) : m_check_standing [.tuple [.int n, t, .int g], x] = some (.er badSt) := by
  refine xs_er (e := csE (.tuple [.int n, t, .int g]) x (.val (.int n)) .un .un .un) (ck_head x _ ?_)
  exact xs_ex (xs_raise (x_not (b := false) (x_test (x_call (x_cons (x_var rfl) (x_cons (x_var rfl) rfl)) rfl h))) rfl)
theorem ck_none : m_check_standing [.tuple [.int n, t, .int g], .none] = some (.er badSt) := ck_no (isnt_tuple_none n)
theorem isnt_tuple_list (ds : List D) (k : Int) : m_is_tuple_of [.list ds, .int k] = some (.bool false) := by
  refine x_runF (e := startE 2 [.list ds, .int k]) ?_
  unfold b_is_tuple_of
  refine x_ret ?_
  have h1 : fOp1 (dIsa "tuple") (fPeek 0) (startE 2 [.list ds, .int k]) = some (.bool false, startE 2 [.list ds, .int k]) := x_op1 (x_peek rfl) (by
    show (kitB "list" "tuple").map PyData.bool = _
    rw [show kitB "list" "tuple" = some false by decide +kernel]
    rfl)
  exact x_andV (y := false) h1 (fun h => nomatch h) (fun _ => rfl)
theorem ck_list (ds : List D) : m_check_standing [.tuple [.int n, t, .int g], .list ds] = some (.er badSt) := ck_no (isnt_tuple_list ds n)
theorem ck_len {S : St} (h : S.length ≠ n) : m_check_standing [.tuple [.int n, t, .int g], stD S] = some (.er badSt) := ck_no ((v_is_tuple_of (S.map cD) n).trans (by
  rw [decide_eq_false (by rw [List.length_map]; omega)]))
theorem ck_is {S : St} (h : S.length = n) (h9 : n ≤ 100) : m_check_standing [.tuple [.int n, t, .int g], stD S] = some (if goodB n S = true then .ok .none else .er badSt) := by
  let y : D := .tuple [.int n, t, .int g]
  have bl := bks_len S
  have hb : ((S.map cD).filter fun d => !isNoneD d).map id = intsL (bksL S) := fm_c S
  have l1 := lc1 (i := 4) (t := fTest (fOp2 dNotN (fVar 4) (fC .none))) (e := fVar 4) (env := csE y (stD S) (.val (.int n)) .un .un .un) (env1 := csE y (stD S) (.val (.int n)) .un .un .un) (fi := fItems (fVar 1)) (ds := S.map cD) (fun d => !isNoneD d) id (x_items (x_var rfl) rfl) rfl (by rw [List.length_map]; omega)
    (fun d _ => x_test (x_op2 (x_var rfl) rfl rfl)) (fun d _ _ => x_var rfl)
  rw [hb] at l1
  have l2 := lc1 (i := 5) (t := fYes) (e := fCall 1 m_is_number (fCons (fVar 5) fNil)) (env := csE y (stD S) (.val (.int n)) (.ol (intsL (bksL S))) .un .un) (env1 := csE y (stD S) (.val (.int n)) (.val (.list (intsL (bksL S)))) .un .un) (fi := fItems (fVar 3)) (ds := intsL (bksL S)) (fun _ => true) (fun _ => .bool true) (x_items (d := .list (intsL (bksL S))) rfl rfl) rfl (by unfold intsL; rw [List.length_map]; omega)
    (fun _ _ => rfl) (fun d m _ => by
      obtain ⟨b, _, rfl⟩ := List.mem_map.mp m
      exact x_call (x_cons (x_var rfl) rfl) rfl (v_is_number b))
  have l3 : ((intsL (bksL S)).filter fun _ => true).map (fun _ => PyData.bool true) = List.replicate (bksL S).length (PyData.bool true) := by
    rw [List.filter_eq_self.mpr (by simp)]
    unfold intsL
    rw [List.map_map]
    exact List.map_const' ..
  rw [l3] at l2
  let F : LEnv := csE y (stD S) (.val (.int n)) (.val (.list (intsL (bksL S)))) .un .un
  have c1 : fNot (fTest (fOp1 dAll (asList (fLc (fItems (fVar 3)) (tgName 5) fYes (fCall 1 m_is_number (fCons (fVar 5) fNil)) [5])))) (csE y (stD S) (.val (.int n)) (.ol (intsL (bksL S))) .un .un) = some (false, F) := x_not (b := true) (x_test (x_op1 (x_list l2) (by
    show (boolsOf _).map _ = _
    rw [bools_true]
    show some (PyData.bool ((List.replicate (bksL S).length true).all id)) = _
    rw [List.all_replicate]
    cases (bksL S).length <;> rfl)))
  have ln : fOp1 dLen (fPeek 3) F = some (.int ((bksL S).length : Int), F) := x_op1 (x_peek rfl) (by
    show some (PyData.int ((intsL (bksL S)).length : Int)) = _
    unfold intsL; rw [List.length_map])
  have c2 : fOr (fNot (fTruth (fPeek 3))) (fTest (fOp2 dEq (fOp1 dLen (fPeek 3)) (fPeek 2))) F = some ((bksL S).isEmpty || decide ((bksL S).length = n), F) := by
    refine x_or (b := (bksL S).isEmpty) ?_ fun _ => x_test ?_
    · unfold fNot fTruth
      rw [x_peek (i := 3) (env := F) (d := .list (intsL (bksL S))) rfl]
      show some (!(!(intsL (bksL S)).isEmpty), F) = _
      rw [Bool.not_not]
      unfold intsL
      cases bksL S <;> rfl
    · rw [x_op2 ln (x_peek rfl) (d_eq_int _ _)]
      by_cases q : (bksL S).length = n
      · rw [decide_eq_true q, decide_eq_true (by omega)]
      · rw [decide_eq_false q, decide_eq_false (by omega)]
  have c3 : fTest (fOp2 dNe (fOp1 dSortedG (fPeek 3)) (fListR (fRange1 (fOp1 dLen (fPeek 3))))) F = some (!decide (sortI (bksL S) = upto (bksL S).length), F) := by
    refine x_test (x_op2 (x := .list (intsL (sortI (bksL S)))) (y := .list (intsL (upto (bksL S).length))) (x_op1 (x_peek (d := .list (intsL (bksL S))) rfl) ?_) ?_ (ne_intsL _ _))
    · show dSortL _ = _
      exact dSortL_ints (by omega) (ok_ints _)
    · unfold fListR
      rw [x_range1 ln (by omega) (by omega)]
      show some (PyData.list (rangeD 0 (bksL S).length), F) = _
      rw [rangeD_upto]
  have start : ∀ r, (xSeq (xIf (fOr (fNot (fTruth (fPeek 3))) (fTest (fOp2 dEq (fOp1 dLen (fPeek 3)) (fPeek 2)))) (xRaise (mPlain "BadStanding")) (xLift sNext)) (xIf (fTest (fOp2 dNe (fOp1 dSortedG (fPeek 3)) (fListR (fRange1 (fOp1 dLen (fPeek 3)))))) (xRaise (mPlain "BadStanding")) (xLift sNext))) F = some r → b_check_standing (csE y (stD S) .un .un .un .un) = some r := fun r hr => by
    refine ck_head (stD S) _ ?_
    refine xs_go (e1 := csE y (stD S) (.val (.int n)) .un .un .un) (xs_skip (x_not (b := true) (x_test (x_call (x_cons (x_var rfl) (x_cons (x_var rfl) rfl)) rfl ((v_is_tuple_of (S.map cD) n).trans (by rw [decide_eq_true (by rw [List.length_map]; omega)])))))) ?_
    refine xs_go (e1 := csE y (stD S) (.val (.int n)) (.ol (intsL (bksL S))) .un .un) (xs_lift (x_asgO l1 rfl rfl)) ?_
    refine xs_go (e1 := F) (by rw [xs_if c1]; rfl) hr
  cases h2 : ((bksL S).isEmpty || decide ((bksL S).length = n)) with
  | true =>
    have gb : goodB n S = false := by
      unfold goodB
      rcases Bool.or_eq_true_iff.mp h2 with z | z
      · rw [z]; rfl
      · rw [z]; simp
    rw [gb]
    exact xs_er (e := F) (start _ (xs_ex (xs_raise (c2.trans (by rw [h2])) rfl)))
  | false =>
    obtain ⟨z1, z2⟩ := Bool.or_eq_false_iff.mp h2
    have gb : goodB n S = decide (sortI (bksL S) = upto (bksL S).length) := by
      unfold goodB
      rw [z1, z2]
      simp
    rw [gb]
    cases h3 : decide (sortI (bksL S) = upto (bksL S).length) with
    | true => exact xs_ok (e := F) (start _ (xs_go (xs_skip (c2.trans (by rw [h2]))) (xs_skip (c3.trans (by rw [h3]; rfl)))))
    | false => exact xs_er (e := F) (start _ (xs_go (xs_skip (c2.trans (by rw [h2]))) (xs_raise (c3.trans (by rw [h3]; rfl)) rfl)))
end
end GL
/-! The standings that are drawn. -/
namespace GL
open PySem L2 GR

/-- m books and h holes -/
def L0 (m h : Nat) : St := (upto m).map some ++ List.replicate h none
theorem upto_len (k : Nat) : (upto k).length = k := by unfold upto; rw [List.length_map, List.length_range]
theorem L0_len (m h : Nat) : (L0 m h).length = m + h := by unfold L0; rw [List.length_append, List.length_map, upto_len, List.length_replicate]
structure Std (n m : Nat) (S : St) : Prop where
  perm : S.Perm (L0 m (n - m))
  m1 : 1 ≤ m
  mn : m < n
theorem bks_L0 (m h : Nat) : bksL (L0 m h) = upto m := by
  unfold bksL L0
  rw [List.filterMap_append]
  have h1 : ((upto m).map some).filterMap id = upto m := by rw [List.filterMap_map]; simp
  have h2 : (List.replicate h (none : Option Int)).filterMap id = [] := by
    induction h with
    | zero => rfl
    | succ k ih => rw [List.replicate_succ, List.filterMap_cons]; exact ih
  rw [h1, h2, List.append_nil]
theorem upto_lt (k : Nat) : (upto k).Pairwise fun a b => a < b := by
  unfold upto
  rw [List.pairwise_map]
  exact List.pairwise_lt_range.imp fun {a b} h => by omega
theorem sort_upto {xs : List Int} {k : Nat} (h : xs.Perm (upto k)) : sortI xs = upto k := by
  refine List.Perm.eq_of_pairwise (le := fun a b => a ≤ b) (fun a b _ _ h1 h2 => by omega) (sortI_pw xs) ((upto_lt k).imp fun {a b} h => by omega) ?_
  exact (List.mergeSort_perm _ _).trans h
section
variable {n m : Nat} {S : St}
theorem Std.len (s : Std n m S) : S.length = n := by
  have := s.perm.length_eq
  rw [L0_len] at this
  have := s.mn
  omega
theorem Std.bks (s : Std n m S) : (bksL S).Perm (upto m) := by
  have := s.perm.filterMap id
  have e := bks_L0 m (n - m)
  unfold bksL at e ⊢
  rw [e] at this
  exact this
theorem Std.blen (s : Std n m S) : (bksL S).length = m := by rw [s.bks.length_eq, upto_len]
theorem Std.good (s : Std n m S) : goodB n S = true := by
  unfold goodB
  rw [s.blen, sort_upto s.bks]
  have := s.m1
  have := s.mn
  have e : (bksL S).isEmpty = false := by
    cases h : bksL S with
    | nil => have := s.blen; rw [h] at this; simp at this; omega
    | cons a r => rfl
  rw [e, decide_eq_false (show ¬ m = n by omega), decide_eq_true rfl]
  rfl
theorem Std.ok (s : Std n m S) (h9 : n ≤ 100) {t : D} {g : Int} : m_check_standing [.tuple [.int n, t, .int g], stD S] = some (.ok .none) := by
  rw [ck_is s.len h9, s.good]
  rfl
theorem Std.mv (s : Std n m S) {ts : List Tie} {t : Tie} (h : Sl n ts S t) : Std n m (mvL S t) := ⟨(mv_perm (by rw [s.len]) h).trans s.perm, s.m1, s.mn⟩
theorem Std.hole (s : Std n m S) : none ∈ S := by
  refine s.perm.mem_iff.mpr (List.mem_append_right _ ?_)
  have := s.mn
  exact List.mem_replicate.mpr ⟨by omega, rfl⟩
end
theorem map_erase {α β : Type} (f : α → β) (L : List α) (i : Nat) : (L.map f).eraseIdx i = (L.eraseIdx i).map f := by
  rw [List.eraseIdx_eq_take_drop_succ, List.eraseIdx_eq_take_drop_succ, List.map_append, List.map_take, List.map_drop]
theorem cons_erase {α : Type} (L : List α) {i : Nat} (h : i < L.length) : (L[i] :: L.eraseIdx i).Perm L := by
  rw [List.eraseIdx_eq_take_drop_succ]
  have e : L = L.take i ++ L[i] :: L.drop (i + 1) := by
    have := (List.take_append_drop i L).symm
    rw [List.drop_eq_getElem_cons h] at this
    exact this
  exact (List.perm_middle.symm).trans (List.Perm.of_eq e.symm)
abbrev stE (st : Row) (n h : Int) (s3 s4 s5 : Slot) : LEnv := [.row st, .val (.int n), .val (.int h), s3, s4, s5]
theorem rep_none (h : Nat) : (List.replicate h [PyData.none]).flatten = (List.replicate h (none : Option Int)).map cD := by
  induction h with
  | zero => rfl
  | succ k ih => rw [List.replicate_succ, List.flatten_cons, ih, List.replicate_succ, List.map_cons]; rfl
theorem intsL_cD (xs : List Int) : intsL xs = (xs.map some).map cD := by
  unfold intsL
  rw [List.map_map]
  rfl
theorem law_standing_is (st : Row) (ok : RowOk st) {n m : Nat} (hm : m ≤ n) (h7 : n ≤ 7) : ∃ S st', m__law_standing st [.int n, .int ((n - m : Nat) : Int)] = some (stD S, st') ∧ S.Perm (L0 m (n - m)) ∧ RowOk st' := by
  let h : Nat := n - m
  obtain ⟨e', h1, st2, L, F, s5, h2, _, pm, lf, ok2⟩ := x_forM (α := Nat) (fun i => .int (0 + (i : Int))) (g := tgName 5) (b := sExpr (sAppend 4 (fPopAt 3 (fCallR 0 1 m__law_taken (fCons (fOp1 dLen (fPeek 3)) fNil)))))
    (fun a en => ∃ st L F s5, en = stE st n h (.ol (L.map cD)) (.ol (F.map cD)) s5 ∧ owns s5 = false ∧ (L ++ F).Perm (L0 m h) ∧ F.length = a.length ∧ RowOk st) (List.range n) (stE st n h (.ol ((L0 m h).map cD)) (.ol []) .un) ⟨st, L0 m h, [], .un, rfl, rfl, by rw [List.append_nil], rfl, ok⟩
    (fun a x r en hx ⟨st, L, F, s5, e1, o5, pm, lf, ok⟩ => by
      subst e1
      have la : a.length < n := by
        have := congrArg List.length hx
        rw [List.length_range, List.length_append, List.length_cons] at this
        omega
      have ll : L.length + F.length = n := by
        have := pm.length_eq
        rw [List.length_append, L0_len] at this
        omega
      have n5 : noRow (stE st n h (.ol (L.map cD)) (.ol (F.map cD)) s5) 5 = true := noRow_own (s := s5) rfl o5
      let E : Row → St → St → LEnv := fun st L F => stE st n h (.ol (L.map cD)) (.ol (F.map cD)) (.val (.int (0 + (x : Int))))
      have len : fOp1 dLen (fPeek 3) (E st L F) = some (.int (L.length : Int), E st L F) := x_op1 (x_peek (d := .list (L.map cD)) rfl) (by
        show some (PyData.int ((L.map cD).length : Int)) = _
        rw [List.length_map])
      obtain ⟨k, st', t1, t2, t3, ok'⟩ := x_taken (i := 0) (env := E st L F) (e1 := E st L F) (st := st) (a := fOp1 dLen (fPeek 3)) (k := L.length) ⟨st, rfl⟩ len rfl (by omega) (by omega) ok
      obtain ⟨j, rfl⟩ : ∃ j : Nat, k = (j : Int) := ⟨k.toNat, by omega⟩
      have hj : j < L.length := by omega
      have pop : fPopAt 3 (fCallR 0 1 m__law_taken (fCons (fOp1 dLen (fPeek 3)) fNil)) (E st L F) = some (cD L[j], E st' (L.eraseIdx j) F) := by
        unfold fPopAt
        show (fCallR 0 1 m__law_taken (fCons (fOp1 dLen (fPeek 3)) fNil) (E st L F)).bind _ = _
        rw [t1, Option.bind_some]
        show (if 0 ≤ (j : Int) ∧ (j : Int) < 1000000 then ((L.map cD)[((j : Nat) : Int).toNat]?).map _ else none) = _
        rw [if_pos ⟨by omega, by omega⟩, Int.toNat_natCast, List.getElem?_map, List.getElem?_eq_getElem hj]
        show some (cD L[j], (E st' L F).set 3 (.ol ((L.map cD).eraseIdx j))) = _
        rw [map_erase]
        rfl
      refine ⟨E st L F, E st' (L.eraseIdx j) (F ++ [L[j]]), x_tg n5 rfl, .inl ?_, st', L.eraseIdx j, F ++ [L[j]], _, rfl, rfl, ?_, by rw [List.length_append, List.length_append, lf]; rfl, ok'⟩
      · exact x_expr (x_append (e1 := E st' (L.eraseIdx j) F) (ds0 := F.map cD) (ds := F.map cD) rfl pop rfl (by rw [List.length_map]; omega) (by show stE _ _ _ _ (.ol (F.map cD ++ [cD L[j]])) _ = _; rw [show F.map cD ++ [cD L[j]] = (F ++ [L[j]]).map cD by rw [List.map_append]; rfl]))
      · refine List.Perm.trans ?_ pm
        rw [← List.append_assoc]
        refine (List.perm_append_comm).trans ?_
        show (L[j] :: (L.eraseIdx j ++ F)).Perm (L ++ F)
        rw [← List.cons_append]
        exact (cons_erase L hj).append_right F)
  subst h2
  have pl := pm.length_eq
  rw [List.length_append, L0_len, lf, List.length_range] at pl
  have l0 : L = [] := List.length_eq_zero_iff.mp (by omega)
  subst l0
  refine ⟨F, st2, ?_, pm, ok2⟩
  show (b__law_standing (stE st n h .un .un .un)).bind _ = _
  have body : b__law_standing (stE st n h .un .un .un) = some (.rt (stD F) (stE st2 n h (.ol (([] : St).map cD)) (.ol (F.map cD)) s5)) := by
    unfold b__law_standing
    have par : sPar 3 4 (vList (fAddL (fListR (fRange1 (fOp2 dSub (fVar 1) (fPeek 2)))) (fOp2 dRep (fLst (fCons (fC .none) fNil)) (fPeek 2)))) (vList (fLst' fNil)) (stE st n h .un .un .un) = some (.nx (stE st n h (.ol ((L0 m h).map cD)) (.ol []) .un)) := by
      have r1 : fListR (fRange1 (fOp2 dSub (fVar 1) (fPeek 2))) (stE st n h .un .un .un) = some (.list (intsL (upto m)), stE st n h .un .un .un) := by
        unfold fListR
        rw [x_range1 (n := (m : Int)) (x_op2 (x_var rfl) (x_peek rfl) (by show some (PyData.int ((n : Int) - ((n - m : Nat) : Int))) = _; rw [show (n : Int) - ((n - m : Nat) : Int) = (m : Int) by omega])) (by omega) (by omega), Int.toNat_natCast]
        show some (PyData.list (rangeD 0 m), _) = _
        rw [rangeD_upto]
      have r2 : fOp2 dRep (fLst (fCons (fC .none) fNil)) (fPeek 2) (stE st n h .un .un .un) = some (.list ((List.replicate h (none : Option Int)).map cD), stE st n h .un .un .un) := by
        refine x_op2 (x := .list [.none]) (x_lst rfl (by simp)) (x_peek rfl) ?_
        show (if 0 ≤ (h : Int) ∧ (h : Int) ≤ 1000 ∧ [PyData.none].length ≤ 1000 then some (PyData.list (List.replicate (h : Int).toNat [PyData.none]).flatten) else none) = _
        rw [if_pos ⟨by omega, by omega, by simp⟩, Int.toNat_natCast, rep_none]
      have r3 : fAddL (fListR (fRange1 (fOp2 dSub (fVar 1) (fPeek 2)))) (fOp2 dRep (fLst (fCons (fC .none) fNil)) (fPeek 2)) (stE st n h .un .un .un) = some ((L0 m h).map cD, stE st n h .un .un .un) := by
        unfold fAddL
        rw [r1, Option.bind_some]
        dsimp only
        rw [r2]
        have hl : (intsL (upto m)).length = m := by unfold intsL; rw [List.length_map, upto_len]
        have e : intsL (upto m) ++ (List.replicate h (none : Option Int)).map cD = (L0 m h).map cD := by
          unfold L0
          rw [List.map_append, intsL_cD]
        first
        | (show (if (intsL (upto m)).length + ((List.replicate h (none : Option Int)).map cD).length ≤ 1000000 then some (intsL (upto m) ++ (List.replicate h (none : Option Int)).map cD, _) else none) = _
           rw [if_pos (by rw [hl, List.length_map, List.length_replicate]; omega), e])
        | (rw [← e]; rfl)
      unfold sPar vList
      rw [r3]
      rfl
    refine x_go par ?_
    refine x_go (x_sForI (ds := (List.range n).map fun i : Nat => PyData.int (0 + (i : Int))) ?_ h1) (x_ret (x_op1 (x_peek (d := .list (F.map cD)) rfl) rfl))
    rw [x_range1 (x_var rfl) (by omega) (by omega)]
    rfl
  rw [body]
  rfl
end GL
/-! The search over standings, once for both sides. -/
namespace GL
open PySem L2 GR

structure Ent where
  s : St
  par : Option (St × Tie)
  word : List Tie
def keysE (A : List Ent) : List St := A.map (·.s)
def entS (e : Ent) (t : Tie) : Ent := ⟨mvL e.s t, some (e.s, t), e.word ++ [t]⟩
def push (e : Ent) (A : List Ent) (t : Tie) : List Ent := if mvL e.s t ∈ keysE A then A else A ++ [entS e t]
def expand (ts : List Tie) (A : List Ent) (e : Ent) : List Ent := (slL ts e.s).foldl (push e) A
def stepE (ts : List Tie) (A : List Ent) (i : Nat) : List Ent := match A[i]? with
  | some e => expand ts A e
  | none => A
def stepsN (ts : List Tie) (S0 : St) : Nat → List Ent
  | 0 => [⟨S0, none, []⟩]
  | k + 1 => stepE ts (stepsN ts S0 k) k
/-- from S0 by the slides w to S -/
inductive Path (ts : List Tie) (S0 : St) : List Tie → St → Prop
  | nil : Path ts S0 [] S0
  | snoc {w : List Tie} {S : St} {t : Tie} : Path ts S0 w S → t ∈ slL ts S → Path ts S0 (w ++ [t]) (mvL S t)
theorem push_pre (e : Ent) (A : List Ent) (t : Tie) : ∃ X, push e A t = A ++ X := by
  unfold push
  split
  · exact ⟨[], by simp⟩
  · exact ⟨_, rfl⟩
theorem fold_pre (e : Ent) : ∀ (l : List Tie) (A : List Ent), ∃ X, l.foldl (push e) A = A ++ X
  | [], A => ⟨[], by simp⟩
  | t :: l, A => by
    obtain ⟨X, h⟩ := push_pre e A t
    obtain ⟨Y, h'⟩ := fold_pre e l (push e A t)
    exact ⟨X ++ Y, by rw [List.foldl_cons, h', h, List.append_assoc]⟩
theorem step_pre (ts : List Tie) (A : List Ent) (i : Nat) : ∃ X, stepE ts A i = A ++ X := by
  unfold stepE
  split
  · exact fold_pre _ _ _
  · exact ⟨[], by simp⟩
theorem steps_pre (ts : List Tie) (S0 : St) (k : Nat) : ∀ d, ∃ X, stepsN ts S0 (k + d) = stepsN ts S0 k ++ X
  | 0 => ⟨[], by simp⟩
  | d + 1 => by
    obtain ⟨X, h⟩ := steps_pre ts S0 k d
    obtain ⟨Y, h'⟩ := step_pre ts (stepsN ts S0 (k + d)) (k + d)
    exact ⟨X ++ Y, by show stepE ts (stepsN ts S0 (k + d)) (k + d) = _; rw [h', h, List.append_assoc]⟩
theorem steps_le (ts : List Tie) (S0 : St) {k j : Nat} (h : k ≤ j) : ∃ X, stepsN ts S0 j = stepsN ts S0 k ++ X := by
  obtain ⟨X, e⟩ := steps_pre ts S0 k (j - k)
  exact ⟨X, by rw [show j = k + (j - k) by omega]; exact e⟩
theorem steps_get {ts : List Tie} {S0 : St} {k j i : Nat} (h : k ≤ j) (hi : i < (stepsN ts S0 k).length) : (stepsN ts S0 j)[i]? = (stepsN ts S0 k)[i]? := by
  obtain ⟨X, e⟩ := steps_le ts S0 h
  rw [e, List.getElem?_append_left hi]
/-- nothing is left to do: no more comes -/
theorem steps_end {ts : List Tie} {S0 : St} {k : Nat} (h : (stepsN ts S0 k).length ≤ k) : ∀ d, stepsN ts S0 (k + d) = stepsN ts S0 k
  | 0 => rfl
  | d + 1 => by
    show stepE ts (stepsN ts S0 (k + d)) (k + d) = _
    rw [steps_end h d]
    unfold stepE
    rw [List.getElem?_eq_none (by omega)]
structure GoodA (n m : Nat) (ts : List Tie) (S0 : St) (A : List Ent) : Prop where
  nd : (keysE A).Nodup
  std : ∀ e ∈ A, Std n m e.s
  wl : ∀ e ∈ A, e.word.length < A.length
  path : ∀ e ∈ A, Path ts S0 e.word e.s
  par : ∀ e ∈ A, (e.par = none ∧ e.word = []) ∨ ∃ e' ∈ A, ∃ t, e = entS e' t
  root : S0 ∈ keysE A
section
variable {n m : Nat} {ts : List Tie} {S0 : St} {A : List Ent}
theorem GoodA.start (s : Std n m S0) : GoodA n m ts S0 [⟨S0, none, []⟩] where
  nd := by simp [keysE]
  std := fun e h => by rw [List.mem_singleton.mp h]; exact s
  wl := fun e h => by rw [List.mem_singleton.mp h]; exact Nat.zero_lt_one
  path := fun e h => by rw [List.mem_singleton.mp h]; exact .nil
  par := fun e h => by rw [List.mem_singleton.mp h]; exact .inl ⟨rfl, rfl⟩
  root := List.mem_singleton.mpr rfl
theorem GoodA.push (W : Web n ts) (G : GoodA n m ts S0 A) {e : Ent} (he : e ∈ A) {t : Tie} (ht : t ∈ slL ts e.s) : GoodA n m ts S0 (push e A t) := by
  unfold GL.push
  split
  · exact G
  · rename_i h
    have se := G.std e he
    have sl : Sl n ts e.s t := (mem_sl W (by rw [se.len])).mp ht
    refine ⟨?_, fun x hx => ?_, fun x hx => ?_, fun x hx => ?_, fun x hx => ?_, ?_⟩
    · unfold keysE at h ⊢
      rw [List.map_append]
      exact List.nodup_append.mpr ⟨G.nd, by simp, fun a ma b mb => by
        rw [List.mem_singleton.mp mb]
        intro z
        have z' : a = mvL e.s t := z
        rw [z'] at ma
        exact h ma⟩
    · rcases List.mem_append.mp hx with hx | hx
      · exact G.std x hx
      · rw [List.mem_singleton.mp hx]; exact se.mv sl
    · rw [List.length_append, List.length_singleton]
      rcases List.mem_append.mp hx with hx | hx
      · have := G.wl x hx; omega
      · rw [List.mem_singleton.mp hx]
        have := G.wl e he
        show (e.word ++ [t]).length < _
        rw [List.length_append, List.length_singleton]
        omega
    · rcases List.mem_append.mp hx with hx | hx
      · exact G.path x hx
      · rw [List.mem_singleton.mp hx]; exact .snoc (G.path e he) ht
    · rcases List.mem_append.mp hx with hx | hx
      · rcases G.par x hx with z | ⟨e', m', t', z⟩
        · exact .inl z
        · exact .inr ⟨e', List.mem_append_left _ m', t', z⟩
      · exact .inr ⟨e, List.mem_append_left _ he, t, List.mem_singleton.mp hx⟩
    · unfold keysE
      rw [List.map_append]
      exact List.mem_append_left _ G.root
theorem GoodA.fold (W : Web n ts) {e : Ent} : ∀ (l : List Tie) {A : List Ent}, GoodA n m ts S0 A → e ∈ A → (∀ t ∈ l, t ∈ slL ts e.s) → GoodA n m ts S0 (l.foldl (GL.push e) A) ∧ e ∈ l.foldl (GL.push e) A
  | [], A, G, he, _ => ⟨G, he⟩
  | t :: l, A, G, he, h => by
    rw [List.foldl_cons]
    refine GoodA.fold W l (G.push W he (h t List.mem_cons_self)) ?_ fun u m => h u (List.mem_cons_of_mem _ m)
    obtain ⟨X, e1⟩ := push_pre e A t
    rw [e1]
    exact List.mem_append_left _ he
theorem GoodA.step (W : Web n ts) (G : GoodA n m ts S0 A) (i : Nat) : GoodA n m ts S0 (stepE ts A i) := by
  unfold stepE
  split
  · rename_i e h
    exact (GoodA.fold W _ G (List.mem_of_getElem? h) fun t m => m).1
  · exact G
theorem GoodA.steps (W : Web n ts) (s : Std n m S0) : ∀ k, GoodA n m ts S0 (stepsN ts S0 k)
  | 0 => .start s
  | k + 1 => (GoodA.steps W s k).step W k
end
/-! how many -/
def insAll {α : Type} (a : α) : List α → List (List α)
  | [] => [[a]]
  | b :: l => (a :: b :: l) :: (insAll a l).map (b :: ·)
def permsL {α : Type} : List α → List (List α)
  | [] => [[]]
  | a :: l => (permsL l).flatMap (insAll a)
theorem insAll_len {α : Type} (a : α) : ∀ l : List α, (insAll a l).length = l.length + 1
  | [] => rfl
  | b :: l => by unfold insAll; rw [List.length_cons, List.length_map, insAll_len a l]; rfl
theorem insAll_mem {α : Type} (a : α) : ∀ p q : List α, p ++ a :: q ∈ insAll a (p ++ q)
  | [], [] => List.mem_singleton.mpr rfl
  | [], b :: q => List.mem_cons_self
  | c :: p, q => List.mem_cons_of_mem _ (List.mem_map.mpr ⟨_, insAll_mem a p q, rfl⟩)
theorem mem_perms {α : Type} : ∀ (l x : List α), x.Perm l → x ∈ permsL l
  | [], x, h => by rw [List.Perm.eq_nil h]; exact List.mem_singleton.mpr rfl
  | a :: l, x, h => by
    have ha : a ∈ x := h.mem_iff.mpr List.mem_cons_self
    obtain ⟨p, q, e⟩ := List.append_of_mem ha
    subst e
    have h2 : (p ++ q).Perm l := List.Perm.cons_inv (List.perm_middle.symm.trans h)
    exact List.mem_flatMap.mpr ⟨_, mem_perms l _ h2, insAll_mem a p q⟩
theorem perms_each {α : Type} : ∀ (l : List α), ∀ x ∈ permsL l, x.length = l.length
  | [], x, h => by rw [List.mem_singleton.mp h]
  | a :: l, x, h => by
    obtain ⟨y, my, mx⟩ := List.mem_flatMap.mp h
    have hy := perms_each l y my
    have ins : ∀ (y x : List α), x ∈ insAll a y → x.length = y.length + 1 := by
      intro y
      induction y with
      | nil => intro x h; rw [List.mem_singleton.mp h]; rfl
      | cons b y ih =>
        intro x h
        rcases List.mem_cons.mp h with h | h
        · rw [h]; rfl
        · obtain ⟨z, mz, e⟩ := List.mem_map.mp h
          rw [← e, List.length_cons, ih z mz, List.length_cons]
    rw [ins y x mx, hy, List.length_cons]
def factN : Nat → Nat
  | 0 => 1
  | k + 1 => (k + 1) * factN k
theorem perms_len {α : Type} : ∀ l : List α, (permsL l).length = factN l.length
  | [] => rfl
  | a :: l => by
    unfold permsL
    rw [List.length_flatMap]
    have e : (permsL l).map (fun x => (insAll a x).length) = List.replicate (permsL l).length (l.length + 1) := by
      rw [← List.map_const', ]
      refine List.map_congr_left fun x mx => ?_
      rw [insAll_len, perms_each l x mx]
    rw [e, List.sum_replicate_nat, perms_len l, List.length_cons]
    show _ = (l.length + 1) * factN l.length
    rw [Nat.mul_comm]
theorem GoodA.len {n m : Nat} {ts : List Tie} {S0 : St} {A : List Ent} (G : GoodA n m ts S0 A) (h5 : n ≤ 5) (hm : m < n) : A.length ≤ 120 := by
  have h1 : (keysE A).length ≤ (permsL (L0 m (n - m))).length := nodup_le G.nd fun x hx => by
    obtain ⟨e, me, rfl⟩ := List.mem_map.mp hx
    exact mem_perms _ _ (G.std e me).perm
  rw [perms_len, L0_len, show m + (n - m) = n by omega] at h1
  unfold keysE at h1
  rw [List.length_map] at h1
  have h2 : factN n ≤ 120 := by
    match n, h5 with
    | 0, _ => decide
    | 1, _ => decide
    | 2, _ => decide
    | 3, _ => decide
    | 4, _ => decide
    | 5, _ => decide
  omega
end GL
/-! The law's search. -/
namespace GL
open PySem L2 GR

def dnOf (F : Ent → D) (A : List Ent) : List (NKey × D) := A.map fun e => (stK e.s, F e)
theorem look_dn (F : Ent → D) (S : St) : ∀ A : List Ent, lookO (dnOf F A) (stK S) = (A.find? fun e => decide (e.s = S)).map F
  | [] => rfl
  | e :: A => by
    have ih := look_dn F S A
    unfold lookO dnOf at ih ⊢
    rw [List.map_cons]
    by_cases h : e.s = S
    · rw [List.find?_cons_of_pos (by simp [h]), List.find?_cons_of_pos (by simp [h])]
      rfl
    · rw [List.find?_cons_of_neg (by simp; exact fun z => h (stK_inj z)), List.find?_cons_of_neg (by simp [h])]
      exact ih
theorem find_key {S : St} : ∀ {A : List Ent}, (A.find? fun e => decide (e.s = S)).isSome = decide (S ∈ keysE A)
  | [] => rfl
  | e :: A => by
    by_cases h : e.s = S
    · rw [List.find?_cons_of_pos (by simp [h])]
      have : S ∈ keysE (e :: A) := by unfold keysE; rw [List.map_cons, h]; exact List.mem_cons_self
      rw [decide_eq_true this]; rfl
    · rw [List.find?_cons_of_neg (by simp [h]), find_key]
      have : (S ∈ keysE (e :: A)) ↔ S ∈ keysE A := by
        unfold keysE
        rw [List.map_cons, List.mem_cons]
        exact ⟨fun z => z.elim (fun z => absurd z.symm h) id, .inr⟩
      by_cases q : S ∈ keysE A
      · rw [decide_eq_true q, decide_eq_true (this.mpr q)]
      · rw [decide_eq_false q, decide_eq_false (fun z => q (this.mp z))]
theorem in_dn (F : Ent → D) (S : St) (A : List Ent) : (lookO (dnOf F A) (stK S)).isSome = decide (S ∈ keysE A) := by
  rw [look_dn, Option.isSome_map, find_key]
theorem find_self : ∀ {A : List Ent}, (keysE A).Nodup → ∀ {e : Ent}, e ∈ A → (A.find? fun x => decide (x.s = e.s)) = some e
  | [], _, _, h => nomatch h
  | a :: A, nd, e, h => by
    obtain ⟨n1, n2⟩ := List.nodup_cons.mp (show (a.s :: keysE A).Nodup from nd)
    rcases List.mem_cons.mp h with rfl | h
    · rw [List.find?_cons_of_pos (by simp)]
    · have : a.s ≠ e.s := fun z => n1 (by rw [z]; exact List.mem_map.mpr ⟨e, h, rfl⟩)
      rw [List.find?_cons_of_neg (by simp [this]), find_self n2 h]
theorem look_self (F : Ent → D) {A : List Ent} (nd : (keysE A).Nodup) {e : Ent} (h : e ∈ A) : lookO (dnOf F A) (stK e.s) = some (F e) := by
  rw [look_dn, find_self nd h]; rfl
theorem put_dn (F : Ent → D) {A : List Ent} {e : Ent} (h : e.s ∉ keysE A) : putO (dnOf F A) (stK e.s) (F e) = dnOf F (A ++ [e]) := by
  unfold putO
  rw [if_neg]
  · unfold dnOf; rw [List.map_append]; rfl
  · intro z
    rw [List.any_eq_true] at z
    obtain ⟨p, mp, e1⟩ := z
    obtain ⟨x, mx, rfl⟩ := List.mem_map.mp mp
    exact h (List.mem_map.mpr ⟨x, mx, stK_inj (of_decide_eq_true e1)⟩)
/-! rules for such dicts -/
theorem x_inN {neg : Bool} {i : Nat} {a : Sem} {env e1 : LEnv} {S : St} {F : Ent → D} {A : List Ent} (ha : a env = some (stD S, e1)) (hd : dnAt e1 i = some (dnOf F A)) : fInN neg i a env = some (.bool (if neg then !decide (S ∈ keysE A) else decide (S ∈ keysE A)), e1) := by
  unfold fInN
  rw [ha, Option.bind_some]
  dsimp only
  rw [hd, Option.bind_some, tk_st]
  show some (PyData.bool (if neg then !(lookO (dnOf F A) (stK S)).isSome else (lookO (dnOf F A) (stK S)).isSome), e1) = _
  rw [in_dn]
theorem x_ixN {i : Nat} {b : Sem} {env e1 : LEnv} {e : Ent} {F : Ent → D} {A : List Ent} (h0 : dnAt env i = some (dnOf F A)) (hb : b env = some (stD e.s, e1)) (hd : dnAt e1 i = some (dnOf F A)) (nd : (keysE A).Nodup) (he : e ∈ A) : fIxN i b env = some (F e, e1) := by
  unfold fIxN
  rw [h0, Option.bind_some, hb, Option.bind_some]
  dsimp only
  rw [hd, Option.bind_some, tk_st, Option.bind_some, look_self F nd he]
  rfl
theorem x_putN {i : Nat} {fk fv : Sem} {env e1 e2 : LEnv} {d : D} {e : Ent} {F : Ent → D} {A : List Ent} (hv : fv env = some (d, e1)) (h1 : dnAt e1 i = some (dnOf F A)) (hk : fk e1 = some (stD e.s, e2)) (h2 : dnAt e2 i = some (dnOf F A)) (hd : d = F e) (hn : e.s ∉ keysE A) (hl : A.length < 1000000) :
    sPutN i fk fv env = some (.nx (dnSet e2 i (dnOf F (A ++ [e])))) := by
  unfold sPutN
  rw [hv, Option.bind_some]
  dsimp only
  rw [h1, Option.bind_some, hk, Option.bind_some]
  dsimp only
  rw [h2, Option.bind_some, tk_st, Option.bind_some, if_pos (by unfold dnOf; rw [List.length_map]; exact hl), hd, put_dn F hn]
/-! the law's search -/
def lw (e : Ent) : D := .tuple (e.word.map tieD)
def ordD (A : List Ent) : List D := A.map fun e => stD e.s
abbrev lwE (y x : D) (A : List Ent) (s4 s5 s6 s7 : Slot) : LEnv := [.val y, .val x, .dn (dnOf lw A), .ol (ordD A), s4, s5, s6, s7]
abbrev lwB : SemS := (sSeq (sAsg 7 (fCall 2 m__law_slid (fCons (fVar 5) (fCons (fVar 6) fNil)))) (sIf (fTest (fInN true 2 (fVar 7))) (sSeq (sPutN 2 (fVar 7) (fOp2 dAdd (fIxN 2 (fVar 5)) (fTup (fCons (fVar 6) fNil)))) (sExpr (sAppend 3 (fVar 7)))) sNext))
section
variable {n m : Nat} {ts : List Tie} {S0 : St} {g : Int}
theorem lw_turn (W : Web n ts) (y x : D) {A : List Ent} (G : GoodA n m ts S0 A) (hl : A.length ≤ 1000) {e : Ent} (he : e ∈ A) {t : Tie} (ht : t ∈ slL ts e.s) (s4 s7 : Slot) (o7 : owns s7 = false) :
    lwB (lwE y x A s4 (.val (stD e.s)) (.val (tieD t)) s7) = some (.nx (lwE y x (push e A t) s4 (.val (stD e.s)) (.val (tieD t)) (.val (stD (mvL e.s t))))) := by
  have se := G.std e he
  have sl : Sl n ts e.s t := (mem_sl W (by rw [se.len])).mp ht
  let E : List Ent → LEnv := fun A => lwE y x A s4 (.val (stD e.s)) (.val (tieD t)) (.val (stD (mvL e.s t)))
  have n7 : noRow (lwE y x A s4 (.val (stD e.s)) (.val (tieD t)) s7) 7 = true := noRow_own (s := s7) rfl o7
  refine x_go (e1 := E A) (x_asg' (x_call (x_cons (x_var rfl) (x_cons (x_var rfl) rfl)) rfl (law_slid_is (by rw [se.len]) sl)) n7 rfl) ?_
  have tst : fTest (fInN true 2 (fVar 7)) (E A) = some (!decide (mvL e.s t ∈ keysE A), E A) := x_test (x_inN (F := lw) (A := A) (x_var rfl) rfl)
  rw [x_if tst]
  unfold push
  by_cases h : mvL e.s t ∈ keysE A
  · rw [if_pos h, decide_eq_true h]
    rfl
  · rw [if_neg h, decide_eq_false h]
    have w := G.wl e he
    have v : fOp2 dAdd (fIxN 2 (fVar 5)) (fTup (fCons (fVar 6) fNil)) (E A) = some (lw (entS e t), E A) := by
      refine x_op2 (x_ixN (F := lw) (A := A) rfl (x_var rfl) rfl G.nd he) (x_tup (x_cons (x_var rfl) rfl) (by simp)) ?_
      show (if (e.word.map tieD).length + [tieD t].length ≤ 1000000 then some (PyData.tuple (e.word.map tieD ++ [tieD t])) else none) = _
      rw [if_pos (by rw [List.length_map, List.length_singleton]; omega)]
      show some (PyData.tuple _) = some (PyData.tuple ((e.word ++ [t]).map tieD))
      rw [List.map_append]
      rfl
    have p := x_putN (i := 2) (fk := fVar 7) (e := entS e t) (F := lw) (A := A) v rfl (x_var rfl) rfl rfl h (by omega)
    refine x_go (e1 := [.val y, .val x, .dn (dnOf lw (A ++ [entS e t])), .ol (ordD A), s4, .val (stD e.s), .val (tieD t), .val (stD (mvL e.s t))]) p ?_
    refine x_expr (x_append (ds0 := ordD A) (ds := ordD A) (d := stD (mvL e.s t)) rfl (x_var rfl) rfl (by unfold ordD; rw [List.length_map]; omega) ?_)
    have : ordD A ++ [stD (mvL e.s t)] = ordD (A ++ [entS e t]) := by unfold ordD; rw [List.map_append]; rfl
    rw [this]
    rfl
theorem fold_len (e : Ent) : ∀ (l : List Tie) (A : List Ent), (l.foldl (push e) A).length ≤ A.length + l.length
  | [], A => Nat.le_refl _
  | t :: l, A => by
    have h1 := fold_len e l (push e A t)
    have h2 : (push e A t).length ≤ A.length + 1 := by
      unfold push
      split
      · omega
      · rw [List.length_append]; exact Nat.le_refl _
    rw [List.foldl_cons, List.length_cons]
    omega
theorem lw_node (W : Web n ts) (h5 : n ≤ 5) (hm : m < n) (hg : 0 ≤ g ∧ g < n) (x : D) {A : List Ent} (G : GoodA n m ts S0 A) {e : Ent} (he : e ∈ A) (s4 s6 s7 : Slot) (o6 : owns s6 = false) (o7 : owns s7 = false) :
    ∃ s6' s7', owns s6' = false ∧ owns s7' = false ∧ sFor (fItems (fCall 2 m__law_slides (fCons (fVar 0) (fCons (fVar 5) fNil)))) (tgName 6) lwB (lwE (yardD n ts g) x A s4 (.val (stD e.s)) s6 s7) = some (.nx (lwE (yardD n ts g) x (expand ts A e) s4 (.val (stD e.s)) s6' s7')) := by
  have se := G.std e he
  let y := yardD n ts g
  obtain ⟨e', h1, s6', s7', h2, h3, h4⟩ := x_forM (α := Tie) tieD (g := tgName 6) (b := lwB)
    (fun a en => ∃ s6 s7, en = lwE y x (a.foldl (push e) A) s4 (.val (stD e.s)) s6 s7 ∧ owns s6 = false ∧ owns s7 = false) (slL ts e.s) (lwE y x A s4 (.val (stD e.s)) s6 s7) ⟨s6, s7, rfl, o6, o7⟩
    (fun a t r en hx ⟨s6, s7, e1, o6, o7⟩ => by
      subst e1
      have mt : t ∈ slL ts e.s := by rw [hx]; simp
      obtain ⟨Ga, hea⟩ := GoodA.fold W a G he fun u mu => by rw [hx]; exact List.mem_append_left _ mu
      have la := Ga.len h5 hm
      have n6 : noRow (lwE y x (a.foldl (push e) A) s4 (.val (stD e.s)) s6 s7) 6 = true := noRow_own (s := s6) rfl o6
      refine ⟨lwE y x (a.foldl (push e) A) s4 (.val (stD e.s)) (.val (tieD t)) s7, _, x_tg n6 rfl, .inl (lw_turn W y x Ga (by omega) hea mt s4 s7 o7), .val (tieD t), .val (stD (mvL e.s t)), ?_, rfl, rfl⟩
      rw [List.foldl_append]
      rfl)
  subst h2
  exact ⟨s6', s7', h3, h4, x_sForI (x_items (x_call (x_cons (x_var rfl) (x_cons (x_var rfl) rfl)) rfl (law_slides_is (g := g) W (by rw [se.len]))) rfl) h1⟩
theorem cut_one (xs : List D) (k : Nat) : cutD xs (some (k : Int)) (some ((k : Int) + 1)) = match xs[k]? with
    | some d => [d]
    | none => [] := by
  unfold cutD
  have h1 : HT.sIx xs.length 0 (some (k : Int)) = min k xs.length := by
    simp [HT.sIx]
    try omega
  have h2 : HT.sIx xs.length xs.length (some ((k : Int) + 1)) = min (k + 1) xs.length := by
    simp [HT.sIx]
    try omega
  rw [h1, h2]
  by_cases h : k < xs.length
  · rw [List.getElem?_eq_getElem h, show min k xs.length = k by omega, show min (k + 1) xs.length - k = 1 by omega, List.drop_eq_getElem_cons h]
    rfl
  · rw [List.getElem?_eq_none (by omega), show min (k + 1) xs.length - min k xs.length = 0 by omega]
    rfl
theorem law_words_is (W : Web n ts) (h5 : n ≤ 5) (hg : 0 ≤ g ∧ g < n) (s : Std n m S0) : m__law_words [yardD n ts g, stD S0] = some (dnOf lw (stepsN ts S0 6000)) := by
  let y := yardD n ts g
  obtain ⟨e', h1, s4', s5', s6', s7', h2, _⟩ := x_forM (α := Nat) (fun i => .int (0 + (i : Int))) (g := tgName 4) (b := (sFor (fItems (asList (fSlN 3 (foSome (fVar 4)) (foSome (fOp2 dAdd (fVar 4) (fC (.int 1))))))) (tgName 5) (sFor (fItems (fCall 2 m__law_slides (fCons (fVar 0) (fCons (fVar 5) fNil)))) (tgName 6) lwB)))
    (fun a en => ∃ s4 s5 s6 s7, en = lwE y (stD S0) (stepsN ts S0 a.length) s4 s5 s6 s7 ∧ owns s4 = false ∧ owns s5 = false ∧ owns s6 = false ∧ owns s7 = false) (List.range 6000) (lwE y (stD S0) [⟨S0, none, []⟩] .un .un .un .un) ⟨.un, .un, .un, .un, rfl, rfl, rfl, rfl, rfl⟩
    (fun a k r en hx ⟨s4, s5, s6, s7, e1, o4, o5, o6, o7⟩ => by
      subst e1
      have hk : k = a.length := by
        have this : (List.range 6000)[a.length]? = (a ++ k :: r)[a.length]? := by rw [hx]
        rw [List.getElem?_append_right (Nat.le_refl _), Nat.sub_self] at this
        have la : a.length < 6000 := by
          have := congrArg List.length hx
          rw [List.length_range, List.length_append, List.length_cons] at this
          omega
        rw [List.getElem?_range la] at this
        exact (Option.some.inj this).symm
      subst hk
      let A := stepsN ts S0 a.length
      have G : GoodA n m ts S0 A := GoodA.steps W s a.length
      have n4 : noRow (lwE y (stD S0) A s4 s5 s6 s7) 4 = true := noRow_own (s := s4) rfl o4
      let E : LEnv := lwE y (stD S0) A (.val (.int (0 + (a.length : Int)))) s5 s6 s7
      have sl : fItems (asList (fSlN 3 (foSome (fVar 4)) (foSome (fOp2 dAdd (fVar 4) (fC (.int 1)))))) E = some (cutD (ordD A) (some (0 + (a.length : Int))) (some (0 + (a.length : Int) + 1)), E) := rfl
      rw [Int.zero_add] at sl
      have c1 := cut_one (ordD A) a.length
      cases hA : A[a.length]? with
      | none =>
        have hA' : (ordD A)[a.length]? = none := by unfold ordD; rw [List.getElem?_map, hA]; rfl
        rw [hA'] at c1
        refine ⟨E, E, x_tg n4 rfl, .inl (x_sForI (sl.trans (by rw [c1])) rfl), .val (.int (0 + (a.length : Int))), s5, s6, s7, ?_, rfl, o5, o6, o7⟩
        rw [List.length_append, List.length_singleton]
        show E = lwE y (stD S0) (stepE ts A a.length) _ _ _ _
        unfold stepE
        rw [hA]
      | some e =>
        have hA' : (ordD A)[a.length]? = some (stD e.s) := by unfold ordD; rw [List.getElem?_map, hA]; rfl
        rw [hA'] at c1
        have n5 : noRow E 5 = true := noRow_own (s := s5) rfl o5
        obtain ⟨s6', s7', o6', o7', nd⟩ := lw_node (g := g) W h5 s.mn hg (stD S0) G (List.mem_of_getElem? hA) (.val (.int (0 + (a.length : Int)))) s6 s7 o6 o7
        refine ⟨E, lwE y (stD S0) (expand ts A e) (.val (.int (0 + (a.length : Int)))) (.val (stD e.s)) s6' s7', x_tg n4 rfl, .inl (x_sForI (sl.trans (by rw [c1])) ?_), .val (.int (0 + (a.length : Int))), .val (stD e.s), s6', s7', ?_, rfl, rfl, o6', o7'⟩
        · unfold sForL
          rw [x_tg (e2 := lwE y (stD S0) A (.val (.int (0 + (a.length : Int)))) (.val (stD e.s)) s6 s7) n5 rfl, Option.bind_some, nd]
          rfl
        · rw [List.length_append, List.length_singleton]
          show _ = lwE y (stD S0) (stepE ts A a.length) _ _ _ _
          unfold stepE
          rw [hA])
  subst h2
  show b__law_words (startE 8 [y, stD S0]) = _
  unfold b__law_words wSeq
  have par : sPar 2 3 (vNew (fOneN (fVar 1) (fTup fNil))) (vList (fLst' (fCons (fVar 1) fNil))) (startE 8 [y, stD S0]) = some (.nx (lwE y (stD S0) [⟨S0, none, []⟩] .un .un .un .un)) := by
    have o1 : fOneN (fVar 1) (fTup fNil) (startE 8 [y, stD S0]) = some (.dn (dnOf lw [⟨S0, none, []⟩]), startE 8 [y, stD S0]) := by
      unfold fOneN
      rw [x_var (i := 1) (env := startE 8 [y, stD S0]) (d := stD S0) rfl, Option.bind_some]
      dsimp only
      rw [x_tup (r := fNil) (ds := []) (e1 := startE 8 [y, stD S0]) rfl (by simp), Option.bind_some, tk_st]
      rfl
    unfold sPar vNew
    rw [o1]
    rfl
  rw [par, Option.bind_some]
  dsimp only
  rw [x_sForI (fi := fRange1 (fC (.int 6000))) (ds := (List.range 6000).map fun i : Nat => PyData.int (0 + (i : Int))) (x_range1 (n := 6000) rfl (by decide) (by decide)) h1]
  show some _ = _
  rw [List.length_range]
end
end GL
/-! The program's search, by rows. -/
namespace GL
open PySem L2 GR

def pr (e : Ent) : D := match e.par with
  | none => .none
  | some (p, t) => .tuple [stD p, tieD t]
abbrev nrE (x r : D) (A : List Ent) (L : List D) (s4 s5 s6 : Slot) : LEnv := [.val x, .ln (dnOf pr A), .val r, .ol L, s4, s5, s6]
abbrev nrB : SemS := (sSeq (sAsg 6 (fCall 2 m_moved (fCons (fVar 4) (fCons (fVar 5) fNil)))) (sIf (fTest (fInN true 1 (fVar 6))) (sSeq (sPutN 1 (fVar 6) (fTup (fCons (fVar 4) (fCons (fVar 5) fNil)))) (sExpr (sAppend 3 (fVar 6)))) sNext))
section
variable {n m : Nat} {ts : List Tie} {S0 : St} {g : Int}
theorem ordD_len (A : List Ent) : (ordD A).length = A.length := by unfold ordD; rw [List.length_map]
theorem nr_turn (W : Web n ts) (x r : D) {A : List Ent} (G : GoodA n m ts S0 A) (hl : A.length ≤ 1000) {k : Nat} (hk : k ≤ A.length) {e : Ent} (he : e ∈ A) {t : Tie} (ht : t ∈ slL ts e.s) (s6 : Slot) (o6 : owns s6 = false) :
    nrB (nrE x r A ((ordD A).drop k) (.val (stD e.s)) (.val (tieD t)) s6) = some (.nx (nrE x r (push e A t) ((ordD (push e A t)).drop k) (.val (stD e.s)) (.val (tieD t)) (.val (stD (mvL e.s t))))) := by
  have se := G.std e he
  have sl : Sl n ts e.s t := (mem_sl W (by rw [se.len])).mp ht
  let E : List Ent → LEnv := fun B => nrE x r B ((ordD A).drop k) (.val (stD e.s)) (.val (tieD t)) (.val (stD (mvL e.s t)))
  have n6 : noRow (nrE x r A ((ordD A).drop k) (.val (stD e.s)) (.val (tieD t)) s6) 6 = true := noRow_own (s := s6) rfl o6
  refine x_go (e1 := E A) (x_asg' (x_call (x_cons (x_var rfl) (x_cons (x_var rfl) rfl)) rfl (moved_is (by rw [se.len]) sl)) n6 rfl) ?_
  have tst : fTest (fInN true 1 (fVar 6)) (E A) = some (!decide (mvL e.s t ∈ keysE A), E A) := x_test (x_inN (F := pr) (A := A) (x_var rfl) rfl)
  rw [x_if tst]
  unfold push
  by_cases h : mvL e.s t ∈ keysE A
  · rw [if_pos h, decide_eq_true h]
    rfl
  · rw [if_neg h, decide_eq_false h]
    have v : fTup (fCons (fVar 4) (fCons (fVar 5) fNil)) (E A) = some (pr (entS e t), E A) := x_tup (x_cons (x_var rfl) (x_cons (x_var rfl) rfl)) (by simp)
    have p := x_putN (i := 1) (fk := fVar 6) (e := entS e t) (F := pr) (A := A) v rfl (x_var rfl) rfl rfl h (by omega)
    refine x_go (e1 := E (A ++ [entS e t])) p ?_
    have le : ((ordD A).drop k).length < 1000000 := by rw [List.length_drop, ordD_len]; omega
    refine x_expr (x_append (ds0 := (ordD A).drop k) (ds := (ordD A).drop k) (d := stD (mvL e.s t)) rfl (x_var rfl) rfl le ?_)
    have : (ordD A).drop k ++ [stD (mvL e.s t)] = (ordD (A ++ [entS e t])).drop k := by
      unfold ordD
      rw [List.map_append, List.drop_append_of_le_length (by rw [List.length_map]; exact hk)]
      rfl
    rw [this]
    rfl
theorem nr_node (W : Web n ts) (h5 : n ≤ 5) (hm : m < n) (r : D) {A : List Ent} (G : GoodA n m ts S0 A) {k : Nat} (hk : k ≤ A.length) {e : Ent} (he : e ∈ A) (s5 s6 : Slot) (o5 : owns s5 = false) (o6 : owns s6 = false) :
    ∃ s5' s6', owns s5' = false ∧ owns s6' = false ∧ sFor (fItems (fCall 2 m_slides_at (fCons (fVar 0) (fCons (fVar 4) fNil)))) (tgName 5) nrB (nrE (.tuple (ts.map tieD)) r A ((ordD A).drop k) (.val (stD e.s)) s5 s6) = some (.nx (nrE (.tuple (ts.map tieD)) r (expand ts A e) ((ordD (expand ts A e)).drop k) (.val (stD e.s)) s5' s6')) := by
  have se := G.std e he
  let y : D := .tuple (ts.map tieD)
  obtain ⟨e', h1, s5', s6', h2, h3, h4⟩ := x_forM (α := Tie) tieD (g := tgName 5) (b := nrB)
    (fun a en => ∃ s5 s6, en = nrE y r (a.foldl (push e) A) ((ordD (a.foldl (push e) A)).drop k) (.val (stD e.s)) s5 s6 ∧ owns s5 = false ∧ owns s6 = false) (slL ts e.s) (nrE y r A ((ordD A).drop k) (.val (stD e.s)) s5 s6) ⟨s5, s6, rfl, o5, o6⟩
    (fun a t rr en hx ⟨s5, s6, e1, o5, o6⟩ => by
      subst e1
      have mt : t ∈ slL ts e.s := by rw [hx]; simp
      obtain ⟨Ga, hea⟩ := GoodA.fold W a G he fun u mu => by rw [hx]; exact List.mem_append_left _ mu
      have la := Ga.len h5 hm
      have ka : k ≤ (a.foldl (push e) A).length := by
        obtain ⟨X, hX⟩ := fold_pre e a A
        rw [hX, List.length_append]
        omega
      have n5 : noRow (nrE y r (a.foldl (push e) A) ((ordD (a.foldl (push e) A)).drop k) (.val (stD e.s)) s5 s6) 5 = true := noRow_own (s := s5) rfl o5
      refine ⟨nrE y r (a.foldl (push e) A) ((ordD (a.foldl (push e) A)).drop k) (.val (stD e.s)) (.val (tieD t)) s6, _, x_tg n5 rfl, .inl (nr_turn W y r Ga (by omega) ka hea mt s6 o6), .val (tieD t), .val (stD (mvL e.s t)), ?_, rfl, rfl⟩
      rw [List.foldl_append]
      rfl)
  subst h2
  exact ⟨s5', s6', h3, h4, x_sForI (x_items (x_call (x_cons (x_var rfl) (x_cons (x_var rfl) rfl)) rfl (slides_at_is W (by rw [se.len]))) rfl) h1⟩
theorem next_row_is (W : Web n ts) (h5 : n ≤ 5) (s : Std n m S0) (k : Nat) (hk : k ≤ (stepsN ts S0 k).length) :
    m_next_row (dnOf pr (stepsN ts S0 k)) [.tuple (ts.map tieD)] [.list ((ordD (stepsN ts S0 k)).drop k)] = some (.list ((ordD (stepsN ts S0 (stepsN ts S0 k).length)).drop (stepsN ts S0 k).length), dnOf pr (stepsN ts S0 (stepsN ts S0 k).length)) := by
  let y : D := .tuple (ts.map tieD)
  let k' := (stepsN ts S0 k).length
  let r : D := .list ((ordD (stepsN ts S0 k)).drop k)
  have rows : (ordD (stepsN ts S0 k)).drop k = ((stepsN ts S0 k).drop k).map fun e => stD e.s := by unfold ordD; rw [List.map_drop]
  have z0 : (ordD (stepsN ts S0 k)).drop k' = [] := List.drop_eq_nil_of_le (by rw [ordD_len]; exact Nat.le_refl _)
  obtain ⟨e', h1, s4', s5', s6', h2, _⟩ := x_forM (α := Ent) (fun e => stD e.s) (g := tgName 4) (b := sFor (fItems (fCall 2 m_slides_at (fCons (fVar 0) (fCons (fVar 4) fNil)))) (tgName 5) nrB)
    (fun a en => ∃ s4 s5 s6, en = nrE y r (stepsN ts S0 (k + a.length)) ((ordD (stepsN ts S0 (k + a.length))).drop k') s4 s5 s6 ∧ owns s4 = false ∧ owns s5 = false ∧ owns s6 = false) ((stepsN ts S0 k).drop k) (nrE y r (stepsN ts S0 k) [] .un .un .un) ⟨.un, .un, .un, by rw [← z0]; rfl, rfl, rfl, rfl⟩
    (fun a x rr en hx ⟨s4, s5, s6, e1, o4, o5, o6⟩ => by
      subst e1
      have ha : a.length < k' - k := by
        have := congrArg List.length hx
        rw [List.length_drop, List.length_append, List.length_cons] at this
        show _ < (stepsN ts S0 k).length - k
        omega
      have gx : (stepsN ts S0 k)[k + a.length]? = some x := by
        rw [← List.getElem?_drop, hx, List.getElem?_append_right (Nat.le_refl _), Nat.sub_self]
        rfl
      have gy : (stepsN ts S0 (k + a.length))[k + a.length]? = some x := by
        rw [steps_get (Nat.le_add_right k a.length) (by show k + a.length < k'; omega)]
        exact gx
      have G : GoodA n m ts S0 (stepsN ts S0 (k + a.length)) := GoodA.steps W s _
      have kl : k' ≤ (stepsN ts S0 (k + a.length)).length := by
        obtain ⟨X, hX⟩ := steps_pre ts S0 k a.length
        rw [hX, List.length_append]
        exact Nat.le_add_right _ _
      have n4 : noRow (nrE y r (stepsN ts S0 (k + a.length)) ((ordD (stepsN ts S0 (k + a.length))).drop k') s4 s5 s6) 4 = true := noRow_own (s := s4) rfl o4
      obtain ⟨s5', s6', o5', o6', nd⟩ := nr_node W h5 s.mn r G kl (List.mem_of_getElem? gy) s5 s6 o5 o6
      refine ⟨nrE y r (stepsN ts S0 (k + a.length)) ((ordD (stepsN ts S0 (k + a.length))).drop k') (.val (stD x.s)) s5 s6, _, x_tg n4 rfl, .inl nd, .val (stD x.s), s5', s6', ?_, rfl, o5', o6'⟩
      have st : stepsN ts S0 (k + (a ++ [x]).length) = expand ts (stepsN ts S0 (k + a.length)) x := by
        rw [List.length_append, List.length_singleton]
        show stepE ts (stepsN ts S0 (k + a.length)) (k + a.length) = _
        unfold stepE
        rw [gy]
      rw [st])
  subst h2
  have kk : k + ((stepsN ts S0 k).drop k).length = k' := by rw [List.length_drop]; show k + (k' - k) = k'; have : k ≤ k' := hk; omega
  rw [kk] at h1
  show (b_next_row (nrE y r (stepsN ts S0 k) [] .un .un .un |>.set 3 .un)).bind _ = _
  have body : b_next_row ((nrE y r (stepsN ts S0 k) [] .un .un .un).set 3 .un) = some (.rt (.list ((ordD (stepsN ts S0 k')).drop k')) ((nrE y r (stepsN ts S0 k') [] s4' s5' s6').set 3 (.val (.list ((ordD (stepsN ts S0 k')).drop k'))))) := by
    unfold b_next_row
    refine x_go (e1 := nrE y r (stepsN ts S0 k) [] .un .un .un) rfl ?_
    refine x_go (x_sForI (e1 := nrE y r (stepsN ts S0 k) [] .un .un .un) (x_items (d := r) (x_var rfl) (by show some _ = _; rw [rows])) h1) ?_
    exact x_ret rfl
  rw [body]
  rfl
abbrev fsE (y x : D) (A : List Ent) (r : D) : LEnv := [.val y, .val x, .dn (dnOf pr A), .val r]
def fsM (env : LEnv) : Nat := match (env[2]? : Option Slot), (env[3]? : Option Slot) with
  | some (Slot.dn kvs), some (Slot.val (.list r)) => 200 - (kvs.length - r.length)
  | _, _ => 0
theorem first_steps_is (W : Web n ts) (h5 : n ≤ 5) (s : Std n m S0) : m_first_steps [.tuple (ts.map tieD), stD S0] = some (dnOf pr (stepsN ts S0 6000)) := by
  let y : D := .tuple (ts.map tieD)
  have len : ∀ k, (stepsN ts S0 k).length ≤ 120 := fun k => (GoodA.steps (m := m) W s k).len h5 s.mn
  have mu : ∀ k, k ≤ (stepsN ts S0 k).length → fsM (fsE y (stD S0) (stepsN ts S0 k) (.list ((ordD (stepsN ts S0 k)).drop k))) = 200 - k := fun k hk => by
    show 200 - ((dnOf pr (stepsN ts S0 k)).length - ((ordD (stepsN ts S0 k)).drop k).length) = _
    unfold dnOf
    rw [List.length_map, List.length_drop, ordD_len]
    omega
  obtain ⟨e', h1, h2⟩ := x_while (c := fTruth (fPeek 3)) (b := sAsg 3 (fCallL 2 1 1 m_next_row (pCons (fVar 0) (pHere 2 (fCons (fVar 3) fNil)))))
    (fun env => ∃ k, k ≤ (stepsN ts S0 k).length ∧ env = fsE y (stD S0) (stepsN ts S0 k) (.list ((ordD (stepsN ts S0 k)).drop k)))
    (fun env => ∃ r, env = fsE y (stD S0) (stepsN ts S0 6000) r) fsM
    (fun e ⟨k, hk, he⟩ => by
      subst he
      have tr : fTruth (fPeek 3) (fsE y (stD S0) (stepsN ts S0 k) (.list ((ordD (stepsN ts S0 k)).drop k))) = some (!((ordD (stepsN ts S0 k)).drop k).isEmpty, fsE y (stD S0) (stepsN ts S0 k) (.list ((ordD (stepsN ts S0 k)).drop k))) := rfl
      have lk := len k
      by_cases h : (stepsN ts S0 k).length ≤ k
      · have z : (ordD (stepsN ts S0 k)).drop k = [] := List.drop_eq_nil_of_le (by rw [ordD_len]; exact h)
        refine .inl ⟨_, tr.trans (by rw [z]; rfl), .list ((ordD (stepsN ts S0 k)).drop k), ?_⟩
        have := steps_end h (6000 - k)
        rw [show k + (6000 - k) = 6000 by omega] at this
        rw [this, z]
      · have ne : ((ordD (stepsN ts S0 k)).drop k).isEmpty = false := by
          cases q : (ordD (stepsN ts S0 k)).drop k with
          | nil =>
            have := congrArg List.length q
            rw [List.length_drop, ordD_len] at this
            simp at this
            omega
          | cons a r => rfl
        refine .inr ⟨_, fsE y (stD S0) (stepsN ts S0 (stepsN ts S0 k).length) (.list ((ordD (stepsN ts S0 (stepsN ts S0 k).length)).drop (stepsN ts S0 k).length)), tr.trans (by rw [ne]; rfl), .inl ?_, ⟨_, ?_, rfl⟩, ?_⟩
        · refine x_asg' (e1 := fsE y (stD S0) (stepsN ts S0 (stepsN ts S0 k).length) (.list ((ordD (stepsN ts S0 k)).drop k))) (d := .list ((ordD (stepsN ts S0 (stepsN ts S0 k).length)).drop (stepsN ts S0 k).length)) ?_ rfl rfl
          have ar : pCons (fVar 0) (pHere 2 (fCons (fVar 3) fNil)) (fsE y (stD S0) (stepsN ts S0 k) (.list ((ordD (stepsN ts S0 k)).drop k))) = some (([y], [.list ((ordD (stepsN ts S0 k)).drop k)]), fsE y (stD S0) (stepsN ts S0 k) (.list ((ordD (stepsN ts S0 k)).drop k))) := rfl
          unfold fCallL
          rw [ar, Option.bind_some]
          show (m_next_row (dnOf pr (stepsN ts S0 k)) [y] [.list ((ordD (stepsN ts S0 k)).drop k)]).map _ = _
          rw [next_row_is W h5 s k hk]
          rfl
        · obtain ⟨X, hX⟩ := steps_le ts S0 (show k ≤ (stepsN ts S0 k).length by omega)
          rw [hX, List.length_append]
          exact Nat.le_add_right _ _
        · have k2 : (stepsN ts S0 k).length ≤ (stepsN ts S0 (stepsN ts S0 k).length).length := by
            obtain ⟨X, hX⟩ := steps_le ts S0 (show k ≤ (stepsN ts S0 k).length by omega)
            rw [hX, List.length_append]
            exact Nat.le_add_right _ _
          rw [mu _ k2, mu _ hk]
          omega)
    1000 (fsE y (stD S0) [⟨S0, none, []⟩] (.list [stD S0])) ⟨0, Nat.zero_le _, rfl⟩ (by show 200 - _ < 1000; omega)
  obtain ⟨r, hr⟩ := h2
  subst hr
  show b_first_steps (startE 4 [y, stD S0]) = _
  unfold b_first_steps wSeq
  have a1 : sAsgW 2 (fOneN (fVar 1) (fC .none)) (startE 4 [y, stD S0]) = some (.nx [.val y, .val (stD S0), .dn (dnOf pr [⟨S0, none, []⟩]), .un]) := by
    refine x_asgW (e1 := startE 4 [y, stD S0]) (s := .dn (dnOf pr [⟨S0, none, []⟩])) ?_ rfl rfl
    unfold fOneN
    rw [x_var (i := 1) (env := startE 4 [y, stD S0]) (d := stD S0) rfl, Option.bind_some]
    show (some (PyData.none, startE 4 [y, stD S0])).bind _ = _
    rw [Option.bind_some, tk_st]
    rfl
  rw [a1, Option.bind_some]
  dsimp only
  have a2 : sAsg 3 (fLst (fCons (fVar 1) fNil)) [.val y, .val (stD S0), .dn (dnOf pr [⟨S0, none, []⟩]), .un] = some (.nx (fsE y (stD S0) [⟨S0, none, []⟩] (.list [stD S0]))) := x_asg' (x_lst (x_cons (x_var rfl) rfl) (by simp)) rfl rfl
  rw [a2, Option.bind_some]
  dsimp only
  rw [h1]
  rfl
end
end GL
/-! way_back. -/
namespace GL
open PySem L2 GR

abbrev wbE (A : List Ent) (S : St) (way : List Tie) (s3 s4 s5 : Slot) : LEnv := [.ln (dnOf pr A), .val (stD S), .ol (way.map tieD), s3, s4, s5]
def wbM (env : LEnv) : Nat := match (env[2]? : Option Slot) with
  | some (Slot.ol l) => 300 - l.length
  | _ => 0
theorem way_back_is {n m : Nat} {ts : List Tie} {S0 : St} {A : List Ent} (G : GoodA n m ts S0 A) (hl : A.length ≤ 120) {e0 : Ent} (he : e0 ∈ A) :
    m_way_back (dnOf pr A) [] [stD e0.s] = some (.tuple (e0.word.map tieD), dnOf pr A) := by
  obtain ⟨e', h1, s3, s4, s5, h2⟩ := x_while (c := fTest (fOp2 dNotN (fVar 3) (fC .none))) (b := sSeq (sTarget (fVar 3) (tgTup 2 (tgCons (tgName 4) (tgCons (tgName 5) tgNil)))) (sSeq (sExpr (sAppend 2 (fVar 5))) (sAsg 3 (fIxN 0 (fVar 4)))))
    (fun env => ∃ e ∈ A, ∃ rest s4 s5, e0.word = e.word ++ rest ∧ env = wbE A e0.s rest.reverse (.val (pr e)) s4 s5 ∧ owns s4 = false ∧ owns s5 = false)
    (fun env => ∃ s3 s4 s5, env = wbE A e0.s e0.word.reverse s3 s4 s5) wbM
    (fun env ⟨e, me, rest, s4, s5, hw, henv, o4, o5⟩ => by
      subst henv
      have wl := G.wl e0 he
      have rl : rest.length ≤ 120 := by rw [hw, List.length_append] at wl; omega
      rcases G.par e me with ⟨p1, p2⟩ | ⟨e2, m2, t, rfl⟩
      · have pe : pr e = .none := by unfold pr; rw [p1]
        rw [pe]
        refine .inl ⟨_, x_test (x_op2 (x_var rfl) rfl rfl), .val .none, s4, s5, ?_⟩
        rw [hw, p2, List.nil_append]
      · have pe : pr (entS e2 t) = .tuple [stD e2.s, tieD t] := rfl
        rw [pe]
        have n4 : noRow (wbE A e0.s rest.reverse (.val (.tuple [stD e2.s, tieD t])) s4 s5) 4 = true := noRow_own (s := s4) rfl o4
        have n5 : noRow (wbE A e0.s rest.reverse (.val (.tuple [stD e2.s, tieD t])) (.val (stD e2.s)) s5) 5 = true := noRow_own (s := s5) rfl o5
        let E : List Tie → D → LEnv := fun w x => wbE A e0.s w (.val x) (.val (stD e2.s)) (.val (tieD t))
        refine .inr ⟨wbE A e0.s rest.reverse (.val (.tuple [stD e2.s, tieD t])) s4 s5, E (rest.reverse ++ [t]) (pr e2), x_test (x_op2 (x_var rfl) rfl rfl), .inl ?_, ⟨e2, m2, t :: rest, .val (stD e2.s), .val (tieD t), ?_, ?_, rfl, rfl⟩, ?_⟩
        · have tg : sTarget (fVar 3) (tgTup 2 (tgCons (tgName 4) (tgCons (tgName 5) tgNil))) (wbE A e0.s rest.reverse (.val (.tuple [stD e2.s, tieD t])) s4 s5) = some (.nx (E rest.reverse (.tuple [stD e2.s, tieD t]))) := by
            show ((tgName 4 (stD e2.s) (wbE A e0.s rest.reverse (.val (.tuple [stD e2.s, tieD t])) s4 s5)).bind (fun e => (tgName 5 (tieD t) e).bind fun e => some e)).map _ = _
            rw [x_tg (e2 := wbE A e0.s rest.reverse (.val (.tuple [stD e2.s, tieD t])) (.val (stD e2.s)) s5) n4 rfl, Option.bind_some, x_tg (e2 := E rest.reverse (.tuple [stD e2.s, tieD t])) n5 rfl]
            rfl
          refine x_go tg (x_go (e1 := E (rest.reverse ++ [t]) (.tuple [stD e2.s, tieD t])) ?_ (x_asg' (x_ixN (F := pr) (A := A) (e := e2) rfl (x_var rfl) rfl G.nd m2) rfl rfl))
          exact x_expr (x_append (e1 := E rest.reverse (.tuple [stD e2.s, tieD t])) (ds0 := rest.reverse.map tieD) (ds := rest.reverse.map tieD) (d := tieD t) rfl (x_var rfl) rfl (by rw [List.length_map, List.length_reverse]; omega) (by
            have : rest.reverse.map tieD ++ [tieD t] = (rest.reverse ++ [t]).map tieD := by rw [List.map_append]; rfl
            rw [this]; rfl))
        · rw [hw]
          show (e2.word ++ [t]) ++ rest = _
          rw [List.append_assoc]
          rfl
        · rw [List.reverse_cons]
        · show 300 - ((rest.reverse ++ [t]).map tieD).length < 300 - (rest.reverse.map tieD).length
          rw [List.length_map, List.length_map, List.length_append, List.length_reverse, List.length_singleton]
          omega)
    1000 (wbE A e0.s [] (.val (pr e0)) .un .un) ⟨e0, he, [], .un, .un, by simp, rfl, rfl, rfl⟩ (by show 300 - _ < 1000; omega)
  subst h2
  show (b_way_back [.ln (dnOf pr A), .val (stD e0.s), .un, .un, .un, .un]).bind _ = _
  have body : b_way_back [.ln (dnOf pr A), .val (stD e0.s), .un, .un, .un, .un] = some (.rt (.tuple (e0.word.map tieD)) (wbE A e0.s e0.word.reverse s3 s4 s5)) := by
    unfold b_way_back
    refine x_go (e1 := [.ln (dnOf pr A), .val (stD e0.s), .ol [], .un, .un, .un]) (x_asgO (e1 := [.ln (dnOf pr A), .val (stD e0.s), .un, .un, .un, .un]) rfl rfl rfl) ?_
    refine x_go (e1 := wbE A e0.s [] (.val (pr e0)) .un .un) (x_asg' (x_ixN (F := pr) (A := A) (e := e0) (e1 := [.ln (dnOf pr A), .val (stD e0.s), .ol [], .un, .un, .un]) rfl (x_var rfl) rfl G.nd he) rfl rfl) ?_
    refine x_go h1 (x_ret (x_op1 (x := .list (e0.word.map tieD)) (x_list ?_) rfl))
    show some ((e0.word.reverse.map tieD).reverse, _) = _
    rw [List.map_reverse, List.reverse_reverse]
  rw [body]
  rfl
end GL
/-! slides, count_standings, behind_slide, slides_to. -/
namespace GL
open PySem L2 GR

theorem eqv_tie (a b : Tie) : PyData.eqv (tieD a) (tieD b) = decide (a = b) := by
  have := eqv_tup [a.1, a.2] [b.1, b.2]
  show PyData.eqv (tupI [a.1, a.2]) (tupI [b.1, b.2]) = _
  rw [this]
  obtain ⟨x, y⟩ := a
  obtain ⟨z, w⟩ := b
  simp
theorem any_ties (L : List Tie) (t : Tie) : ((L.map tieD).any fun y => PyData.eqv y (tieD t)) = decide (t ∈ L) := by
  induction L with
  | nil => rfl
  | cons a L ih =>
    rw [List.map_cons, List.any_cons, ih, eqv_tie]
    by_cases h : a = t
    · subst h; simp
    · have h' : ¬ t = a := fun z => h z.symm
      simp [h, h']
theorem in_ties (t : Tie) (L : List Tie) : dIn (tieD t) (.list (L.map tieD)) = some (.bool (decide (t ∈ L))) := by
  unfold dIn dInB
  dsimp only
  rw [if_pos ⟨ok_tie t, ok_ties L⟩, any_ties]
  rfl
theorem notin_ties (t : Tie) (L : List Tie) : dNotIn (tieD t) (.list (L.map tieD)) = some (.bool (!decide (t ∈ L))) := by
  unfold dNotIn dInB
  dsimp only
  rw [if_pos ⟨ok_tie t, ok_ties L⟩, any_ties]
  rfl
/-- all that is found -/
@[irreducible] def allE (ts : List Tie) (S : St) : List Ent := stepsN ts S 6000
theorem allE_good {n m : Nat} {ts : List Tie} {S : St} (W : Web n ts) (s : Std n m S) : GoodA n m ts S (allE ts S) := by
  unfold allE
  exact GoodA.steps W s 6000
theorem words_all {n m : Nat} {ts : List Tie} {S : St} {g : Int} (W : Web n ts) (h5 : n ≤ 5) (hg : 0 ≤ g ∧ g < n) (s : Std n m S) : m__law_words [yardD n ts g, stD S] = some (dnOf lw (allE ts S)) := by
  unfold allE
  exact law_words_is W h5 hg s
theorem first_all {n m : Nat} {ts : List Tie} {S : St} (W : Web n ts) (h5 : n ≤ 5) (s : Std n m S) : m_first_steps [.tuple (ts.map tieD), stD S] = some (dnOf pr (allE ts S)) := by
  unfold allE
  exact first_steps_is W h5 s
def badSl : ExD := ⟨"BadSlide", none⟩
def noWay : ExD := ⟨"NoWay", none⟩
section
variable {n m : Nat} {ts : List Tie} {g : Int} {S : St}
theorem ixY (k : Nat) (x : D) (env : LEnv) (i : Nat) (h : env[i]? = some (.val (yardD n ts g))) (hx : [PyData.int n, .tuple (ts.map tieD), .int g][k]? = some x) : fOp2N dIx i (fC (.int k)) env = some (x, env) :=
  x_op2N (x0 := yardD n ts g) (x := yardD n ts g) (by rw [h]; rfl) rfl (by rw [h]; rfl) (ix3 _ _ _ k _ hx)
theorem ixY1 (env : LEnv) (i : Nat) (h : env[i]? = some (.val (yardD n ts g))) : fOp2N dIx i (fC (.int 1)) env = some (.tuple (ts.map tieD), env) := ixY (n := n) (ts := ts) (g := g) 1 _ env i h rfl
theorem x_callW {k : Nat} {fn : List D → Option (List (NKey × D))} {r : SemL} {env e1 : LEnv} {ds : List D} {kvs : List (NKey × D)} (hr : r env = some (ds, e1)) (hn : ds.length = k) (hf : fn ds = some kvs) : fCallW k fn r env = some (.dn kvs, e1) := by
  unfold fCallW; rw [hr, Option.bind_some]; dsimp only; rw [if_pos hn, hf]; rfl
theorem x_ifT {t : SemB} {f g : SemS} {env e1 : LEnv} {r : Fl} (h : t env = some (true, e1)) (hf : f e1 = some r) : sIf t f g env = some r := (x_if h).trans (by rw [if_pos rfl]; exact hf)
theorem x_ifF {t : SemB} {f g : SemS} {env e1 : LEnv} {r : Fl} (h : t env = some (false, e1)) (hg : g e1 = some r) : sIf t f g env = some r := (x_if h).trans (by rw [if_neg Bool.false_ne_true]; exact hg)
theorem Std.okY (s : Std n m S) (W : Web n ts) : m_check_standing [yardD n ts g, stD S] = some (.ok .none) := s.ok (by have := W.n7; omega)
theorem slides_ok (W : Web n ts) (hg : 0 ≤ g ∧ g < n) (s : Std n m S) : m_slides [yardD n ts g, stD S] = some (.ok (.tuple ((slL ts S).map tieD))) := by
  let E : LEnv := startE 2 [yardD n ts g, stD S]
  refine xs_ret (e := E) ?_
  unfold b_slides
  refine xs_go (e1 := E) (xs_call (x_cons (x_var rfl) rfl) rfl (cy_web W hg)) (xs_go (e1 := E) (xs_call (x_cons (x_var rfl) (x_cons (x_var rfl) rfl)) rfl (s.okY W)) (xs_lift (x_ret (x_op1 (x_call (x_cons (ixY 1 _ _ 0 rfl rfl) (x_cons (x_var rfl) rfl)) rfl (slides_at_is W (by rw [s.len]))) rfl))))
theorem slides_bad (W : Web n ts) (hg : 0 ≤ g ∧ g < n) {x : D} (h : m_check_standing [yardD n ts g, x] = some (.er badSt)) : m_slides [yardD n ts g, x] = some (.er badSt) := by
  let E : LEnv := startE 2 [yardD n ts g, x]
  refine xs_er (e := E) ?_
  unfold b_slides
  exact xs_go (e1 := E) (xs_call (x_cons (x_var rfl) rfl) rfl (cy_web W hg)) (xs_ex (xs_callE (x_cons (x_var rfl) (x_cons (x_var rfl) rfl)) rfl h))
theorem count_ok (W : Web n ts) (h5 : n ≤ 5) (hg : 0 ≤ g ∧ g < n) (s : Std n m S) : m_count_standings [yardD n ts g, stD S] = some (.ok (.int ((allE ts S).length : Int))) := by
  let E : LEnv := startE 2 [yardD n ts g, stD S]
  refine xs_ret (e := E) ?_
  unfold b_count_standings
  refine xs_go (e1 := E) (xs_call (x_cons (x_var rfl) rfl) rfl (cy_web W hg)) (xs_go (e1 := E) (xs_call (x_cons (x_var rfl) (x_cons (x_var rfl) rfl)) rfl (s.okY W)) (xs_lift (x_ret ?_)))
  have w : fCallW 2 m_first_steps (fCons (fOp2N dIx 0 (fC (.int 1))) (fCons (fVar 1) fNil)) E = some (.dn (dnOf pr (allE ts S)), E) := x_callW (x_cons (ixY1 (n := n) (ts := ts) (g := g) E 0 rfl) (x_cons (x_var rfl) rfl)) rfl (first_all W h5 s)
  unfold fLenW
  rw [w]
  show some (PyData.int ((dnOf pr (allE ts S)).length : Int), E) = _
  unfold dnOf
  rw [List.length_map]
theorem slide_at_is (W : Web n ts) (s : Std n m S) (t : Tie) : m_is_slide_at [.tuple (ts.map tieD), stD S, tieD t] = some (.bool (decide (t ∈ slL ts S))) := by
  let E : Slot → Slot → LEnv := fun a b => [.val (.tuple (ts.map tieD)), .val (stD S), .val (tieD t), a, b]
  let E2 : LEnv := E (.val (.int t.1)) (.val (.int t.2))
  refine x_runF (e := E2) ?_
  unfold b_is_slide_at
  refine x_go (e1 := E .un .un) (x_ifF (x_not (b := true) (x_test (x_call (x_cons (x_var rfl) (x_cons rfl rfl)) rfl (v_is_tuple_of [.int t.1, .int t.2] 2)))) rfl) ?_
  refine x_go (e1 := E2) rfl (x_ret ?_)
  have v3 : fOp2 dIn (fVar 2) (fCall 2 m_slides_at (fCons (fVar 0) (fCons (fVar 1) fNil))) E2 = some (.bool (decide (t ∈ slL ts S)), E2) := x_op2 (x_var rfl) (x_call (x_cons (x_var rfl) (x_cons (x_var rfl) rfl)) rfl (slides_at_is W (by rw [s.len]))) (in_ties t _)
  exact x_andV (x := true) (y := decide (t ∈ slL ts S)) (x_call (x_cons (x_var rfl) rfl) rfl (v_is_number t.1)) (fun _ => x_andV (x := true) (y := decide (t ∈ slL ts S)) (x_call (x_cons (x_var rfl) rfl) rfl (v_is_number t.2)) (fun _ => v3) (fun h => nomatch h)) (fun h => nomatch h)
theorem slide_at_no {x : D} (h : m_is_tuple_of [x, .int 2] = some (.bool false)) (y z : D) : m_is_slide_at [y, z, x] = some (.bool false) := by
  let E : LEnv := [.val y, .val z, .val x, .un, .un]
  refine x_runF (e := E) ?_
  unfold b_is_slide_at
  exact x_seqR (x_ifT (x_not (b := false) (x_test (x_call (x_cons (x_var rfl) (x_cons rfl rfl)) rfl h))) rfl)
theorem behind_is (W : Web n ts) (hg : 0 ≤ g ∧ g < n) (s : Std n m S) {x : D} {b : Bool} (h : m_is_slide_at [.tuple (ts.map tieD), stD S, x] = some (.bool b)) (r : D) (hr : b = true → m_moved [stD S, x] = some r) :
    m_behind_slide [yardD n ts g, stD S, x] = some (if b = true then .ok r else .er badSl) := by
  let E : LEnv := startE 3 [yardD n ts g, stD S, x]
  have start : ∀ q, (xSeq (xIf (fNot (fTest (fCall 3 m_is_slide_at (fCons (fOp2N dIx 0 (fC (.int 1))) (fCons (fVar 1) (fCons (fVar 2) fNil)))))) (xRaise (mPlain "BadSlide")) (xLift sNext)) (xLift (sRet (fCall 2 m_moved (fCons (fVar 1) (fCons (fVar 2) fNil)))))) E = some q → b_behind_slide E = some q := fun q hq => by
    unfold b_behind_slide
    exact xs_go (e1 := E) (xs_call (x_cons (x_var rfl) rfl) rfl (cy_web W hg)) (xs_go (e1 := E) (xs_call (x_cons (x_var rfl) (x_cons (x_var rfl) rfl)) rfl (s.okY W)) hq)
  have tst : fNot (fTest (fCall 3 m_is_slide_at (fCons (fOp2N dIx 0 (fC (.int 1))) (fCons (fVar 1) (fCons (fVar 2) fNil))))) E = some (!b, E) := x_not (x_test (x_call (x_cons (ixY 1 _ _ 0 rfl rfl) (x_cons (x_var rfl) (x_cons (x_var rfl) rfl))) rfl h))
  cases b with
  | true => exact xs_ret (e := E) (start _ (xs_go (xs_skip tst) (xs_lift (x_ret (x_call (x_cons (x_var rfl) (x_cons (x_var rfl) rfl)) rfl (hr rfl))))))
  | false => exact xs_er (e := E) (start _ (xs_ex (xs_raise tst rfl)))
theorem behind_slide_is (W : Web n ts) (hg : 0 ≤ g ∧ g < n) (s : Std n m S) (t : Tie) : m_behind_slide [yardD n ts g, stD S, tieD t] = some (if t ∈ slL ts S then .ok (stD (mvL S t)) else .er badSl) := by
  rw [behind_is W hg s (slide_at_is W s t) (stD (mvL S t)) fun h => moved_is (by rw [s.len]) ((mem_sl W (by rw [s.len])).mp (of_decide_eq_true h))]
  by_cases h : t ∈ slL ts S
  · rw [decide_eq_true h, if_pos rfl, if_pos h]
  · rw [decide_eq_false h, if_neg Bool.false_ne_true, if_neg h]
theorem slides_to_is (W : Web n ts) (h5 : n ≤ 5) (hg : 0 ≤ g ∧ g < n) (s : Std n m S) {T : St} (t : Std n m T) :
    (T ∉ keysE (allE ts S) ∧ m_slides_to [yardD n ts g, stD S, stD T] = some (.er noWay)) ∨ ∃ e ∈ allE ts S, e.s = T ∧ m_slides_to [yardD n ts g, stD S, stD T] = some (.ok (.tuple (e.word.map tieD))) := by
  have G : GoodA n m ts S (allE ts S) := allE_good W s
  have fs := first_all W h5 s
  generalize allE ts S = A at G fs ⊢
  let E : Slot → LEnv := fun q => [.val (yardD n ts g), .val (stD S), .val (stD T), q]
  have start : ∀ q, (xSeq (xIf (fTest (fInN true 3 (fVar 2))) (xRaise (mPlain "NoWay")) (xLift sNext)) (xLift (sRet (fCallL 3 0 1 m_way_back (pHere 3 (fCons (fVar 2) fNil)))))) (E (.dn (dnOf pr A))) = some q → b_slides_to (E .un) = some q := fun q hq => by
    unfold b_slides_to
    refine xs_go (e1 := E .un) (xs_call (x_cons (x_var rfl) rfl) rfl (cy_web W hg)) (xs_go (e1 := E .un) (xs_call (x_cons (x_var rfl) (x_cons (x_var rfl) rfl)) rfl (s.okY W)) (xs_go (e1 := E .un) (xs_call (x_cons (x_var rfl) (x_cons (x_var rfl) rfl)) rfl (t.okY W)) (xs_go (e1 := E (.dn (dnOf pr A))) (xs_lift ?_) hq)))
    exact x_asgW (e1 := E .un) (s := .dn (dnOf pr A)) (x_callW (x_cons (ixY1 (n := n) (ts := ts) (g := g) (E .un) 0 rfl) (x_cons (x_var rfl) rfl)) rfl fs) rfl rfl
  have tst : fTest (fInN true 3 (fVar 2)) (E (.dn (dnOf pr A))) = some (!decide (T ∈ keysE A), E (.dn (dnOf pr A))) := x_test (x_inN (F := pr) (A := A) (x_var rfl) rfl)
  by_cases h : T ∈ keysE A
  · obtain ⟨e, me, he⟩ := List.mem_map.mp h
    have tst' : fTest (fInN true 3 (fVar 2)) (E (.dn (dnOf pr A))) = some (false, E (.dn (dnOf pr A))) := by rw [tst, decide_eq_true h]; rfl
    have wb := way_back_is G (G.len h5 s.mn) me
    rw [he] at wb
    have cl : fCallL 3 0 1 m_way_back (pHere 3 (fCons (fVar 2) fNil)) (E (.dn (dnOf pr A))) = some (.tuple (e.word.map tieD), E (.dn (dnOf pr A))) := by
      unfold fCallL
      show (m_way_back (dnOf pr A) [] [stD T]).map _ = _
      rw [wb]
      rfl
    exact .inr ⟨e, me, he, xs_ret (e := E (.dn (dnOf pr A))) (start _ (xs_go (xs_skip tst') (xs_lift (x_ret cl))))⟩
  · have tst' : fTest (fInN true 3 (fVar 2)) (E (.dn (dnOf pr A))) = some (true, E (.dn (dnOf pr A))) := by rw [tst, decide_eq_false h]; rfl
    exact .inl ⟨h, xs_er (e := E (.dn (dnOf pr A))) (start _ (xs_ex (xs_raise tst' rfl)))⟩
end
end GL
/-! The law: its first steps, and tools. -/
namespace GL
open PySem L2 GR

theorem x_cR {i k : Nat} {fn : Row → List D → Option (D × Row)} {r : SemL} {env e1 : LEnv} {st st' : Row} {ds : List D} {d : D} (h0 : ∃ s, env[i]? = some (.row s)) (hr : r env = some (ds, e1)) (hn : ds.length = k) (h1 : e1[i]? = some (.row st)) (hf : fn st ds = some (d, st')) : fCallR i k fn r env = some (d, e1.set i (.row st')) := by
  obtain ⟨s, hs⟩ := h0
  unfold fCallR
  rw [hs]
  dsimp only
  rw [hr, Option.bind_some]
  dsimp only
  rw [if_pos hn, h1]
  dsimp only
  rw [hf]
  rfl
theorem x_pickR {i : Nat} {env e1 : LEnv} {st : Row} {a : Sem} {d : D} {ds : List D} (h0 : ∃ s, env[i]? = some (.row s)) (ha : a env = some (d, e1)) (h1 : e1[i]? = some (.row st)) (hd : itemsD d = some ds) (hne : ds ≠ []) (hl : ds.length ≤ 1000000) (ok : RowOk st) :
    ∃ x st', fCallR i 1 m__law_pick (fCons a fNil) env = some (x, e1.set i (.row st')) ∧ x ∈ ds ∧ RowOk st' := by
  obtain ⟨x, st', h2, h3, h4⟩ := pick_is st ok d ds hd hne hl
  exact ⟨x, st', x_cR h0 (x_cons ha rfl) rfl h1 h2, h3, h4⟩
theorem x_tryU_nx {c : Str} {i : Nat} {xb : SemX} {sf : SemS} {env : LEnv} {r : Fl} (h : xb env = some (.fl r)) : sTryU c i xb sf env = some r := by
  unfold sTryU; rw [h]; rfl
theorem x_tryU_ex {c : Str} {i : Nat} {xb : SemX} {sf : SemS} {env e1 e2 : LEnv} {x : ExD} (h : xb env = some (.ex x e1)) (hc : x.cls = c) (hn : noRow e1 i = true) (hs : sf (e1.set i .un) = some (.nx e2)) (hn2 : noRow e2 i = true) : sTryU c i xb sf env = some (.nx (e2.set i .un)) := by
  unfold sTryU
  rw [h, Option.bind_some]
  dsimp only
  rw [if_pos ⟨hc, hn⟩, hs, Option.bind_some]
  unfold unset
  dsimp only
  rw [if_pos hn2]
theorem e_ok {k : Nat} {fn : List D → Option Rs} {r : SemL} {env e1 : LEnv} {ds : List D} {d : D} (hr : r env = some (ds, e1)) (hn : ds.length = k) (hf : fn ds = some (.ok d)) : eCall k fn (aLift r) env = some (.ok d e1) := by
  unfold eCall aLift
  rw [hr]
  show (if ds.length = k then (fn ds).map _ else none) = _
  rw [if_pos hn, hf]
  rfl
theorem e_er {k : Nat} {fn : List D → Option Rs} {r : SemL} {env e1 : LEnv} {ds : List D} {x : ExD} (hr : r env = some (ds, e1)) (hn : ds.length = k) (hf : fn ds = some (.er x)) : eCall k fn (aLift r) env = some (.er x e1) := by
  unfold eCall aLift
  rw [hr]
  show (if ds.length = k then (fn ds).map _ else none) = _
  rw [if_pos hn, hf]
  rfl
theorem okOf_of {f : List D → Option Rs} {ds : List D} {d : D} (h : f ds = some (.ok d)) : okOf f ds = some d := by unfold okOf; rw [h]; rfl
theorem alike_ties (L : List Tie) (h : L.length ≤ 1000) : m__law_alike 4 [.tuple (L.map tieD), .tuple (L.map tieD)] = some (.bool true) :=
  alike_tup 3 _ (by rw [List.length_map]; exact h) fun d m => by
    obtain ⟨t, _, rfl⟩ := List.mem_map.mp m
    exact alike_ints4 1 [t.1, t.2] (by simp)
theorem slL_len {n : Nat} {ts : List Tie} (W : Web n ts) {S : St} (h : S.length = n) : (slL ts S).length ≤ 1000 := by
  have := lsF_len ts S (List.range S.length)
  rw [lsF_all, List.length_range] at this
  have few := W.few
  have n7 := W.n7
  have : S.length * (2 * ts.length) ≤ 7 * 126 := Nat.mul_le_mul (by omega) (by omega)
  omega
abbrev kE (st : Row) (s2 s3 s4 s5 s6 s7 s8 s9 s10 s11 s12 s13 s14 s15 s16 : Slot) : LEnv := [.un, .row st, s2, s3, s4, s5, s6, s7, s8, s9, s10, s11, s12, s13, s14, s15, s16]
theorem law_draw (st : Row) (ok : RowOk st) : ∃ (n m : Nat) (ts : List Tie) (g : Int) (S : St) (st' : Row), Web n ts ∧ n ≤ 5 ∧ (0 ≤ g ∧ g < n) ∧ Std n m S ∧ RowOk st' ∧ ∀ (f : SemS) (r : Fl), f (kE st' (.val (yardD n ts g)) (.val (.int n)) (.val (stD S)) .un .un .un .un .un .un .un .un .un .un .un .un) = some r →
    (sSeq (sAsg 2 (fCallR 1 1 m__law_yard (fCons (fC (.int 5)) fNil))) (sSeq (sAsg 3 (fOp2N dIx 2 (fC (.int 0)))) (sSeq (sAsg 4 (fCallR 1 2 m__law_standing (fCons (fVar 3) (fCons (fOp2 dAdd (fC (.int 1)) (fCallR 1 1 m__law_taken (fCons (fOp2 dMin2 (fC (.int 2)) (fOp2 dSub (fVar 3) (fC (.int 1)))) fNil))) fNil)))) f))) (kE st .un .un .un .un .un .un .un .un .un .un .un .un .un .un .un) = some r := by
  obtain ⟨k, ts, g, st1, y1, W, k5, g0, g1, ok1⟩ := law_yard_is 5 (by decide) (by decide) st ok
  have k2 := W.n2
  obtain ⟨n, rfl⟩ : ∃ n : Nat, k = (n : Int) := ⟨k.toNat, by omega⟩
  let y := yardD n ts g
  let E1 : LEnv := kE st1 (.val y) .un .un .un .un .un .un .un .un .un .un .un .un .un .un
  let E2 : Row → LEnv := fun st => kE st (.val y) (.val (.int n)) .un .un .un .un .un .un .un .un .un .un .un .un .un
  let c : Int := if (n : Int) - 1 < 2 then (n : Int) - 1 else 2
  have hc : 1 ≤ c ∧ c ≤ (n : Int) - 1 ∧ c ≤ 2 := by
    show 1 ≤ (if (n : Int) - 1 < 2 then (n : Int) - 1 else 2) ∧ (if (n : Int) - 1 < 2 then (n : Int) - 1 else 2) ≤ (n : Int) - 1 ∧ (if (n : Int) - 1 < 2 then (n : Int) - 1 else 2) ≤ 2
    split <;> omega
  obtain ⟨x, st2, t1, t2, t3, ok2⟩ := x_taken (i := 1) (env := E2 st1) (e1 := E2 st1) (st := st1) (a := fOp2 dMin2 (fC (.int 2)) (fOp2 dSub (fVar 3) (fC (.int 1)))) (k := c) ⟨st1, rfl⟩ (x_op2 rfl (x_op2 (x_var rfl) rfl rfl) rfl) rfl (by omega) (by omega) ok1
  let m : Nat := n - (1 + x).toNat
  have hm : ((n - m : Nat) : Int) = 1 + x := by show ((n - (n - (1 + x).toNat) : Nat) : Int) = 1 + x; omega
  obtain ⟨S, st3, d1, d2, ok3⟩ := law_standing_is st2 ok2 (n := n) (m := m) (by show n - (1 + x).toNat ≤ n; omega) (by omega)
  refine ⟨n, m, ts, g, S, st3, W, by omega, ⟨g0, g1⟩, ⟨d2, by show 1 ≤ n - (1 + x).toNat; omega, by show n - (1 + x).toNat < n; omega⟩, ok3, fun f r hr => ?_⟩
  refine x_go (e1 := E1) (x_asg' (x_cR (st := st) ⟨st, rfl⟩ (x_cons rfl rfl) rfl rfl y1) rfl rfl) ?_
  refine x_go (e1 := E2 st1) (x_asg' (x_op2N (x0 := y) (x := y) rfl rfl rfl (ix3 _ _ _ 0 _ rfl)) rfl rfl) ?_
  refine x_go ?_ hr
  rw [hm] at d1
  refine x_asg' (x_cR (e1 := E2 st2) (st := st2) ⟨st1, rfl⟩ (x_cons (x_var rfl) (x_cons (x_op2 rfl t1 rfl) rfl)) rfl rfl d1) rfl rfl
/-! along a path -/
def goW (S : St) (w : List Tie) : St := w.foldl mvL S
theorem path_go {ts : List Tie} {S0 S : St} {w : List Tie} (p : Path ts S0 w S) : S = goW S0 w ∧ ∀ a t r, w = a ++ t :: r → t ∈ slL ts (goW S0 a) := by
  induction p with
  | nil => exact ⟨rfl, fun a t r h => by cases a <;> cases h⟩
  | @snoc w S t p ht ih =>
    obtain ⟨e, h⟩ := ih
    refine ⟨?_, fun a u r hw => ?_⟩
    · unfold goW at e ⊢
      rw [List.foldl_append, ← e]
      rfl
    · rcases List.eq_nil_or_concat r with rfl | ⟨r', u', rfl⟩
      · have := List.append_inj' hw rfl
        obtain ⟨h1, h2⟩ := this
        cases h2
        rw [← h1, ← e]
        exact ht
      · rw [List.concat_eq_append] at hw
        have h1 : w ++ [t] = (a ++ u :: r') ++ [u'] := by rw [hw]; simp
        exact h a u r' (List.append_inj' h1 rfl).1
theorem go_std {n m : Nat} {ts : List Tie} (W : Web n ts) {S0 : St} (s : Std n m S0) : ∀ (w : List Tie), (∀ a t r, w = a ++ t :: r → t ∈ slL ts (goW S0 a)) → ∀ a r, w = a ++ r → Std n m (goW S0 a) := by
  intro w h
  have main : ∀ (k : Nat) (a : List Tie), a.length = k → ∀ r, w = a ++ r → Std n m (goW S0 a) := by
    intro k
    induction k with
    | zero => intro a ha r _; rw [List.length_eq_zero_iff.mp ha]; exact s
    | succ k ih =>
      intro a ha r hr
      rcases List.eq_nil_or_concat a with rfl | ⟨b, t, rfl⟩
      · cases ha
      · rw [List.concat_eq_append] at hr ha ⊢
        rw [List.length_append, List.length_singleton] at ha
        have hr' : w = b ++ t :: r := by rw [hr]; simp
        have sb := ih b (by omega) (t :: r) hr'
        have ht := h b t r hr'
        have : goW S0 (b ++ [t]) = mvL (goW S0 b) t := by unfold goW; rw [List.foldl_append]; rfl
        rw [this]
        exact sb.mv ((mem_sl W (by rw [sb.len])).mp ht)
  exact fun a r hr => main a.length a rfl r hr
end GL
/-! The law's middle. -/
namespace GL
open PySem L2 GR

theorem plainA_c : ∀ S : St, PyData.plainAll (S.map cD) = true
  | [] => rfl
  | c :: S => by
    show (PyData.plain (cD c) && PyData.plainAll (S.map cD)) = true
    rw [plainA_c S]
    cases c <;> rfl
theorem depth_c (c : Option Int) : PyData.depth (cD c) ≤ 1 := by
  cases c with
  | none => simp [cD, PyData.depth]
  | some b =>
    have := depth_ints [b]
    show PyData.depth (.int b) ≤ 1
    simp [PyData.depth]
theorem depthA_st : ∀ S : St, PyData.depthAll (S.map cD) ≤ 1
  | [] => by simp [PyData.depthAll]
  | c :: S => by
    have h1 := depth_c c
    have h2 := depthA_st S
    show max (PyData.depth (cD c)) (PyData.depthAll (S.map cD)) ≤ 1
    omega
theorem ok_st (S : St) : okD (stD S) = true := by
  unfold okD stD
  rw [Bool.and_eq_true]
  refine ⟨?_, ?_⟩
  · have := plainA_c S
    simpa [PyData.plain] using this
  · have := depthA_st S
    rw [decide_eq_true_eq]
    unfold PyData.depth
    omega
theorem eqv_c (a b : Option Int) : PyData.eqv (cD a) (cD b) = decide (a = b) := by
  cases a with
  | none => cases b <;> simp [cD, PyData.eqv]
  | some x =>
    cases b with
    | none => simp [cD, PyData.eqv]
    | some y =>
      show PyData.eqv (.int x) (.int y) = _
      rw [eqv_int]
      by_cases h : x = y <;> simp [h]
theorem eqv_cs : ∀ S T : St, PyData.eqvAll (S.map cD) (T.map cD) = decide (S = T)
  | [], [] => by simp [PyData.eqvAll]
  | [], _ :: _ => by simp [PyData.eqvAll]
  | _ :: _, [] => by simp [PyData.eqvAll]
  | a :: S, b :: T => by
    show (PyData.eqv (cD a) (cD b) && PyData.eqvAll (S.map cD) (T.map cD)) = _
    rw [eqv_cs S T, eqv_c]
    by_cases h : a = b <;> by_cases h2 : S = T <;> simp [h, h2]
theorem ne_st (S T : St) : dNe (stD S) (stD T) = some (.bool (!decide (S = T))) := by
  unfold dNe
  rw [if_pos ⟨ok_st S, ok_st T⟩]
  have : PyData.eqv (stD S) (stD T) = decide (S = T) := by
    have := eqv_cs S T
    unfold stD
    simpa [PyData.eqv] using this
  rw [this]
theorem count_none (S : St) (h : none ∈ S) : dCountN (stD S) .none = some (.int ((S.countP fun c => c.isNone : Nat) : Int)) := by
  have hn : hasNd (S.map cD) = true := by
    induction S with
    | nil => cases h
    | cons c S ih =>
      cases c with
      | none => rfl
      | some b =>
        show hasNd (S.map cD) = true
        exact ih (by simpa using h)
  show (if hasNd (S.map cD) = true then dCount (.tuple (S.map cD)) .none else none) = _
  rw [if_pos hn]
  show (if okD (stD S) = true ∧ okD .none = true then some (PyData.int (((S.map cD).countP fun y => PyData.eqv y .none : Nat) : Int)) else none) = _
  rw [if_pos ⟨ok_st S, rfl⟩, List.countP_map]
  have e : ((fun y => PyData.eqv y .none) ∘ cD) = fun c : Option Int => c.isNone := by
    funext c
    cases c <;> simp [cD, PyData.eqv]
  rw [e]
theorem Std.holes {n m : Nat} {S : St} (s : Std n m S) : (S.countP fun c => c.isNone) = n - m := by
  rw [s.perm.countP_eq]
  unfold L0
  rw [List.countP_append, List.countP_map, List.countP_replicate]
  have : ((fun c : Option Int => c.isNone) ∘ some) = fun _ => false := rfl
  rw [this, List.countP_false]
  simp
section
variable {n m : Nat} {ts : List Tie} {g : Int} {S : St}
abbrev kM (n : Nat) (ts : List Tie) (g : Int) (S : St) (st : Row) (s5 s6 s7 s8 s9 s10 s11 s12 : Slot) : LEnv := kE st (.val (yardD n ts g)) (.val (.int n)) (.val (stD S)) s5 s6 s7 s8 s9 s10 s11 s12 .un .un .un .un
abbrev lP1 : SemS := sPar 5 6 (vVal (fCall 2 m__law_slides (fCons (fVar 2) (fCons (fVar 4) fNil)))) (vNew (fCallW 2 m__law_words (fCons (fVar 2) (fCons (fVar 4) fNil))))
abbrev toldD (ts : List Tie) (S : St) : Slot := .val (.list ((slL ts S).map tieD))
abbrev wordS (ts : List Tie) (S : St) : Slot := .dn (dnOf lw (allE ts S))
theorem l1 (W : Web n ts) (h5 : n ≤ 5) (hg : 0 ≤ g ∧ g < n) (s : Std n m S) (st : Row) : lP1 (kM n ts g S st .un .un .un .un .un .un .un .un) = some (.nx (kM n ts g S st (toldD ts S) (wordS ts S) .un .un .un .un .un .un)) := by
  have a : fCall 2 m__law_slides (fCons (fVar 2) (fCons (fVar 4) fNil)) (kM n ts g S st .un .un .un .un .un .un .un .un) = some (.list ((slL ts S).map tieD), kM n ts g S st .un .un .un .un .un .un .un .un) := x_call (x_cons (x_var rfl) (x_cons (x_var rfl) rfl)) rfl (law_slides_is W (by rw [s.len]))
  have b : fCallW 2 m__law_words (fCons (fVar 2) (fCons (fVar 4) fNil)) (kM n ts g S st .un .un .un .un .un .un .un .un) = some (wordS ts S, kM n ts g S st .un .un .un .un .un .un .un .un) := x_callW (x_cons (x_var rfl) (x_cons (x_var rfl) rfl)) rfl (words_all W h5 hg s)
  unfold lP1 sPar vVal vNew
  rw [a]
  show (Option.bind (Option.bind (fCallW 2 m__law_words (fCons (fVar 2) (fCons (fVar 4) fNil)) (kM n ts g S st .un .un .un .un .un .un .un .un)) _) _) = _
  rw [b]
  rfl
abbrev lP2 : SemS := sIf (fNot (fTest (fCall 2 (m__law_alike 4) (fCons (fCall 2 (okOf m_slides) (fCons (fVar 2) (fCons (fVar 4) fNil))) (fCons (fOp1 dTuple (fPeek 5)) fNil))))) (sRet (fC (.bool false))) sNext
theorem l2 (W : Web n ts) (hg : 0 ≤ g ∧ g < n) (s : Std n m S) (st : Row) (s6 : Slot) : lP2 (kM n ts g S st (toldD ts S) s6 .un .un .un .un .un .un) = some (.nx (kM n ts g S st (toldD ts S) s6 .un .un .un .un .un .un)) :=
  x_ifF (x_not (b := true) (x_test (x_call (x_cons (x_call (x_cons (x_var rfl) (x_cons (x_var rfl) rfl)) rfl (okOf_of (slides_ok W hg s))) (x_cons (x_op1 (x_peek (d := .list ((slL ts S).map tieD)) rfl) rfl) rfl)) rfl (alike_ties _ (slL_len W s.len))))) rfl
abbrev lP3 : SemS := sIf (fNot (fTest (fCall 2 (m__law_alike 4) (fCons (fCall 2 (okOf m_count_standings) (fCons (fVar 2) (fCons (fVar 4) fNil))) (fCons (fLenN 6) fNil))))) (sRet (fC (.bool false))) sNext
theorem l3 (W : Web n ts) (h5 : n ≤ 5) (hg : 0 ≤ g ∧ g < n) (s : Std n m S) (st : Row) (s5 : Slot) : lP3 (kM n ts g S st s5 (wordS ts S) .un .un .un .un .un .un) = some (.nx (kM n ts g S st s5 (wordS ts S) .un .un .un .un .un .un)) := by
  have ln : fLenN 6 (kM n ts g S st s5 (wordS ts S) .un .un .un .un .un .un) = some (.int ((allE ts S).length : Int), kM n ts g S st s5 (wordS ts S) .un .un .un .un .un .un) := by
    show some (PyData.int ((dnOf lw (allE ts S)).length : Int), _) = _
    unfold dnOf
    rw [List.length_map]
  exact x_ifF (x_not (b := true) (x_test (x_call (x_cons (x_call (x_cons (x_var rfl) (x_cons (x_var rfl) rfl)) rfl (okOf_of (count_ok W h5 hg s))) (x_cons ln rfl)) rfl (alike_int 3 _)))) rfl
abbrev lP4 : SemS := sAsg 7 (fTup (fCons (fCallR 1 1 m__law_taken (fCons (fVar 3) fNil)) (fCons (fCallR 1 1 m__law_taken (fCons (fVar 3) fNil)) fNil)))
theorem l4 (W : Web n ts) (st : Row) (ok : RowOk st) (s5 s6 : Slot) : ∃ t st', RowOk st' ∧ lP4 (kM n ts g S st s5 s6 .un .un .un .un .un .un) = some (.nx (kM n ts g S st' s5 s6 (.val (tieD t)) .un .un .un .un .un)) := by
  have n2 := W.n2
  have n7 := W.n7
  obtain ⟨x, st1, t1, _, _, ok1⟩ := x_taken (i := 1) (env := kM n ts g S st s5 s6 .un .un .un .un .un .un) (e1 := kM n ts g S st s5 s6 .un .un .un .un .un .un) (st := st) (a := fVar 3) (k := n) ⟨st, rfl⟩ (x_var rfl) rfl (by omega) (by omega) ok
  obtain ⟨z, st2, t2, _, _, ok2⟩ := x_taken (i := 1) (env := kM n ts g S st1 s5 s6 .un .un .un .un .un .un) (e1 := kM n ts g S st1 s5 s6 .un .un .un .un .un .un) (st := st1) (a := fVar 3) (k := n) ⟨st1, rfl⟩ (x_var rfl) rfl (by omega) (by omega) ok1
  exact ⟨(x, z), st2, ok2, x_asg' (x_tup (x_cons t1 (x_cons t2 rfl)) (by simp)) rfl rfl⟩
abbrev lP5 : SemS := sTryU "BadSlide" 8 (xIfX (txOr (txTest (eOp2 dNe (eCall 3 m_behind_slide (aLift (fCons (fVar 2) (fCons (fVar 4) (fCons (fVar 7) fNil))))) (eLift (fCall 2 m__law_slid (fCons (fVar 4) (fCons (fVar 7) fNil)))))) (tLift (fTest (fOp2 dNotIn (fVar 7) (fPeek 5))))) (xLift (sRet (fC (.bool false)))) (xLift sNext)) (sIf (fTest (fOp2 dIn (fVar 7) (fPeek 5))) (sRet (fC (.bool false))) sNext)
theorem l5 (W : Web n ts) (hg : 0 ≤ g ∧ g < n) (s : Std n m S) (st : Row) (s6 : Slot) (t : Tie) : lP5 (kM n ts g S st (toldD ts S) s6 (.val (tieD t)) .un .un .un .un .un) = some (.nx (kM n ts g S st (toldD ts S) s6 (.val (tieD t)) .un .un .un .un .un)) := by
  let E : LEnv := kM n ts g S st (toldD ts S) s6 (.val (tieD t)) .un .un .un .un .un
  have ar : fCons (fVar 2) (fCons (fVar 4) (fCons (fVar 7) fNil)) E = some ([yardD n ts g, stD S, tieD t], E) := x_cons (x_var rfl) (x_cons (x_var rfl) (x_cons (x_var rfl) rfl))
  have bh := behind_slide_is W hg s t
  by_cases h : t ∈ slL ts S
  · rw [if_pos h] at bh
    refine x_tryU_nx (r := .nx E) ?_
    have c1 : eCall 3 m_behind_slide (aLift (fCons (fVar 2) (fCons (fVar 4) (fCons (fVar 7) fNil)))) E = some (.ok (stD (mvL S t)) E) := e_ok ar rfl bh
    have c2 : fCall 2 m__law_slid (fCons (fVar 4) (fCons (fVar 7) fNil)) E = some (stD (mvL S t), E) := x_call (x_cons (x_var rfl) (x_cons (x_var rfl) rfl)) rfl (law_slid_is (by rw [s.len]) ((mem_sl W (by rw [s.len])).mp h))
    have c3 : fTest (fOp2 dNotIn (fVar 7) (fPeek 5)) E = some (false, E) := x_test (x_op2 (x_var rfl) (x_peek (d := .list ((slL ts S).map tieD)) rfl) ((notin_ties t _).trans (by rw [decide_eq_true h]; rfl)))
    have c4 : txTest (eOp2 dNe (eCall 3 m_behind_slide (aLift (fCons (fVar 2) (fCons (fVar 4) (fCons (fVar 7) fNil))))) (eLift (fCall 2 m__law_slid (fCons (fVar 4) (fCons (fVar 7) fNil))))) E = some (.ok false E) := by
      unfold txTest eOp2 eLift
      rw [c1]
      show Option.bind (Option.bind (Option.map _ (fCall 2 m__law_slid (fCons (fVar 4) (fCons (fVar 7) fNil)) E)) _) _ = _
      rw [c2]
      show Option.bind ((dNe (stD (mvL S t)) (stD (mvL S t))).map _) _ = _
      rw [ne_st, decide_eq_true rfl]
      rfl
    unfold xIfX txOr tLift
    rw [c4]
    show Option.bind (Option.map _ (fTest (fOp2 dNotIn (fVar 7) (fPeek 5)) E)) _ = _
    rw [c3]
    rfl
  · rw [if_neg h] at bh
    have c1 : eCall 3 m_behind_slide (aLift (fCons (fVar 2) (fCons (fVar 4) (fCons (fVar 7) fNil)))) E = some (.er badSl E) := e_er ar rfl bh
    have c3 : fTest (fOp2 dIn (fVar 7) (fPeek 5)) E = some (false, E) := x_test (x_op2 (x_var rfl) (x_peek (d := .list ((slL ts S).map tieD)) rfl) ((in_ties t _).trans (by rw [decide_eq_false h])))
    refine x_tryU_ex (e1 := E) (e2 := E) (x := badSl) ?_ rfl rfl (x_ifF c3 rfl) rfl
    unfold xIfX txOr txTest eOp2
    rw [c1]
    rfl
end
end GL
/-! The law's second half. -/
namespace GL
open PySem L2 GR

section
variable {n m : Nat} {ts : List Tie} {g : Int} {S : St}
theorem keys_ord (F : Ent → D) (A : List Ent) : ((dnOf F A).map fun p => p.1.data) = ordD A := by
  unfold dnOf ordD
  rw [List.map_map]
  refine List.map_congr_left fun e _ => ?_
  exact data_st e.s
abbrev lP6 : SemS := sAsg 9 (fCallR 1 1 m__law_pick (fCons (fLst (fCons (fCallR 1 1 m__law_pick (fCons (asList (fListNK 6)) fNil)) (fCons (fCallR 1 2 m__law_standing (fCons (fVar 3) (fCons (fOp2 dCountN (fVar 4) (fC .none)) fNil))) fNil))) fNil))
theorem l6 (W : Web n ts) (h5 : n ≤ 5) (s : Std n m S) (st : Row) (ok : RowOk st) (s5 s7 : Slot) : ∃ T st', Std n m T ∧ RowOk st' ∧ lP6 (kM n ts g S st s5 (wordS ts S) s7 .un .un .un .un .un) = some (.nx (kM n ts g S st' s5 (wordS ts S) s7 .un (.val (stD T)) .un .un .un)) := by
  have G := allE_good W s
  let E : Row → LEnv := fun st => kM n ts g S st s5 (wordS ts S) s7 .un .un .un .un .un
  have lk : asList (fListNK 6) (E st) = some (.list (ordD (allE ts S)), E st) := x_list (by
    show some (((dnOf lw (allE ts S)).map fun p => p.1.data), E st) = _
    rw [keys_ord])
  have ne : ordD (allE ts S) ≠ [] := fun z => by
    obtain ⟨e, me, _⟩ := List.mem_map.mp G.root
    have : stD e.s ∈ ordD (allE ts S) := List.mem_map.mpr ⟨e, me, rfl⟩
    rw [z] at this
    cases this
  obtain ⟨x, st1, p1, p2, ok1⟩ := x_pickR (i := 1) (env := E st) (e1 := E st) (st := st) (a := asList (fListNK 6)) ⟨st, rfl⟩ lk rfl rfl ne (by rw [ordD_len]; have := G.len h5 s.mn; omega) ok
  obtain ⟨e, me, rfl⟩ := List.mem_map.mp p2
  obtain ⟨T, st2, d1, d2, ok2⟩ := law_standing_is st1 ok1 (n := n) (m := m) (by have := s.mn; omega) (by omega)
  have cn := count_none S s.hole
  rw [s.holes] at cn
  have p3 : fCallR 1 2 m__law_standing (fCons (fVar 3) (fCons (fOp2 dCountN (fVar 4) (fC .none)) fNil)) (E st1) = some (stD T, E st2) := x_cR (e1 := E st1) (st := st1) ⟨st1, rfl⟩ (x_cons (x_var rfl) (x_cons (x_op2 (x_var rfl) rfl cn) rfl)) rfl rfl d1
  have li : fLst (fCons (fCallR 1 1 m__law_pick (fCons (asList (fListNK 6)) fNil)) (fCons (fCallR 1 2 m__law_standing (fCons (fVar 3) (fCons (fOp2 dCountN (fVar 4) (fC .none)) fNil))) fNil)) (E st) = some (.list [stD e.s, stD T], E st2) := x_lst (x_cons p1 (x_cons p3 rfl)) (by simp)
  obtain ⟨x, st3, q1, q2, ok3⟩ := x_pickR (i := 1) (env := E st) (e1 := E st2) (st := st2) ⟨st, rfl⟩ li rfl rfl (by simp) (by simp) ok2
  rcases List.mem_cons.mp q2 with rfl | q2
  · exact ⟨e.s, st3, G.std e me, ok3, x_asg' q1 rfl rfl⟩
  · rw [List.mem_singleton.mp q2] at q1
    exact ⟨T, st3, ⟨d2, s.m1, s.mn⟩, ok3, x_asg' q1 rfl rfl⟩
abbrev lF7 : SemS := (sSeq (sIf (fTest (fOp2 dNotIn (fVar 12) (fCall 2 m__law_slides (fCons (fVar 2) (fCons (fVar 11) fNil))))) (sRet (fC (.bool false))) sNext) (sAsg 11 (fCall 2 m__law_slid (fCons (fVar 11) (fCons (fVar 12) fNil)))))
abbrev lB7 : SemS := (sSeq (sIf (fOr (fTest (fInN true 6 (fVar 9))) (fTest (fOp2 dNe (fOp1 dLen (fPeek 10)) (fOp1 dLen (fIxN 6 (fVar 9)))))) (sRet (fC (.bool false))) sNext) (sSeq (sAsg 11 (fVar 4)) (sSeq (sFor (fItems (fVar 10)) (tgName 12) lF7) (sIf (fOr (fTest (fOp2 dNe (fVar 11) (fPeek 9))) (fNot (fTest (fCall 2 (m__law_alike 4) (fCons (fVar 10) (fCons (fIxN 6 (fVar 9)) fNil)))))) (sRet (fC (.bool false))) sNext))))
abbrev lP7 : SemS := sTryU "NoWay" 8 (xSeq (xAsgX 10 (eCall 3 m_slides_to (aLift (fCons (fVar 2) (fCons (fVar 4) (fCons (fVar 9) fNil)))))) (xLift lB7)) (sIf (fTest (fInN false 6 (fVar 9))) (sRet (fC (.bool false))) sNext)
theorem l7 (W : Web n ts) (h5 : n ≤ 5) (hg : 0 ≤ g ∧ g < n) (s : Std n m S) (st : Row) (s5 s7 : Slot) {T : St} (t : Std n m T) : ∃ s10 s11 s12, lP7 (kM n ts g S st s5 (wordS ts S) s7 .un (.val (stD T)) .un .un .un) = some (.nx (kM n ts g S st s5 (wordS ts S) s7 .un (.val (stD T)) s10 s11 s12)) := by
  have G := allE_good W s
  let E : Slot → Slot → Slot → LEnv := fun a b c => kM n ts g S st s5 (wordS ts S) s7 .un (.val (stD T)) a b c
  have ar : fCons (fVar 2) (fCons (fVar 4) (fCons (fVar 9) fNil)) (E .un .un .un) = some ([yardD n ts g, stD S, stD T], E .un .un .un) := x_cons (x_var rfl) (x_cons (x_var rfl) (x_cons (x_var rfl) rfl))
  rcases slides_to_is W h5 hg s t with ⟨no, h⟩ | ⟨e, me, rfl, h⟩
  · refine ⟨.un, .un, .un, x_tryU_ex (e1 := E .un .un .un) (e2 := E .un .un .un) (x := noWay) ?_ rfl rfl (x_ifF ?_ rfl) rfl⟩
    · have c : eCall 3 m_slides_to (aLift (fCons (fVar 2) (fCons (fVar 4) (fCons (fVar 9) fNil)))) (E .un .un .un) = some (.er noWay (E .un .un .un)) := e_er ar rfl h
      show xSeq _ _ (E .un .un .un) = _
      unfold xSeq xAsgX
      rw [c]
      rfl
    · exact (x_test (x_inN (F := lw) (A := allE ts S) (x_var rfl) rfl)).trans (by rw [decide_eq_false no]; rfl)
  · let wd : Slot := .val (.tuple (e.word.map tieD))
    obtain ⟨pe, pw⟩ := path_go (G.path e me)
    have stds := go_std W s e.word pw
    have wl := G.wl e me
    have al := G.len h5 s.mn
    have mk : e.s ∈ keysE (allE ts S) := List.mem_map.mpr ⟨e, me, rfl⟩
    obtain ⟨e', h1, s12, h2, o12⟩ := x_forM (α := Tie) tieD (g := tgName 12) (b := lF7)
      (fun a en => ∃ s12, en = E wd (.val (stD (goW S a))) s12 ∧ owns s12 = false) e.word (E wd (.val (stD S)) .un) ⟨.un, rfl, rfl⟩
      (fun a x r en hx ⟨s12, e1, o12⟩ => by
        subst e1
        have sa := stds a (x :: r) hx
        have hxs := pw a x r hx
        have n12 : noRow (E wd (.val (stD (goW S a))) s12) 12 = true := noRow_own (s := s12) rfl o12
        have go1 : goW S (a ++ [x]) = mvL (goW S a) x := by unfold goW; rw [List.foldl_append]; rfl
        refine ⟨E wd (.val (stD (goW S a))) (.val (tieD x)), E wd (.val (stD (goW S (a ++ [x])))) (.val (tieD x)), x_tg n12 rfl, .inl ?_, _, rfl, rfl⟩
        rw [go1]
        have c1 : fTest (fOp2 dNotIn (fVar 12) (fCall 2 m__law_slides (fCons (fVar 2) (fCons (fVar 11) fNil)))) (E wd (.val (stD (goW S a))) (.val (tieD x))) = some (false, E wd (.val (stD (goW S a))) (.val (tieD x))) := x_test (x_op2 (x_var rfl) (x_call (x_cons (x_var rfl) (x_cons (x_var rfl) rfl)) rfl (law_slides_is (g := g) W (by rw [sa.len]))) ((notin_ties x _).trans (by rw [decide_eq_true hxs]; rfl)))
        exact x_go (x_ifF c1 rfl) (x_asg' (x_call (x_cons (x_var rfl) (x_cons (x_var rfl) rfl)) rfl (law_slid_is (by rw [sa.len]) ((mem_sl W (by rw [sa.len])).mp hxs))) rfl rfl))
    subst h2
    rw [← pe] at h1
    refine ⟨wd, .val (stD e.s), s12, x_tryU_nx (r := .nx (E wd (.val (stD e.s)) s12)) ?_⟩
    have c0 : xAsgX 10 (eCall 3 m_slides_to (aLift (fCons (fVar 2) (fCons (fVar 4) (fCons (fVar 9) fNil))))) (E .un .un .un) = some (.fl (.nx (E wd .un .un))) := by
      have c : eCall 3 m_slides_to (aLift (fCons (fVar 2) (fCons (fVar 4) (fCons (fVar 9) fNil)))) (E .un .un .un) = some (.ok (.tuple (e.word.map tieD)) (E .un .un .un)) := e_ok ar rfl h
      unfold xAsgX
      rw [c]
      rfl
    have ixw : ∀ a b c, fIxN 6 (fVar 9) (E a b c) = some (lw e, E a b c) := fun a b c => x_ixN (F := lw) (A := allE ts S) rfl (x_var rfl) rfl G.nd me
    have t1 : fOr (fTest (fInN true 6 (fVar 9))) (fTest (fOp2 dNe (fOp1 dLen (fPeek 10)) (fOp1 dLen (fIxN 6 (fVar 9))))) (E wd .un .un) = some (false, E wd .un .un) := by
      refine x_or (b := false) (c := false) ((x_test (x_inN (F := lw) (A := allE ts S) (x_var rfl) rfl)).trans (by rw [decide_eq_true mk]; rfl)) fun _ => x_test ?_
      refine x_op2 (x := .int ((e.word.map tieD).length : Int)) (y := .int ((e.word.map tieD).length : Int)) (x_op1 (x_peek (d := .tuple (e.word.map tieD)) rfl) rfl) (x_op1 (ixw _ _ _) rfl) ((ne_int _ _).trans (by simp))
    have t2 : fOr (fTest (fOp2 dNe (fVar 11) (fPeek 9))) (fNot (fTest (fCall 2 (m__law_alike 4) (fCons (fVar 10) (fCons (fIxN 6 (fVar 9)) fNil))))) (E wd (.val (stD e.s)) s12) = some (false, E wd (.val (stD e.s)) s12) := by
      refine x_or (b := false) (c := false) (x_test (x_op2 (x_var rfl) (x_peek (d := stD e.s) rfl) ((ne_st _ _).trans (by rw [decide_eq_true rfl]; rfl)))) fun _ => x_not (b := true) (x_test (x_call (x_cons (x_var rfl) (x_cons (ixw _ _ _) rfl)) rfl (alike_ties e.word (by omega))))
    refine xs_go c0 (xs_lift ?_)
    refine x_go (x_ifF t1 rfl) (x_go (e1 := E wd (.val (stD S)) .un) (x_asg' (x_var rfl) rfl rfl) (x_go (x_sForI (x_items (d := .tuple (e.word.map tieD)) (x_var rfl) rfl) h1) (x_ifF t2 rfl)))
end
end GL
/-! The law's end: what is refused; the law. -/
namespace GL
open PySem L2 GR

section
variable {n m : Nat} {ts : List Tie} {g : Int} {S : St}
theorem cut_last (xs : List D) : cutD xs none (some (-1)) = xs.take (xs.length - 1) := by
  unfold cutD
  have h1 : HT.sIx xs.length 0 none = 0 := rfl
  have h2 : HT.sIx xs.length xs.length (some (-1)) = xs.length - 1 := by
    show (if (-1 : Int) < 0 then ((-1 : Int) + (xs.length : Int)).toNat else min (-1 : Int).toNat xs.length) = _
    rw [if_pos (by decide)]
    omega
  rw [h1, h2, List.drop_zero, Nat.sub_zero]
/-- the odd standings -/
def oddS (n : Nat) (S : St) : List D := [.none, stD [], stD (S.take (n - 1)), stD ((upto n).map some)]
def oddS2 (n : Nat) (S : St) : List D := [stD (List.replicate n none), stD (S.take (n - 1) ++ [some (n : Int)]), .list [.none]]
theorem odd_bad (W : Web n ts) (s : Std n m S) {x : D} (hx : x ∈ oddS n S ++ oddS2 n S) : m_check_standing [yardD n ts g, x] = some (.er badSt) := by
  have n2 := W.n2
  have n7 := W.n7
  have sl := s.len
  have tl : (S.take (n - 1)).length = n - 1 := by rw [List.length_take]; omega
  unfold oddS oddS2 at hx
  simp only [List.cons_append, List.nil_append, List.mem_cons, List.not_mem_nil, or_false] at hx
  rcases hx with rfl | rfl | rfl | rfl | rfl | rfl | rfl
  · exact ck_none
  · exact ck_len (by simp; omega)
  · exact ck_len (by omega)
  · rw [ck_is (by rw [List.length_map, upto_len]) (by omega)]
    have : goodB n ((upto n).map some) = false := by
      unfold goodB
      have e : bksL ((upto n).map some) = upto n := by unfold bksL; rw [List.filterMap_map]; simp
      rw [e, upto_len, decide_eq_true rfl]
      simp
    rw [this]
    rfl
  · rw [ck_is (by rw [List.length_replicate]) (by omega)]
    have : goodB n (List.replicate n none) = false := by
      unfold goodB
      have e : bksL (List.replicate n none) = [] := by
        unfold bksL
        induction n with
        | zero => rfl
        | succ k ih => rw [List.replicate_succ, List.filterMap_cons]; exact List.filterMap_replicate_of_none rfl
      rw [e]
      rfl
    rw [this]
    rfl
  · rw [ck_is (by rw [List.length_append, tl, List.length_singleton]; omega) (by omega)]
    have : goodB n (S.take (n - 1) ++ [some (n : Int)]) = false := by
      unfold goodB
      have mem : (n : Int) ∈ bksL (S.take (n - 1) ++ [some (n : Int)]) := by
        unfold bksL
        rw [List.mem_filterMap]
        exact ⟨some (n : Int), by simp, rfl⟩
      have le := bks_len (S.take (n - 1) ++ [some (n : Int)])
      rw [List.length_append, tl, List.length_singleton] at le
      have : ¬ sortI (bksL (S.take (n - 1) ++ [some (n : Int)])) = upto (bksL (S.take (n - 1) ++ [some (n : Int)])).length := fun z => by
        have : (n : Int) ∈ sortI (bksL (S.take (n - 1) ++ [some (n : Int)])) := sortI_mem.mpr mem
        rw [z] at this
        unfold upto at this
        obtain ⟨i, mi, e⟩ := List.mem_map.mp this
        have := List.mem_range.mp mi
        omega
      rw [decide_eq_false this]
      simp
    rw [this]
    rfl
  · exact ck_list _
theorem x_forLam {hs : List HSem} {iw : Nat} {fe : SemE} {r : List SemE} {env e1 : LEnv} {q : Fl} (hn : noRow env iw = true) (h : sTryM hs (xExprX fe) (env.set iw .un) = some (.nx e1)) (hr : sForLam hs iw r e1 = some q) : sForLam hs iw (fe :: r) env = some q := by
  unfold sForLam
  rw [if_pos hn, h, Option.bind_some]
  exact hr
theorem x_tryM {hs : List HSem} {fe : SemE} {env e1 : LEnv} {x : ExD} {q : Fl} (h : fe env = some (.er x e1)) (hc : sCatch hs x e1 = some q) : sTryM hs (xExprX fe) env = some q := by
  unfold sTryM xExprX
  rw [h]
  exact hc
theorem x_catch {c : Str} {i : Nat} {sf : SemS} {r : List HSem} {x : ExD} {e e2 : LEnv} (hc : x.cls = c) (hn : noRow e i = true) (hs : sf (e.set i .un) = some (.nx e2)) (hn2 : noRow e2 i = true) : sCatch ((c, i, sf) :: r) x e = some (.nx (e2.set i .un)) := by
  unfold sCatch
  rw [if_pos hc, if_pos hn, hs, Option.bind_some]
  unfold unset
  dsimp only
  rw [if_pos hn2]
theorem x_catchN {c : Str} {i : Nat} {sf : SemS} {r : List HSem} {x : ExD} {e : LEnv} {q : Fl} (hc : x.cls ≠ c) (h : sCatch r x e = some q) : sCatch ((c, i, sf) :: r) x e = some q := by
  unfold sCatch
  rw [if_neg hc]
  exact h
abbrev lHs : List HSem := [("BadStanding", 8, (sExpr (sAppend 6 (fC (.str "standing"))))), ("BadSlide", 8, (sExpr (sAppend 6 (fC (.str "slide")))))]
abbrev lF1 : SemE := (eCall 2 m_slides (aLift (fCons (fVar 2) (fCons (fVar 14) fNil))))
abbrev lF2 : SemE := (eCall 3 m_behind_slide (aLift (fCons (fVar 2) (fCons (fVar 4) (fCons (fCallR 1 1 m__law_pick (fCons (fLst (fCons (fC .none) (fCons (fTup (fCons (fC (.int 0)) fNil)) (fCons (fTup (fCons (fC (.int 0)) (fCons (fVar 3) fNil))) fNil)))) fNil)) fNil)))))
abbrev lT1 : SemS := sAsg 13 (fLst (fCons (fC .none) (fCons (fTup fNil) (fCons (fSl (fVar 4) foNone (foSome (fOp1 dNeg (fC (.int 1))))) (fCons (fTupR (fRange1 (fVar 3))) fNil)))))
abbrev lT2 : SemS := sAsg 14 (fCallR 1 1 m__law_pick (fCons (fOp2 dAdd (fVar 13) (fLst (fCons (fOp2 dRep (fTup (fCons (fC .none) fNil)) (fPeek 3)) (fCons (fOp2 dAdd (fSl (fVar 4) foNone (foSome (fOp1 dNeg (fC (.int 1))))) (fTup (fCons (fVar 3) fNil))) (fCons (fLst (fCons (fC .none) fNil)) fNil))))) fNil))
theorem law_tail (W : Web n ts) (hg : 0 ≤ g ∧ g < n) (s : Std n m S) (st : Row) (ok : RowOk st) (kvs : List (NKey × D)) (s5 s7 s9 s10 s11 s12 : Slot) :
    ∃ e, (sSeq lT1 (sSeq lT2 (sSeq (sAsgO 6 (fLst' fNil)) (sSeq (sUn 15) (sSeq (sForLam lHs 16 [lF1, lF2]) (sRet (fOp2 dEq (fVar 6) (fLst (fCons (fC (.str "standing")) (fCons (fC (.str "slide")) fNil))))))))))
      (kM n ts g S st s5 (.dn kvs) s7 .un s9 s10 s11 s12) = some (.rt (.bool true) e) := by
  have n2 := W.n2
  have n7 := W.n7
  have sl := s.len
  let E : Row → Slot → Slot → Slot → LEnv := fun st s6 s13 s14 => kE st (.val (yardD n ts g)) (.val (.int n)) (.val (stD S)) s5 s6 s7 .un s9 s10 s11 s12 s13 s14 .un .un
  have sli : ∀ st s6 s13 s14, fSl (fVar 4) foNone (foSome (fOp1 dNeg (fC (.int 1)))) (E st s6 s13 s14) = some (stD (S.take (n - 1)), E st s6 s13 s14) := fun st s6 s13 s14 => by
    show some (PyData.tuple (cutD (S.map cD) none (some (-1))), E st s6 s13 s14) = _
    rw [cut_last, List.length_map, sl, ← List.map_take]
    rfl
  have tup : ∀ st s6 s13 s14, fTupR (fRange1 (fVar 3)) (E st s6 s13 s14) = some (stD ((upto n).map some), E st s6 s13 s14) := fun st s6 s13 s14 => by
    unfold fTupR
    rw [x_range1 (n := (n : Int)) (x_var rfl) (by omega) (by omega), Int.toNat_natCast]
    show some (PyData.tuple (rangeD 0 n), _) = _
    rw [rangeD_upto, intsL_cD]
    rfl
  have a1 : lT1 (E st (.dn kvs) .un .un) = some (.nx (E st (.dn kvs) (.val (.list (oddS n S))) .un)) := x_asg' (x_lst (x_cons rfl (x_cons (x_tup (r := fNil) rfl (by simp)) (x_cons (sli _ _ _ _) (x_cons (tup _ _ _ _) rfl)))) (by simp)) rfl rfl
  have rp : fOp2 dRep (fTup (fCons (fC .none) fNil)) (fPeek 3) (E st (.dn kvs) (.val (.list (oddS n S))) .un) = some (stD (List.replicate n none), E st (.dn kvs) (.val (.list (oddS n S))) .un) := by
    refine x_op2 (x := .tuple [.none]) (x_tup (x_cons rfl rfl) (by simp)) (x_peek rfl) ?_
    show (if 2 ≤ (n : Int) ∧ (n : Int) ≤ 1000 ∧ [PyData.none].length ≤ 1000 ∧ [PyData.none] ≠ [] then some (PyData.tuple (List.replicate (n : Int).toNat [PyData.none]).flatten) else none) = _
    rw [if_pos ⟨by omega, by omega, by simp, by simp⟩, Int.toNat_natCast, rep_none]
    rfl
  have ad : fOp2 dAdd (fSl (fVar 4) foNone (foSome (fOp1 dNeg (fC (.int 1))))) (fTup (fCons (fVar 3) fNil)) (E st (.dn kvs) (.val (.list (oddS n S))) .un) = some (stD (S.take (n - 1) ++ [some (n : Int)]), E st (.dn kvs) (.val (.list (oddS n S))) .un) := by
    refine x_op2 (sli _ _ _ _) (x_tup (x_cons (x_var rfl) rfl) (by simp)) ?_
    show (if ((S.take (n - 1)).map cD).length + [PyData.int n].length ≤ 1000000 then some (PyData.tuple ((S.take (n - 1)).map cD ++ [PyData.int n])) else none) = _
    rw [if_pos (by rw [List.length_map, List.length_take, List.length_singleton]; omega)]
    unfold stD
    rw [List.map_append]
    rfl
  have al : fOp2 dAdd (fVar 13) (fLst (fCons (fOp2 dRep (fTup (fCons (fC .none) fNil)) (fPeek 3)) (fCons (fOp2 dAdd (fSl (fVar 4) foNone (foSome (fOp1 dNeg (fC (.int 1))))) (fTup (fCons (fVar 3) fNil))) (fCons (fLst (fCons (fC .none) fNil)) fNil)))) (E st (.dn kvs) (.val (.list (oddS n S))) .un) = some (.list (oddS n S ++ oddS2 n S), E st (.dn kvs) (.val (.list (oddS n S))) .un) :=
    x_op2 (x_var rfl) (x_lst (x_cons rp (x_cons ad (x_cons (x_lst (x_cons rfl rfl) (by simp)) rfl))) (by simp)) rfl
  obtain ⟨x, st1, p1, p2, ok1⟩ := x_pickR (i := 1) (env := E st (.dn kvs) (.val (.list (oddS n S))) .un) (e1 := E st (.dn kvs) (.val (.list (oddS n S))) .un) (st := st) ⟨st, rfl⟩ al rfl rfl (by unfold oddS; simp) (by unfold oddS oddS2; simp) ok
  have bad := slides_bad W hg (odd_bad (g := g) W s p2)
  let F : Row → Slot → LEnv := fun st s6 => E st s6 (.val (.list (oddS n S))) (.val x)
  have a2 : lT2 (E st (.dn kvs) (.val (.list (oddS n S))) .un) = some (.nx (F st1 (.dn kvs))) := x_asg' p1 rfl rfl
  have f1 : lF1 (F st1 (.ol [])) = some (.er badSt (F st1 (.ol []))) := e_er (x_cons (x_var rfl) (x_cons (x_var rfl) rfl)) rfl bad
  have li : fLst (fCons (fC .none) (fCons (fTup (fCons (fC (.int 0)) fNil)) (fCons (fTup (fCons (fC (.int 0)) (fCons (fVar 3) fNil))) fNil))) (F st1 (.ol [.str "standing"])) = some (.list [.none, .tuple [.int 0], tieD (0, n)], F st1 (.ol [.str "standing"])) := x_lst (x_cons rfl (x_cons (x_tup (x_cons rfl rfl) (by simp)) (x_cons (x_tup (x_cons rfl (x_cons (x_var rfl) rfl)) (by simp)) rfl))) (by simp)
  obtain ⟨z, st2, q1, q2, ok2⟩ := x_pickR (i := 1) (env := F st1 (.ol [.str "standing"])) (e1 := F st1 (.ol [.str "standing"])) (st := st1) ⟨st1, rfl⟩ li rfl rfl (by simp) (by simp) ok1
  have no : m_is_slide_at [.tuple (ts.map tieD), stD S, z] = some (.bool false) := by
    simp only [List.mem_cons, List.not_mem_nil, or_false] at q2
    rcases q2 with rfl | rfl | rfl
    · exact slide_at_no (isnt_tuple_none 2) _ _
    · exact slide_at_no ((v_is_tuple_of [.int 0] 2).trans (by rfl)) _ _
    · rw [slide_at_is W s]
      have : ((0, n) : Tie) ∉ slL ts S := fun m => by
        have := ((mem_sl W (by rw [s.len])).mp m).2.2.2.1
        dsimp only at this
        omega
      rw [decide_eq_false this]
  have bh := behind_is W hg s no .none (fun h => nomatch h)
  have f2 : lF2 (F st1 (.ol [.str "standing"])) = some (.er badSl (F st2 (.ol [.str "standing"]))) := e_er (x_cons (x_var rfl) (x_cons (x_var rfl) (x_cons q1 rfl))) rfl bh
  have h1 : sTryM lHs (xExprX lF1) (F st1 (.ol [])) = some (.nx (F st1 (.ol [.str "standing"]))) := x_tryM f1 (x_catch (e2 := F st1 (.ol [.str "standing"])) rfl rfl (x_expr (x_append (ds0 := []) (ds := []) (d := .str "standing") rfl rfl rfl (by simp) rfl)) rfl)
  have h2 : sTryM lHs (xExprX lF2) (F st1 (.ol [.str "standing"])) = some (.nx (F st2 (.ol [.str "standing", .str "slide"]))) := x_tryM f2 (x_catchN (by decide) (x_catch (e2 := F st2 (.ol [.str "standing", .str "slide"])) rfl rfl (x_expr (x_append (ds0 := [.str "standing"]) (ds := [.str "standing"]) (d := .str "slide") rfl rfl rfl (by simp) rfl)) rfl))
  have lp : sForLam lHs 16 [lF1, lF2] (F st1 (.ol [])) = some (.nx (F st2 (.ol [.str "standing", .str "slide"]))) := x_forLam rfl h1 (x_forLam rfl h2 rfl)
  have a3 : sAsgO 6 (fLst' fNil) (F st1 (.dn kvs)) = some (.nx (F st1 (.ol []))) := x_asgO (e1 := F st1 (.dn kvs)) rfl rfl rfl
  have a4 : sUn 15 (F st1 (.ol [])) = some (.nx (F st1 (.ol []))) := rfl
  have fin : fOp2 dEq (fVar 6) (fLst (fCons (fC (.str "standing")) (fCons (fC (.str "slide")) fNil))) (F st2 (.ol [.str "standing", .str "slide"])) = some (.bool true, F st2 (.val (.list [.str "standing", .str "slide"]))) := by
    refine x_op2 (x := .list [.str "standing", .str "slide"]) (y := .list [.str "standing", .str "slide"]) rfl (x_lst (x_cons rfl (x_cons rfl rfl)) (by simp)) ?_
    unfold dEq
    rw [if_pos ⟨rfl, rfl⟩]
    simp [PyData.eqv, PyData.eqvAll]
  exact ⟨_, x_go a1 (x_go a2 (x_go a3 (x_go a4 (x_go lp (x_ret fin)))))⟩
end
theorem hv_all : ∀ ns : List Int, ns.length ≤ 63 → ∃ e, b_law (lawS 7802 15 ns) = some (.rt (.bool true) e) := by
  intro ns _
  obtain ⟨n, m, ts, g, S, st1, W, h5, hg, s, ok1, k⟩ := law_draw ⟨ns, 0, 7802, 0⟩ (Int.le_refl 0)
  obtain ⟨t, st2, ok2, q4⟩ := l4 (g := g) (S := S) W st1 ok1 (toldD ts S) (wordS ts S)
  obtain ⟨T, st3, tT, ok3, q6⟩ := l6 (g := g) W h5 s st2 ok2 (toldD ts S) (.val (tieD t))
  obtain ⟨s10, s11, s12, q7⟩ := l7 W h5 hg s st3 (toldD ts S) (.val (tieD t)) tT
  obtain ⟨e, q8⟩ := law_tail W hg s st3 ok3 (dnOf lw (allE ts S)) (toldD ts S) (.val (tieD t)) (.val (stD T)) s10 s11 s12
  refine ⟨e, ?_⟩
  unfold b_law
  refine k _ _ ?_
  exact x_go (l1 W h5 hg s st1) (x_go (l2 W hg s st1 _) (x_go (l3 W h5 hg s st1 _) (x_go q4 (x_go (l5 W hg s st2 _ t) (x_go q6 (x_go q7 q8))))))
end GL
set_option maxHeartbeats 8000000
namespace GL
open PySem L2
theorem exm_own {K : PySem.W.Frag} {S : Addr} (h1 : PySem.W.subIn K (.ref S) (.type "BaseException") = some true) (h2 : PySem.W.isClsIn K S = true) (h3 : PySem.W.typeIn K (.ref S) = some (.type "type")) (h4 : PySem.W.subIn K (.ref S) (.ref S) = some true) : PySem.W.exmOne K (.ref S) (.ref S) = some true := by
  have g1 : (PySem.W.subIn K (.ref S) (.type "BaseException") == some true) = true := by rw [h1] <;> rfl
  have g2 : ((PySem.W.clsIn K S).isSome && PySem.W.typeIn K (.ref S) == some (.type "type")) = true := by
    have h2' : (PySem.W.clsIn K S).isSome = true := h2
    rw [h2', h3] <;> rfl
  unfold PySem.W.exmOne PySem.W.kitCls
  simp only [g1, g2, if_true]
  exact h4
abbrev si_BadYard : Stmt := inClass (top 2) 0
theorem sci_BadYard : FnScope ["self", "part"] ["self", "part"] (defScope si_BadYard) := ⟨rfl, rfl, rfl, by decide +kernel, rfl, by decide +kernel, by decide +kernel⟩
theorem exm_not {K : PySem.W.Frag} {S D : Addr} (h1 : PySem.W.subIn K (.ref S) (.type "BaseException") = some true) (h2 : PySem.W.isClsIn K S = true) (h3 : PySem.W.typeIn K (.ref S) = some (.type "type")) (h4 : PySem.W.subIn K (.ref D) (.ref S) = some false) : PySem.W.exmOne K (.ref D) (.ref S) = some false := by
  have g1 : (PySem.W.subIn K (.ref S) (.type "BaseException") == some true) = true := by rw [h1] <;> rfl
  have g2 : ((PySem.W.clsIn K S).isSome && PySem.W.typeIn K (.ref S) == some (.type "type")) = true := by
    have h2' : (PySem.W.clsIn K S).isSome = true := h2
    rw [h2', h3] <;> rfl
  unfold PySem.W.exmOne PySem.W.kitCls
  simp only [g1, g2, if_true]
  exact h4
theorem all_mk {l : PySem.W.OpenLaw} {w : World} {K : PySem.W.Frag} {h : Heap} {mg : Str → Option Value} {fa : Addr} (X : K.In h) (G : h.Ns mainGlobals mg) (ot : LamX.OwnTab K fa h) (hfa : mg "law" = some (.ref fa)) (hv : ∀ ns : List Int, ns.length ≤ 63 → ∃ e, b_law (lawS 7802 15 ns) = some (.rt (.bool true) e))
    {f_is_number : Addr} {od_is_number an_is_number : Option Addr} {sl_is_number : Array (Option Value)} {oc_is_number kV_is_number dc_is_number pm_is_number cd_is_number ct_is_number : Value}
    {f_is_tuple_of : Addr} {od_is_tuple_of an_is_tuple_of : Option Addr} {sl_is_tuple_of : Array (Option Value)} {oc_is_tuple_of kV_is_tuple_of dc_is_tuple_of pm_is_tuple_of cd_is_tuple_of ct_is_tuple_of : Value}
    {f_is_from : Addr} {od_is_from an_is_from : Option Addr} {sl_is_from : Array (Option Value)} {oc_is_from kV_is_from dc_is_from pm_is_from cd_is_from ct_is_from : Value}
    {f_is_place : Addr} {od_is_place an_is_place : Option Addr} {sl_is_place : Array (Option Value)} {oc_is_place kV_is_place dc_is_place pm_is_place cd_is_place ct_is_place : Value}
    {f_is_tie : Addr} {od_is_tie an_is_tie : Option Addr} {sl_is_tie : Array (Option Value)} {oc_is_tie kV_is_tie dc_is_tie pm_is_tie cd_is_tie ct_is_tie : Value}
    {f_neighbours : Addr} {od_neighbours an_neighbours : Option Addr} {sl_neighbours : Array (Option Value)} {oc_neighbours kV_neighbours dc_neighbours pm_neighbours cd_neighbours ct_neighbours : Value}
    {f_hanging : Addr} {od_hanging an_hanging : Option Addr} {sl_hanging : Array (Option Value)} {oc_hanging kV_hanging dc_hanging pm_hanging cd_hanging ct_hanging : Value}
    {f_are_ties : Addr} {od_are_ties an_are_ties : Option Addr} {sl_are_ties : Array (Option Value)} {oc_are_ties kV_are_ties dc_are_ties pm_are_ties cd_are_ties ct_are_ties : Value}
    {f_check_yard : Addr} {od_check_yard an_check_yard : Option Addr} {sl_check_yard : Array (Option Value)} {oc_check_yard kV_check_yard dc_check_yard pm_check_yard cd_check_yard ct_check_yard : Value}
    {f_check_standing : Addr} {od_check_standing an_check_standing : Option Addr} {sl_check_standing : Array (Option Value)} {oc_check_standing kV_check_standing dc_check_standing pm_check_standing cd_check_standing ct_check_standing : Value}
    {f_slides_at : Addr} {od_slides_at an_slides_at : Option Addr} {sl_slides_at : Array (Option Value)} {oc_slides_at kV_slides_at dc_slides_at pm_slides_at cd_slides_at ct_slides_at : Value}
    {f_slides : Addr} {od_slides an_slides : Option Addr} {sl_slides : Array (Option Value)} {oc_slides kV_slides dc_slides pm_slides cd_slides ct_slides : Value}
    {f_is_slide_at : Addr} {od_is_slide_at an_is_slide_at : Option Addr} {sl_is_slide_at : Array (Option Value)} {oc_is_slide_at kV_is_slide_at dc_is_slide_at pm_is_slide_at cd_is_slide_at ct_is_slide_at : Value}
    {f_moved : Addr} {od_moved an_moved : Option Addr} {sl_moved : Array (Option Value)} {oc_moved kV_moved dc_moved pm_moved cd_moved ct_moved : Value}
    {f_behind_slide : Addr} {od_behind_slide an_behind_slide : Option Addr} {sl_behind_slide : Array (Option Value)} {oc_behind_slide kV_behind_slide dc_behind_slide pm_behind_slide cd_behind_slide ct_behind_slide : Value}
    {f_next_row : Addr} {od_next_row an_next_row : Option Addr} {sl_next_row : Array (Option Value)} {oc_next_row kV_next_row dc_next_row pm_next_row cd_next_row ct_next_row : Value}
    {f_first_steps : Addr} {od_first_steps an_first_steps : Option Addr} {sl_first_steps : Array (Option Value)} {oc_first_steps kV_first_steps dc_first_steps pm_first_steps cd_first_steps ct_first_steps : Value}
    {f_way_back : Addr} {od_way_back an_way_back : Option Addr} {sl_way_back : Array (Option Value)} {oc_way_back kV_way_back dc_way_back pm_way_back cd_way_back ct_way_back : Value}
    {f_slides_to : Addr} {od_slides_to an_slides_to : Option Addr} {sl_slides_to : Array (Option Value)} {oc_slides_to kV_slides_to dc_slides_to pm_slides_to cd_slides_to ct_slides_to : Value}
    {f_count_standings : Addr} {od_count_standings an_count_standings : Option Addr} {sl_count_standings : Array (Option Value)} {oc_count_standings kV_count_standings dc_count_standings pm_count_standings cd_count_standings ct_count_standings : Value}
    {f__law_taken : Addr} {od__law_taken an__law_taken : Option Addr} {sl__law_taken : Array (Option Value)} {oc__law_taken kV__law_taken dc__law_taken pm__law_taken cd__law_taken ct__law_taken : Value}
    {f__law_pick : Addr} {od__law_pick an__law_pick : Option Addr} {sl__law_pick : Array (Option Value)} {oc__law_pick kV__law_pick dc__law_pick pm__law_pick cd__law_pick ct__law_pick : Value}
    {f__law_alike : Addr} {od__law_alike an__law_alike : Option Addr} {sl__law_alike : Array (Option Value)} {oc__law_alike kV__law_alike dc__law_alike pm__law_alike cd__law_alike ct__law_alike : Value}
    {f__law_yard : Addr} {od__law_yard an__law_yard : Option Addr} {sl__law_yard : Array (Option Value)} {oc__law_yard kV__law_yard dc__law_yard pm__law_yard cd__law_yard ct__law_yard : Value}
    {f__law_standing : Addr} {od__law_standing an__law_standing : Option Addr} {sl__law_standing : Array (Option Value)} {oc__law_standing kV__law_standing dc__law_standing pm__law_standing cd__law_standing ct__law_standing : Value}
    {f__law_near : Addr} {od__law_near an__law_near : Option Addr} {sl__law_near : Array (Option Value)} {oc__law_near kV__law_near dc__law_near pm__law_near cd__law_near ct__law_near : Value}
    {f__law_slides : Addr} {od__law_slides an__law_slides : Option Addr} {sl__law_slides : Array (Option Value)} {oc__law_slides kV__law_slides dc__law_slides pm__law_slides cd__law_slides ct__law_slides : Value}
    {f__law_slid : Addr} {od__law_slid an__law_slid : Option Addr} {sl__law_slid : Array (Option Value)} {oc__law_slid kV__law_slid dc__law_slid pm__law_slid cd__law_slid ct__law_slid : Value}
    {f__law_words : Addr} {od__law_words an__law_words : Option Addr} {sl__law_words : Array (Option Value)} {oc__law_words kV__law_words dc__law_words pm__law_words cd__law_words ct__law_words : Value}
    {f_law : Addr} {od_law an_law : Option Addr} {sl_law : Array (Option Value)} {oc_law kV_law dc_law pm_law ct_law : Value} {cc_law : Addr}
    {C_BadYard : Addr}
    {f_BadYard : Addr} {odi_BadYard ani_BadYard dd_BadYard : Option Addr} {sli_BadYard : Array (Option Value)} {oci_BadYard kVi_BadYard dci_BadYard pmi_BadYard cdi_BadYard cti_BadYard : Value} {nm_BadYard qn_BadYard : Str} {N_BadYard : Addr} {bs_BadYard bm_BadYard : List Value} {sn_BadYard : List Str} {sub_BadYard : List Value} {ab_BadYard : Bool} {col_BadYard : Option Bool} {m0_BadYard m1_BadYard m2_BadYard m3_BadYard m5_BadYard : Option Value}
    {C_BadStanding : Addr}
    {C_BadSlide : Addr}
    {C_NoWay : Addr}
    (a_is_number : PySem.W.nsIn K mainGlobals "is_number" = some (some (.ref f_is_number))) (l_is_number : K.lookup f_is_number = some ⟨oc_is_number, od_is_number, .func (PySem.W.fnOf "is_number" "is_number" (defArgs s_is_number) (defBody s_is_number) (defScope s_is_number) .none kV_is_number dc_is_number pm_is_number an_is_number cd_is_number ct_is_number), sl_is_number⟩) (c_is_number : PySem.W.codeIn K cd_is_number "is_number" = true) (k_is_number : PySem.W.keepIn K (.ref f_is_number) = true)
    (a_is_tuple_of : PySem.W.nsIn K mainGlobals "is_tuple_of" = some (some (.ref f_is_tuple_of))) (l_is_tuple_of : K.lookup f_is_tuple_of = some ⟨oc_is_tuple_of, od_is_tuple_of, .func (PySem.W.fnOf "is_tuple_of" "is_tuple_of" (defArgs s_is_tuple_of) (defBody s_is_tuple_of) (defScope s_is_tuple_of) .none kV_is_tuple_of dc_is_tuple_of pm_is_tuple_of an_is_tuple_of cd_is_tuple_of ct_is_tuple_of), sl_is_tuple_of⟩) (c_is_tuple_of : PySem.W.codeIn K cd_is_tuple_of "is_tuple_of" = true) (k_is_tuple_of : PySem.W.keepIn K (.ref f_is_tuple_of) = true)
    (a_is_from : PySem.W.nsIn K mainGlobals "is_from" = some (some (.ref f_is_from))) (l_is_from : K.lookup f_is_from = some ⟨oc_is_from, od_is_from, .func (PySem.W.fnOf "is_from" "is_from" (defArgs s_is_from) (defBody s_is_from) (defScope s_is_from) .none kV_is_from dc_is_from pm_is_from an_is_from cd_is_from ct_is_from), sl_is_from⟩) (c_is_from : PySem.W.codeIn K cd_is_from "is_from" = true) (k_is_from : PySem.W.keepIn K (.ref f_is_from) = true)
    (a_is_place : PySem.W.nsIn K mainGlobals "is_place" = some (some (.ref f_is_place))) (l_is_place : K.lookup f_is_place = some ⟨oc_is_place, od_is_place, .func (PySem.W.fnOf "is_place" "is_place" (defArgs s_is_place) (defBody s_is_place) (defScope s_is_place) .none kV_is_place dc_is_place pm_is_place an_is_place cd_is_place ct_is_place), sl_is_place⟩) (c_is_place : PySem.W.codeIn K cd_is_place "is_place" = true) (k_is_place : PySem.W.keepIn K (.ref f_is_place) = true)
    (a_is_tie : PySem.W.nsIn K mainGlobals "is_tie" = some (some (.ref f_is_tie))) (l_is_tie : K.lookup f_is_tie = some ⟨oc_is_tie, od_is_tie, .func (PySem.W.fnOf "is_tie" "is_tie" (defArgs s_is_tie) (defBody s_is_tie) (defScope s_is_tie) .none kV_is_tie dc_is_tie pm_is_tie an_is_tie cd_is_tie ct_is_tie), sl_is_tie⟩) (c_is_tie : PySem.W.codeIn K cd_is_tie "is_tie" = true) (k_is_tie : PySem.W.keepIn K (.ref f_is_tie) = true)
    (a_neighbours : PySem.W.nsIn K mainGlobals "neighbours" = some (some (.ref f_neighbours))) (l_neighbours : K.lookup f_neighbours = some ⟨oc_neighbours, od_neighbours, .func (PySem.W.fnOf "neighbours" "neighbours" (defArgs s_neighbours) (defBody s_neighbours) (defScope s_neighbours) .none kV_neighbours dc_neighbours pm_neighbours an_neighbours cd_neighbours ct_neighbours), sl_neighbours⟩) (c_neighbours : PySem.W.codeIn K cd_neighbours "neighbours" = true) (k_neighbours : PySem.W.keepIn K (.ref f_neighbours) = true)
    (a_hanging : PySem.W.nsIn K mainGlobals "hanging" = some (some (.ref f_hanging))) (l_hanging : K.lookup f_hanging = some ⟨oc_hanging, od_hanging, .func (PySem.W.fnOf "hanging" "hanging" (defArgs s_hanging) (defBody s_hanging) (defScope s_hanging) .none kV_hanging dc_hanging pm_hanging an_hanging cd_hanging ct_hanging), sl_hanging⟩) (c_hanging : PySem.W.codeIn K cd_hanging "hanging" = true) (k_hanging : PySem.W.keepIn K (.ref f_hanging) = true)
    (a_are_ties : PySem.W.nsIn K mainGlobals "are_ties" = some (some (.ref f_are_ties))) (l_are_ties : K.lookup f_are_ties = some ⟨oc_are_ties, od_are_ties, .func (PySem.W.fnOf "are_ties" "are_ties" (defArgs s_are_ties) (defBody s_are_ties) (defScope s_are_ties) .none kV_are_ties dc_are_ties pm_are_ties an_are_ties cd_are_ties ct_are_ties), sl_are_ties⟩) (c_are_ties : PySem.W.codeIn K cd_are_ties "are_ties" = true) (k_are_ties : PySem.W.keepIn K (.ref f_are_ties) = true)
    (a_check_yard : PySem.W.nsIn K mainGlobals "check_yard" = some (some (.ref f_check_yard))) (l_check_yard : K.lookup f_check_yard = some ⟨oc_check_yard, od_check_yard, .func (PySem.W.fnOf "check_yard" "check_yard" (defArgs s_check_yard) (defBody s_check_yard) (defScope s_check_yard) .none kV_check_yard dc_check_yard pm_check_yard an_check_yard cd_check_yard ct_check_yard), sl_check_yard⟩) (c_check_yard : PySem.W.codeIn K cd_check_yard "check_yard" = true) (k_check_yard : PySem.W.keepIn K (.ref f_check_yard) = true)
    (a_check_standing : PySem.W.nsIn K mainGlobals "check_standing" = some (some (.ref f_check_standing))) (l_check_standing : K.lookup f_check_standing = some ⟨oc_check_standing, od_check_standing, .func (PySem.W.fnOf "check_standing" "check_standing" (defArgs s_check_standing) (defBody s_check_standing) (defScope s_check_standing) .none kV_check_standing dc_check_standing pm_check_standing an_check_standing cd_check_standing ct_check_standing), sl_check_standing⟩) (c_check_standing : PySem.W.codeIn K cd_check_standing "check_standing" = true) (k_check_standing : PySem.W.keepIn K (.ref f_check_standing) = true)
    (a_slides_at : PySem.W.nsIn K mainGlobals "slides_at" = some (some (.ref f_slides_at))) (l_slides_at : K.lookup f_slides_at = some ⟨oc_slides_at, od_slides_at, .func (PySem.W.fnOf "slides_at" "slides_at" (defArgs s_slides_at) (defBody s_slides_at) (defScope s_slides_at) .none kV_slides_at dc_slides_at pm_slides_at an_slides_at cd_slides_at ct_slides_at), sl_slides_at⟩) (c_slides_at : PySem.W.codeIn K cd_slides_at "slides_at" = true) (k_slides_at : PySem.W.keepIn K (.ref f_slides_at) = true)
    (a_slides : PySem.W.nsIn K mainGlobals "slides" = some (some (.ref f_slides))) (l_slides : K.lookup f_slides = some ⟨oc_slides, od_slides, .func (PySem.W.fnOf "slides" "slides" (defArgs s_slides) (defBody s_slides) (defScope s_slides) .none kV_slides dc_slides pm_slides an_slides cd_slides ct_slides), sl_slides⟩) (c_slides : PySem.W.codeIn K cd_slides "slides" = true) (k_slides : PySem.W.keepIn K (.ref f_slides) = true)
    (a_is_slide_at : PySem.W.nsIn K mainGlobals "is_slide_at" = some (some (.ref f_is_slide_at))) (l_is_slide_at : K.lookup f_is_slide_at = some ⟨oc_is_slide_at, od_is_slide_at, .func (PySem.W.fnOf "is_slide_at" "is_slide_at" (defArgs s_is_slide_at) (defBody s_is_slide_at) (defScope s_is_slide_at) .none kV_is_slide_at dc_is_slide_at pm_is_slide_at an_is_slide_at cd_is_slide_at ct_is_slide_at), sl_is_slide_at⟩) (c_is_slide_at : PySem.W.codeIn K cd_is_slide_at "is_slide_at" = true) (k_is_slide_at : PySem.W.keepIn K (.ref f_is_slide_at) = true)
    (a_moved : PySem.W.nsIn K mainGlobals "moved" = some (some (.ref f_moved))) (l_moved : K.lookup f_moved = some ⟨oc_moved, od_moved, .func (PySem.W.fnOf "moved" "moved" (defArgs s_moved) (defBody s_moved) (defScope s_moved) .none kV_moved dc_moved pm_moved an_moved cd_moved ct_moved), sl_moved⟩) (c_moved : PySem.W.codeIn K cd_moved "moved" = true) (k_moved : PySem.W.keepIn K (.ref f_moved) = true)
    (a_behind_slide : PySem.W.nsIn K mainGlobals "behind_slide" = some (some (.ref f_behind_slide))) (l_behind_slide : K.lookup f_behind_slide = some ⟨oc_behind_slide, od_behind_slide, .func (PySem.W.fnOf "behind_slide" "behind_slide" (defArgs s_behind_slide) (defBody s_behind_slide) (defScope s_behind_slide) .none kV_behind_slide dc_behind_slide pm_behind_slide an_behind_slide cd_behind_slide ct_behind_slide), sl_behind_slide⟩) (c_behind_slide : PySem.W.codeIn K cd_behind_slide "behind_slide" = true) (k_behind_slide : PySem.W.keepIn K (.ref f_behind_slide) = true)
    (a_next_row : PySem.W.nsIn K mainGlobals "next_row" = some (some (.ref f_next_row))) (l_next_row : K.lookup f_next_row = some ⟨oc_next_row, od_next_row, .func (PySem.W.fnOf "next_row" "next_row" (defArgs s_next_row) (defBody s_next_row) (defScope s_next_row) .none kV_next_row dc_next_row pm_next_row an_next_row cd_next_row ct_next_row), sl_next_row⟩) (c_next_row : PySem.W.codeIn K cd_next_row "next_row" = true) (k_next_row : PySem.W.keepIn K (.ref f_next_row) = true)
    (a_first_steps : PySem.W.nsIn K mainGlobals "first_steps" = some (some (.ref f_first_steps))) (l_first_steps : K.lookup f_first_steps = some ⟨oc_first_steps, od_first_steps, .func (PySem.W.fnOf "first_steps" "first_steps" (defArgs s_first_steps) (defBody s_first_steps) (defScope s_first_steps) .none kV_first_steps dc_first_steps pm_first_steps an_first_steps cd_first_steps ct_first_steps), sl_first_steps⟩) (c_first_steps : PySem.W.codeIn K cd_first_steps "first_steps" = true) (k_first_steps : PySem.W.keepIn K (.ref f_first_steps) = true)
    (a_way_back : PySem.W.nsIn K mainGlobals "way_back" = some (some (.ref f_way_back))) (l_way_back : K.lookup f_way_back = some ⟨oc_way_back, od_way_back, .func (PySem.W.fnOf "way_back" "way_back" (defArgs s_way_back) (defBody s_way_back) (defScope s_way_back) .none kV_way_back dc_way_back pm_way_back an_way_back cd_way_back ct_way_back), sl_way_back⟩) (c_way_back : PySem.W.codeIn K cd_way_back "way_back" = true) (k_way_back : PySem.W.keepIn K (.ref f_way_back) = true)
    (a_slides_to : PySem.W.nsIn K mainGlobals "slides_to" = some (some (.ref f_slides_to))) (l_slides_to : K.lookup f_slides_to = some ⟨oc_slides_to, od_slides_to, .func (PySem.W.fnOf "slides_to" "slides_to" (defArgs s_slides_to) (defBody s_slides_to) (defScope s_slides_to) .none kV_slides_to dc_slides_to pm_slides_to an_slides_to cd_slides_to ct_slides_to), sl_slides_to⟩) (c_slides_to : PySem.W.codeIn K cd_slides_to "slides_to" = true) (k_slides_to : PySem.W.keepIn K (.ref f_slides_to) = true)
    (a_count_standings : PySem.W.nsIn K mainGlobals "count_standings" = some (some (.ref f_count_standings))) (l_count_standings : K.lookup f_count_standings = some ⟨oc_count_standings, od_count_standings, .func (PySem.W.fnOf "count_standings" "count_standings" (defArgs s_count_standings) (defBody s_count_standings) (defScope s_count_standings) .none kV_count_standings dc_count_standings pm_count_standings an_count_standings cd_count_standings ct_count_standings), sl_count_standings⟩) (c_count_standings : PySem.W.codeIn K cd_count_standings "count_standings" = true) (k_count_standings : PySem.W.keepIn K (.ref f_count_standings) = true)
    (a__law_taken : PySem.W.nsIn K mainGlobals "_law_taken" = some (some (.ref f__law_taken))) (l__law_taken : K.lookup f__law_taken = some ⟨oc__law_taken, od__law_taken, .func (PySem.W.fnOf "_law_taken" "_law_taken" (defArgs s__law_taken) (defBody s__law_taken) (defScope s__law_taken) .none kV__law_taken dc__law_taken pm__law_taken an__law_taken cd__law_taken ct__law_taken), sl__law_taken⟩) (c__law_taken : PySem.W.codeIn K cd__law_taken "_law_taken" = true) (k__law_taken : PySem.W.keepIn K (.ref f__law_taken) = true)
    (a__law_pick : PySem.W.nsIn K mainGlobals "_law_pick" = some (some (.ref f__law_pick))) (l__law_pick : K.lookup f__law_pick = some ⟨oc__law_pick, od__law_pick, .func (PySem.W.fnOf "_law_pick" "_law_pick" (defArgs s__law_pick) (defBody s__law_pick) (defScope s__law_pick) .none kV__law_pick dc__law_pick pm__law_pick an__law_pick cd__law_pick ct__law_pick), sl__law_pick⟩) (c__law_pick : PySem.W.codeIn K cd__law_pick "_law_pick" = true) (k__law_pick : PySem.W.keepIn K (.ref f__law_pick) = true)
    (a__law_alike : PySem.W.nsIn K mainGlobals "_law_alike" = some (some (.ref f__law_alike))) (l__law_alike : K.lookup f__law_alike = some ⟨oc__law_alike, od__law_alike, .func (PySem.W.fnOf "_law_alike" "_law_alike" (defArgs s__law_alike) (defBody s__law_alike) (defScope s__law_alike) .none kV__law_alike dc__law_alike pm__law_alike an__law_alike cd__law_alike ct__law_alike), sl__law_alike⟩) (c__law_alike : PySem.W.codeIn K cd__law_alike "_law_alike" = true) (k__law_alike : PySem.W.keepIn K (.ref f__law_alike) = true)
    (a__law_yard : PySem.W.nsIn K mainGlobals "_law_yard" = some (some (.ref f__law_yard))) (l__law_yard : K.lookup f__law_yard = some ⟨oc__law_yard, od__law_yard, .func (PySem.W.fnOf "_law_yard" "_law_yard" (defArgs s__law_yard) (defBody s__law_yard) (defScope s__law_yard) .none kV__law_yard dc__law_yard pm__law_yard an__law_yard cd__law_yard ct__law_yard), sl__law_yard⟩) (c__law_yard : PySem.W.codeIn K cd__law_yard "_law_yard" = true) (k__law_yard : PySem.W.keepIn K (.ref f__law_yard) = true)
    (a__law_standing : PySem.W.nsIn K mainGlobals "_law_standing" = some (some (.ref f__law_standing))) (l__law_standing : K.lookup f__law_standing = some ⟨oc__law_standing, od__law_standing, .func (PySem.W.fnOf "_law_standing" "_law_standing" (defArgs s__law_standing) (defBody s__law_standing) (defScope s__law_standing) .none kV__law_standing dc__law_standing pm__law_standing an__law_standing cd__law_standing ct__law_standing), sl__law_standing⟩) (c__law_standing : PySem.W.codeIn K cd__law_standing "_law_standing" = true) (k__law_standing : PySem.W.keepIn K (.ref f__law_standing) = true)
    (a__law_near : PySem.W.nsIn K mainGlobals "_law_near" = some (some (.ref f__law_near))) (l__law_near : K.lookup f__law_near = some ⟨oc__law_near, od__law_near, .func (PySem.W.fnOf "_law_near" "_law_near" (defArgs s__law_near) (defBody s__law_near) (defScope s__law_near) .none kV__law_near dc__law_near pm__law_near an__law_near cd__law_near ct__law_near), sl__law_near⟩) (c__law_near : PySem.W.codeIn K cd__law_near "_law_near" = true) (k__law_near : PySem.W.keepIn K (.ref f__law_near) = true)
    (a__law_slides : PySem.W.nsIn K mainGlobals "_law_slides" = some (some (.ref f__law_slides))) (l__law_slides : K.lookup f__law_slides = some ⟨oc__law_slides, od__law_slides, .func (PySem.W.fnOf "_law_slides" "_law_slides" (defArgs s__law_slides) (defBody s__law_slides) (defScope s__law_slides) .none kV__law_slides dc__law_slides pm__law_slides an__law_slides cd__law_slides ct__law_slides), sl__law_slides⟩) (c__law_slides : PySem.W.codeIn K cd__law_slides "_law_slides" = true) (k__law_slides : PySem.W.keepIn K (.ref f__law_slides) = true)
    (a__law_slid : PySem.W.nsIn K mainGlobals "_law_slid" = some (some (.ref f__law_slid))) (l__law_slid : K.lookup f__law_slid = some ⟨oc__law_slid, od__law_slid, .func (PySem.W.fnOf "_law_slid" "_law_slid" (defArgs s__law_slid) (defBody s__law_slid) (defScope s__law_slid) .none kV__law_slid dc__law_slid pm__law_slid an__law_slid cd__law_slid ct__law_slid), sl__law_slid⟩) (c__law_slid : PySem.W.codeIn K cd__law_slid "_law_slid" = true) (k__law_slid : PySem.W.keepIn K (.ref f__law_slid) = true)
    (a__law_words : PySem.W.nsIn K mainGlobals "_law_words" = some (some (.ref f__law_words))) (l__law_words : K.lookup f__law_words = some ⟨oc__law_words, od__law_words, .func (PySem.W.fnOf "_law_words" "_law_words" (defArgs s__law_words) (defBody s__law_words) (defScope s__law_words) .none kV__law_words dc__law_words pm__law_words an__law_words cd__law_words ct__law_words), sl__law_words⟩) (c__law_words : PySem.W.codeIn K cd__law_words "_law_words" = true) (k__law_words : PySem.W.keepIn K (.ref f__law_words) = true)
    (a_law : PySem.W.nsIn K mainGlobals "law" = some (some (.ref f_law))) (l_law : K.lookup f_law = some ⟨oc_law, od_law, .func (PySem.W.fnOf "law" "law" (defArgs s_law) (defBody s_law) (defScope s_law) .none kV_law dc_law pm_law an_law (.ref cc_law) ct_law), sl_law⟩) (c_law : PySem.W.codeIn K (.ref cc_law) "law" = true) (th_law : PySem.W.codeHdIn K cc_law (tabOf K cc_law) = true) (tn_law : K.lookup (tabOf K cc_law) = none) (k_law : PySem.W.keepIn K (.ref f_law) = true)
    (ac_BadYard : PySem.W.nsIn K mainGlobals "BadYard" = some (some (.ref C_BadYard))) (kc_BadYard : PySem.W.keepIn K (.ref C_BadYard) = true) (sc_BadYard : PySem.W.subIn K (.ref C_BadYard) (.type "BaseException") = some true) (tc_BadYard : PySem.W.typeIn K (.ref C_BadYard) = some (.type "type"))
    (xl_BadYard : K.lookup C_BadYard = some (excClassObj nm_BadYard qn_BadYard C_BadYard N_BadYard bs_BadYard bm_BadYard true sn_BadYard sub_BadYard ab_BadYard col_BadYard dd_BadYard m0_BadYard m1_BadYard m2_BadYard m3_BadYard m5_BadYard "ValueError.__new__")) (rv_BadYard : HandSPX.refsVE bm_BadYard = true) (sa_BadYard : PySem.W.findIn K (.ref C_BadYard) "__setattr__" = some (some (.builtin "object.__setattr__"))) (ic_BadYard : PySem.W.findIn K (.ref C_BadYard) "__init__" = some (some (.ref f_BadYard))) (ti_BadYard : PySem.W.typeIn K (.ref f_BadYard) = some (.type "function")) (nf_BadYard : PySem.W.findIn K (.ref C_BadYard) "part" = some none) (li_BadYard : K.lookup f_BadYard = some ⟨oci_BadYard, odi_BadYard, .func (PySem.W.fnOf "__init__" "BadYard.__init__" (defArgs si_BadYard) (defBody si_BadYard) (defScope si_BadYard) .none kVi_BadYard dci_BadYard pmi_BadYard ani_BadYard cdi_BadYard cti_BadYard), sli_BadYard⟩) (ci_BadYard : PySem.W.codeIn K cdi_BadYard "BadYard.__init__" = true) (ki_BadYard : PySem.W.keepIn K (.ref f_BadYard) = true)
    (ac_BadStanding : PySem.W.nsIn K mainGlobals "BadStanding" = some (some (.ref C_BadStanding))) (kc_BadStanding : PySem.W.keepIn K (.ref C_BadStanding) = true) (sc_BadStanding : PySem.W.subIn K (.ref C_BadStanding) (.type "BaseException") = some true) (tc_BadStanding : PySem.W.typeIn K (.ref C_BadStanding) = some (.type "type"))
    (qc_BadStanding : PySem.W.excIn K C_BadStanding [.type "ValueError", .type "Exception", .type "BaseException", .type "object"] "ValueError.__new__" = true)
    (ac_BadSlide : PySem.W.nsIn K mainGlobals "BadSlide" = some (some (.ref C_BadSlide))) (kc_BadSlide : PySem.W.keepIn K (.ref C_BadSlide) = true) (sc_BadSlide : PySem.W.subIn K (.ref C_BadSlide) (.type "BaseException") = some true) (tc_BadSlide : PySem.W.typeIn K (.ref C_BadSlide) = some (.type "type"))
    (qc_BadSlide : PySem.W.excIn K C_BadSlide [.type "ValueError", .type "Exception", .type "BaseException", .type "object"] "ValueError.__new__" = true)
    (ac_NoWay : PySem.W.nsIn K mainGlobals "NoWay" = some (some (.ref C_NoWay))) (kc_NoWay : PySem.W.keepIn K (.ref C_NoWay) = true) (sc_NoWay : PySem.W.subIn K (.ref C_NoWay) (.type "BaseException") = some true) (tc_NoWay : PySem.W.typeIn K (.ref C_NoWay) = some (.type "type"))
    (qc_NoWay : PySem.W.excIn K C_NoWay [.type "ValueError", .type "Exception", .type "BaseException", .type "object"] "ValueError.__new__" = true)
    (ec_BadSlide : PySem.W.isClsIn K C_BadSlide = true) (ss_BadSlide : PySem.W.subIn K (.ref C_BadSlide) (.ref C_BadSlide) = some true)
    (ec_BadStanding : PySem.W.isClsIn K C_BadStanding = true) (ss_BadStanding : PySem.W.subIn K (.ref C_BadStanding) (.ref C_BadStanding) = some true)
    (ec_NoWay : PySem.W.isClsIn K C_NoWay = true) (ss_NoWay : PySem.W.subIn K (.ref C_NoWay) (.ref C_NoWay) = some true)
    (nn_BadSlide_BadStanding : PySem.W.subIn K (.ref C_BadSlide) (.ref C_BadStanding) = some false)
    (z_all : PySem.W.nsIn K mainGlobals "all" = some none) (z_any : PySem.W.nsIn K mainGlobals "any" = some none) (z_bool : PySem.W.nsIn K mainGlobals "bool" = some none) (z_dict : PySem.W.nsIn K mainGlobals "dict" = some none) (z_enumerate : PySem.W.nsIn K mainGlobals "enumerate" = some none) (z_int : PySem.W.nsIn K mainGlobals "int" = some none) (z_isinstance : PySem.W.nsIn K mainGlobals "isinstance" = some none) (z_len : PySem.W.nsIn K mainGlobals "len" = some none) (z_list : PySem.W.nsIn K mainGlobals "list" = some none) (z_max : PySem.W.nsIn K mainGlobals "max" = some none) (z_min : PySem.W.nsIn K mainGlobals "min" = some none) (z_range : PySem.W.nsIn K mainGlobals "range" = some none) (z_set : PySem.W.nsIn K mainGlobals "set" = some none) (z_sorted : PySem.W.nsIn K mainGlobals "sorted" = some none) (z_str : PySem.W.nsIn K mainGlobals "str" = some none) (z_tuple : PySem.W.nsIn K mainGlobals "tuple" = some none) (z_zip : PySem.W.nsIn K mainGlobals "zip" = some none) :
    LamX.LawAtS l w K CX0 9 63 "script" mg fa h := by
  have ef : fa = f_law := by
    have e := hfa.symm.trans (PySem.W.mg_of X G a_law)
    cases e
    rfl
  rw [ef]
  have U_is_number := fun_mk (st := s_is_number) l_is_number c_is_number k_is_number
  have D_is_number : Df K mg "is_number" s_is_number P_is_number f_is_number _ := ⟨U_is_number, PySem.W.mg_of X G a_is_number, U_is_number.binds (ps := P_is_number) fun _ _ _ _ _ _ us hl => match us, hl with | [_], _ => rfl⟩
  have U_is_tuple_of := fun_mk (st := s_is_tuple_of) l_is_tuple_of c_is_tuple_of k_is_tuple_of
  have D_is_tuple_of : Df K mg "is_tuple_of" s_is_tuple_of P_is_tuple_of f_is_tuple_of _ := ⟨U_is_tuple_of, PySem.W.mg_of X G a_is_tuple_of, U_is_tuple_of.binds (ps := P_is_tuple_of) fun _ _ _ _ _ _ us hl => match us, hl with | [_, _], _ => rfl⟩
  have U_is_from := fun_mk (st := s_is_from) l_is_from c_is_from k_is_from
  have D_is_from : Df K mg "is_from" s_is_from P_is_from f_is_from _ := ⟨U_is_from, PySem.W.mg_of X G a_is_from, U_is_from.binds (ps := P_is_from) fun _ _ _ _ _ _ us hl => match us, hl with | [_, _, _], _ => rfl⟩
  have U_is_place := fun_mk (st := s_is_place) l_is_place c_is_place k_is_place
  have D_is_place : Df K mg "is_place" s_is_place P_is_place f_is_place _ := ⟨U_is_place, PySem.W.mg_of X G a_is_place, U_is_place.binds (ps := P_is_place) fun _ _ _ _ _ _ us hl => match us, hl with | [_, _], _ => rfl⟩
  have U_is_tie := fun_mk (st := s_is_tie) l_is_tie c_is_tie k_is_tie
  have D_is_tie : Df K mg "is_tie" s_is_tie P_is_tie f_is_tie _ := ⟨U_is_tie, PySem.W.mg_of X G a_is_tie, U_is_tie.binds (ps := P_is_tie) fun _ _ _ _ _ _ us hl => match us, hl with | [_, _], _ => rfl⟩
  have U_neighbours := fun_mk (st := s_neighbours) l_neighbours c_neighbours k_neighbours
  have D_neighbours : Df K mg "neighbours" s_neighbours P_neighbours f_neighbours _ := ⟨U_neighbours, PySem.W.mg_of X G a_neighbours, U_neighbours.binds (ps := P_neighbours) fun _ _ _ _ _ _ us hl => match us, hl with | [_], _ => rfl⟩
  have U_hanging := fun_mk (st := s_hanging) l_hanging c_hanging k_hanging
  have D_hanging : Df K mg "hanging" s_hanging P_hanging f_hanging _ := ⟨U_hanging, PySem.W.mg_of X G a_hanging, U_hanging.binds (ps := P_hanging) fun _ _ _ _ _ _ us hl => match us, hl with | [_, _, _], _ => rfl⟩
  have U_are_ties := fun_mk (st := s_are_ties) l_are_ties c_are_ties k_are_ties
  have D_are_ties : Df K mg "are_ties" s_are_ties P_are_ties f_are_ties _ := ⟨U_are_ties, PySem.W.mg_of X G a_are_ties, U_are_ties.binds (ps := P_are_ties) fun _ _ _ _ _ _ us hl => match us, hl with | [_, _], _ => rfl⟩
  have U_check_yard := fun_mk (st := s_check_yard) l_check_yard c_check_yard k_check_yard
  have D_check_yard : Df K mg "check_yard" s_check_yard P_check_yard f_check_yard _ := ⟨U_check_yard, PySem.W.mg_of X G a_check_yard, U_check_yard.binds (ps := P_check_yard) fun _ _ _ _ _ _ us hl => match us, hl with | [_], _ => rfl⟩
  have U_check_standing := fun_mk (st := s_check_standing) l_check_standing c_check_standing k_check_standing
  have D_check_standing : Df K mg "check_standing" s_check_standing P_check_standing f_check_standing _ := ⟨U_check_standing, PySem.W.mg_of X G a_check_standing, U_check_standing.binds (ps := P_check_standing) fun _ _ _ _ _ _ us hl => match us, hl with | [_, _], _ => rfl⟩
  have U_slides_at := fun_mk (st := s_slides_at) l_slides_at c_slides_at k_slides_at
  have D_slides_at : Df K mg "slides_at" s_slides_at P_slides_at f_slides_at _ := ⟨U_slides_at, PySem.W.mg_of X G a_slides_at, U_slides_at.binds (ps := P_slides_at) fun _ _ _ _ _ _ us hl => match us, hl with | [_, _], _ => rfl⟩
  have U_slides := fun_mk (st := s_slides) l_slides c_slides k_slides
  have D_slides : Df K mg "slides" s_slides P_slides f_slides _ := ⟨U_slides, PySem.W.mg_of X G a_slides, U_slides.binds (ps := P_slides) fun _ _ _ _ _ _ us hl => match us, hl with | [_, _], _ => rfl⟩
  have U_is_slide_at := fun_mk (st := s_is_slide_at) l_is_slide_at c_is_slide_at k_is_slide_at
  have D_is_slide_at : Df K mg "is_slide_at" s_is_slide_at P_is_slide_at f_is_slide_at _ := ⟨U_is_slide_at, PySem.W.mg_of X G a_is_slide_at, U_is_slide_at.binds (ps := P_is_slide_at) fun _ _ _ _ _ _ us hl => match us, hl with | [_, _, _], _ => rfl⟩
  have U_moved := fun_mk (st := s_moved) l_moved c_moved k_moved
  have D_moved : Df K mg "moved" s_moved P_moved f_moved _ := ⟨U_moved, PySem.W.mg_of X G a_moved, U_moved.binds (ps := P_moved) fun _ _ _ _ _ _ us hl => match us, hl with | [_, _], _ => rfl⟩
  have U_behind_slide := fun_mk (st := s_behind_slide) l_behind_slide c_behind_slide k_behind_slide
  have D_behind_slide : Df K mg "behind_slide" s_behind_slide P_behind_slide f_behind_slide _ := ⟨U_behind_slide, PySem.W.mg_of X G a_behind_slide, U_behind_slide.binds (ps := P_behind_slide) fun _ _ _ _ _ _ us hl => match us, hl with | [_, _, _], _ => rfl⟩
  have U_next_row := fun_mk (st := s_next_row) l_next_row c_next_row k_next_row
  have D_next_row : Df K mg "next_row" s_next_row P_next_row f_next_row _ := ⟨U_next_row, PySem.W.mg_of X G a_next_row, U_next_row.binds (ps := P_next_row) fun _ _ _ _ _ _ us hl => match us, hl with | [_, _, _], _ => rfl⟩
  have U_first_steps := fun_mk (st := s_first_steps) l_first_steps c_first_steps k_first_steps
  have D_first_steps : Df K mg "first_steps" s_first_steps P_first_steps f_first_steps _ := ⟨U_first_steps, PySem.W.mg_of X G a_first_steps, U_first_steps.binds (ps := P_first_steps) fun _ _ _ _ _ _ us hl => match us, hl with | [_, _], _ => rfl⟩
  have U_way_back := fun_mk (st := s_way_back) l_way_back c_way_back k_way_back
  have D_way_back : Df K mg "way_back" s_way_back P_way_back f_way_back _ := ⟨U_way_back, PySem.W.mg_of X G a_way_back, U_way_back.binds (ps := P_way_back) fun _ _ _ _ _ _ us hl => match us, hl with | [_, _], _ => rfl⟩
  have U_slides_to := fun_mk (st := s_slides_to) l_slides_to c_slides_to k_slides_to
  have D_slides_to : Df K mg "slides_to" s_slides_to P_slides_to f_slides_to _ := ⟨U_slides_to, PySem.W.mg_of X G a_slides_to, U_slides_to.binds (ps := P_slides_to) fun _ _ _ _ _ _ us hl => match us, hl with | [_, _, _], _ => rfl⟩
  have U_count_standings := fun_mk (st := s_count_standings) l_count_standings c_count_standings k_count_standings
  have D_count_standings : Df K mg "count_standings" s_count_standings P_count_standings f_count_standings _ := ⟨U_count_standings, PySem.W.mg_of X G a_count_standings, U_count_standings.binds (ps := P_count_standings) fun _ _ _ _ _ _ us hl => match us, hl with | [_, _], _ => rfl⟩
  have U__law_taken := fun_mk (st := s__law_taken) l__law_taken c__law_taken k__law_taken
  have D__law_taken : Df K mg "_law_taken" s__law_taken P__law_taken f__law_taken _ := ⟨U__law_taken, PySem.W.mg_of X G a__law_taken, U__law_taken.binds (ps := P__law_taken) fun _ _ _ _ _ _ us hl => match us, hl with | [_, _], _ => rfl⟩
  have U__law_pick := fun_mk (st := s__law_pick) l__law_pick c__law_pick k__law_pick
  have D__law_pick : Df K mg "_law_pick" s__law_pick P__law_pick f__law_pick _ := ⟨U__law_pick, PySem.W.mg_of X G a__law_pick, U__law_pick.binds (ps := P__law_pick) fun _ _ _ _ _ _ us hl => match us, hl with | [_, _], _ => rfl⟩
  have U__law_alike := fun_mk (st := s__law_alike) l__law_alike c__law_alike k__law_alike
  have D__law_alike : Df K mg "_law_alike" s__law_alike P__law_alike f__law_alike _ := ⟨U__law_alike, PySem.W.mg_of X G a__law_alike, U__law_alike.binds (ps := P__law_alike) fun _ _ _ _ _ _ us hl => match us, hl with | [_, _], _ => rfl⟩
  have U__law_yard := fun_mk (st := s__law_yard) l__law_yard c__law_yard k__law_yard
  have D__law_yard : Df K mg "_law_yard" s__law_yard P__law_yard f__law_yard _ := ⟨U__law_yard, PySem.W.mg_of X G a__law_yard, U__law_yard.binds (ps := P__law_yard) fun _ _ _ _ _ _ us hl => match us, hl with | [_, _], _ => rfl⟩
  have U__law_standing := fun_mk (st := s__law_standing) l__law_standing c__law_standing k__law_standing
  have D__law_standing : Df K mg "_law_standing" s__law_standing P__law_standing f__law_standing _ := ⟨U__law_standing, PySem.W.mg_of X G a__law_standing, U__law_standing.binds (ps := P__law_standing) fun _ _ _ _ _ _ us hl => match us, hl with | [_, _, _], _ => rfl⟩
  have U__law_near := fun_mk (st := s__law_near) l__law_near c__law_near k__law_near
  have D__law_near : Df K mg "_law_near" s__law_near P__law_near f__law_near _ := ⟨U__law_near, PySem.W.mg_of X G a__law_near, U__law_near.binds (ps := P__law_near) fun _ _ _ _ _ _ us hl => match us, hl with | [_, _], _ => rfl⟩
  have U__law_slides := fun_mk (st := s__law_slides) l__law_slides c__law_slides k__law_slides
  have D__law_slides : Df K mg "_law_slides" s__law_slides P__law_slides f__law_slides _ := ⟨U__law_slides, PySem.W.mg_of X G a__law_slides, U__law_slides.binds (ps := P__law_slides) fun _ _ _ _ _ _ us hl => match us, hl with | [_, _], _ => rfl⟩
  have U__law_slid := fun_mk (st := s__law_slid) l__law_slid c__law_slid k__law_slid
  have D__law_slid : Df K mg "_law_slid" s__law_slid P__law_slid f__law_slid _ := ⟨U__law_slid, PySem.W.mg_of X G a__law_slid, U__law_slid.binds (ps := P__law_slid) fun _ _ _ _ _ _ us hl => match us, hl with | [_, _], _ => rfl⟩
  have U__law_words := fun_mk (st := s__law_words) l__law_words c__law_words k__law_words
  have D__law_words : Df K mg "_law_words" s__law_words P__law_words f__law_words _ := ⟨U__law_words, PySem.W.mg_of X G a__law_words, U__law_words.binds (ps := P__law_words) fun _ _ _ _ _ _ us hl => match us, hl with | [_, _], _ => rfl⟩
  have U_law := fun_mk (st := s_law) l_law c_law k_law
  have D_law : Df K mg "law" s_law P_law f_law _ := ⟨U_law, PySem.W.mg_of X G a_law, U_law.binds (ps := P_law) fun _ _ _ _ _ _ us hl => match us, hl with | [_], _ => rfl⟩
  have U_BadYard := fun_mk (st := si_BadYard) li_BadYard ci_BadYard ki_BadYard
  have M_BadYard : ∀ base, ClsF l.prog w K mg base "BadYard" "part" C_BadYard f_BadYard _ := fun base => ⟨PySem.W.mg_of X G ac_BadYard, ⟨⟨nm_BadYard, qn_BadYard, N_BadYard, bs_BadYard, bm_BadYard, sn_BadYard, sub_BadYard, ab_BadYard, col_BadYard, dd_BadYard, m0_BadYard, m1_BadYard, m2_BadYard, m3_BadYard, m5_BadYard, xl_BadYard, rv_BadYard⟩, sa_BadYard, sc_BadYard, tc_BadYard, kc_BadYard⟩, ic_BadYard, ti_BadYard, nf_BadYard, ["self", "part"], fnOk_ini U_BadYard sci_BadYard rfl (fun cdv A outer s H E => ps_ost (pv 0) (pv 1)), U_BadYard.binds (ps := ["self", "part"]) fun _ _ _ _ _ _ us hl => match us, hl with | [_, _], _ => rfl⟩
  have M_BadStanding : ClsP K mg "BadStanding" C_BadStanding := ⟨PySem.W.mg_of X G ac_BadStanding, qc_BadStanding, kc_BadStanding, sc_BadStanding, tc_BadStanding⟩
  have M_BadSlide : ClsP K mg "BadSlide" C_BadSlide := ⟨PySem.W.mg_of X G ac_BadSlide, qc_BadSlide, kc_BadSlide, sc_BadSlide, tc_BadSlide⟩
  have M_NoWay : ClsP K mg "NoWay" C_NoWay := ⟨PySem.W.mg_of X G ac_NoWay, qc_NoWay, kc_NoWay, sc_NoWay, tc_NoWay⟩
  have T_BadSlide := exm_own sc_BadSlide ec_BadSlide tc_BadSlide ss_BadSlide
  have T_BadStanding := exm_own sc_BadStanding ec_BadStanding tc_BadStanding ss_BadStanding
  have T_NoWay := exm_own sc_NoWay ec_NoWay tc_NoWay ss_NoWay
  have NE_BadSlide_BadStanding := exm_not sc_BadStanding ec_BadStanding tc_BadStanding nn_BadSlide_BadStanding
  have Z : Blt mg := ⟨PySem.W.mg_none_of X G z_all, PySem.W.mg_none_of X G z_any, PySem.W.mg_none_of X G z_bool, PySem.W.mg_none_of X G z_dict, PySem.W.mg_none_of X G z_enumerate, PySem.W.mg_none_of X G z_int, PySem.W.mg_none_of X G z_isinstance, PySem.W.mg_none_of X G z_len, PySem.W.mg_none_of X G z_list, PySem.W.mg_none_of X G z_max, PySem.W.mg_none_of X G z_min, PySem.W.mg_none_of X G z_range, PySem.W.mg_none_of X G z_set, PySem.W.mg_none_of X G z_sorted, PySem.W.mg_none_of X G z_str, PySem.W.mg_none_of X G z_tuple, PySem.W.mg_none_of X G z_zip⟩
  refine lawAt_of X (by rw [← ef]; exact ot) l_law rfl rfl th_law tn_law (fun s v => .of_eq rfl) fun base _ _ TB => ?_
  have F_is_number := ok_is_number (Pr := l.prog) (w := w) (base := base) Z D_is_number
  have F_is_tuple_of := ok_is_tuple_of (Pr := l.prog) (w := w) (base := base) Z D_is_tuple_of
  have F_is_from := ok_is_from (Pr := l.prog) (w := w) (base := base) Z D_is_from D_is_number F_is_number
  have F_is_place := ok_is_place (Pr := l.prog) (w := w) (base := base) Z D_is_place D_is_from F_is_from
  have F_is_tie := ok_is_tie (Pr := l.prog) (w := w) (base := base) Z D_is_tie D_is_tuple_of F_is_tuple_of D_is_place F_is_place
  have F_neighbours := ok_neighbours (Pr := l.prog) (w := w) (base := base) Z D_neighbours
  have F_hanging := ok_hanging (Pr := l.prog) (w := w) (base := base) Z D_hanging
  have F_are_ties := ok_are_ties (Pr := l.prog) (w := w) (base := base) Z D_are_ties D_is_tie F_is_tie D_neighbours F_neighbours D_hanging F_hanging
  have F_check_yard := ok_check_yard (Pr := l.prog) (w := w) (base := base) Z D_check_yard D_is_tuple_of F_is_tuple_of D_is_from F_is_from D_is_place F_is_place D_are_ties F_are_ties (M_BadYard base)
  have F_check_standing := ok_check_standing (Pr := l.prog) (w := w) (base := base) Z D_check_standing D_is_number F_is_number D_is_tuple_of F_is_tuple_of M_BadStanding
  have F_slides_at := ok_slides_at (Pr := l.prog) (w := w) (base := base) Z D_slides_at
  have F_slides := ok_slides (Pr := l.prog) (w := w) (base := base) Z D_slides D_check_yard F_check_yard D_check_standing F_check_standing D_slides_at F_slides_at
  have F_is_slide_at := ok_is_slide_at (Pr := l.prog) (w := w) (base := base) Z D_is_slide_at D_is_number F_is_number D_is_tuple_of F_is_tuple_of D_slides_at F_slides_at
  have F_moved := ok_moved (Pr := l.prog) (w := w) (base := base) Z D_moved
  have F_behind_slide := ok_behind_slide (Pr := l.prog) (w := w) (base := base) Z D_behind_slide D_check_yard F_check_yard D_check_standing F_check_standing D_is_slide_at F_is_slide_at D_moved F_moved M_BadSlide
  have F_next_row := ok_next_row (Pr := l.prog) (w := w) (base := base) Z D_next_row D_slides_at F_slides_at D_moved F_moved
  have F_first_steps := ok_first_steps (Pr := l.prog) (w := w) (base := base) Z D_first_steps D_next_row F_next_row
  have F_way_back := ok_way_back (Pr := l.prog) (w := w) (base := base) Z D_way_back
  have F_slides_to := ok_slides_to (Pr := l.prog) (w := w) (base := base) Z D_slides_to D_check_yard F_check_yard D_check_standing F_check_standing D_first_steps F_first_steps D_way_back F_way_back M_NoWay
  have F_count_standings := ok_count_standings (Pr := l.prog) (w := w) (base := base) Z D_count_standings D_check_yard F_check_yard D_check_standing F_check_standing D_first_steps F_first_steps
  have F__law_taken := ok__law_taken (Pr := l.prog) (w := w) (base := base) Z D__law_taken
  have F__law_pick := ok__law_pick (Pr := l.prog) (w := w) (base := base) Z D__law_pick D__law_taken F__law_taken
  have F__law_alike := ok__law_alike (Pr := l.prog) (w := w) (base := base) Z D__law_alike  4
  have F__law_yard := ok__law_yard (Pr := l.prog) (w := w) (base := base) Z D__law_yard D__law_taken F__law_taken D__law_pick F__law_pick
  have F__law_standing := ok__law_standing (Pr := l.prog) (w := w) (base := base) Z D__law_standing D__law_taken F__law_taken
  have F__law_near := ok__law_near (Pr := l.prog) (w := w) (base := base) Z D__law_near
  have F__law_slides := ok__law_slides (Pr := l.prog) (w := w) (base := base) Z D__law_slides D__law_near F__law_near
  have F__law_slid := ok__law_slid (Pr := l.prog) (w := w) (base := base) Z D__law_slid
  have F__law_words := ok__law_words (Pr := l.prog) (w := w) (base := base) Z D__law_words D__law_slides F__law_slides D__law_slid F__law_slid
  exact ok_law Z TB l_law c_law D_slides F_slides D_behind_slide F_behind_slide D_slides_to F_slides_to D_count_standings F_count_standings D__law_taken F__law_taken D__law_pick F__law_pick D__law_alike F__law_alike D__law_yard F__law_yard D__law_standing F__law_standing D__law_slides F__law_slides D__law_slid F__law_slid D__law_words F__law_words M_BadSlide M_NoWay M_BadStanding T_BadSlide T_BadStanding T_NoWay NE_BadSlide_BadStanding hv
end GL
open PySem PySem.W PyProof.Rows
set_option maxHeartbeats 0 in
theorem PySem.Challenge.cw_holestore_k02_whole_yards_holds : PySem.Challenge.rw_holestore_k02_whole_yards.Holds := by
  w_on; o_law; k_head; (case hw => w_witness2)
  k_fill
  refine LamX.walk_ofOwn (l := PySem.Challenge.rw_holestore_k02_whole_yards) (n := 63) (k := 9) (x := "script") (CX := fun _ => L2.CX0) rfl (by decide) rfl ⟨rfl, by decide, by decide⟩ (by first | rfl | kernel_rfl | decide +kernel) (fun w h Y => PySem.W.km_in_of Y) ?F (fun _ _ _ _ _ h => h)
  case F =>
    intro w mg fa h Y KX G hmg ot
    refine' GL.all_mk KX G ot hmg GL.hv_all ?a_is_number ?l_is_number ?c_is_number ?k_is_number ?a_is_tuple_of ?l_is_tuple_of ?c_is_tuple_of ?k_is_tuple_of ?a_is_from ?l_is_from ?c_is_from ?k_is_from ?a_is_place ?l_is_place ?c_is_place ?k_is_place ?a_is_tie ?l_is_tie ?c_is_tie ?k_is_tie ?a_neighbours ?l_neighbours ?c_neighbours ?k_neighbours ?a_hanging ?l_hanging ?c_hanging ?k_hanging ?a_are_ties ?l_are_ties ?c_are_ties ?k_are_ties ?a_check_yard ?l_check_yard ?c_check_yard ?k_check_yard ?a_check_standing ?l_check_standing ?c_check_standing ?k_check_standing ?a_slides_at ?l_slides_at ?c_slides_at ?k_slides_at ?a_slides ?l_slides ?c_slides ?k_slides ?a_is_slide_at ?l_is_slide_at ?c_is_slide_at ?k_is_slide_at ?a_moved ?l_moved ?c_moved ?k_moved ?a_behind_slide ?l_behind_slide ?c_behind_slide ?k_behind_slide ?a_next_row ?l_next_row ?c_next_row ?k_next_row ?a_first_steps ?l_first_steps ?c_first_steps ?k_first_steps ?a_way_back ?l_way_back ?c_way_back ?k_way_back ?a_slides_to ?l_slides_to ?c_slides_to ?k_slides_to ?a_count_standings ?l_count_standings ?c_count_standings ?k_count_standings ?a__law_taken ?l__law_taken ?c__law_taken ?k__law_taken ?a__law_pick ?l__law_pick ?c__law_pick ?k__law_pick ?a__law_alike ?l__law_alike ?c__law_alike ?k__law_alike ?a__law_yard ?l__law_yard ?c__law_yard ?k__law_yard ?a__law_standing ?l__law_standing ?c__law_standing ?k__law_standing ?a__law_near ?l__law_near ?c__law_near ?k__law_near ?a__law_slides ?l__law_slides ?c__law_slides ?k__law_slides ?a__law_slid ?l__law_slid ?c__law_slid ?k__law_slid ?a__law_words ?l__law_words ?c__law_words ?k__law_words ?a_law ?l_law ?c_law ?th_law ?tn_law ?k_law ?ac_BadYard ?kc_BadYard ?sc_BadYard ?tc_BadYard ?xl_BadYard ?rv_BadYard ?sa_BadYard ?ic_BadYard ?ti_BadYard ?nf_BadYard ?li_BadYard ?ci_BadYard ?ki_BadYard ?ac_BadStanding ?kc_BadStanding ?sc_BadStanding ?tc_BadStanding ?qc_BadStanding ?ac_BadSlide ?kc_BadSlide ?sc_BadSlide ?tc_BadSlide ?qc_BadSlide ?ac_NoWay ?kc_NoWay ?sc_NoWay ?tc_NoWay ?qc_NoWay ?ec_BadSlide ?ss_BadSlide ?ec_BadStanding ?ss_BadStanding ?ec_NoWay ?ss_NoWay ?nn_BadSlide_BadStanding ?z_all ?z_any ?z_bool ?z_dict ?z_enumerate ?z_int ?z_isinstance ?z_len ?z_list ?z_max ?z_min ?z_range ?z_set ?z_sorted ?z_str ?z_tuple ?z_zip
    (case a_is_number => first | k_is | kernel_rfl | decide +kernel)
    (case l_is_number => first | k_is | kernel_rfl | decide +kernel)
    (case c_is_number => first | k_is | kernel_rfl | decide +kernel)
    (case k_is_number => first | k_is | kernel_rfl | decide +kernel)
    (case a_is_tuple_of => first | k_is | kernel_rfl | decide +kernel)
    (case l_is_tuple_of => first | k_is | kernel_rfl | decide +kernel)
    (case c_is_tuple_of => first | k_is | kernel_rfl | decide +kernel)
    (case k_is_tuple_of => first | k_is | kernel_rfl | decide +kernel)
    (case a_is_from => first | k_is | kernel_rfl | decide +kernel)
    (case l_is_from => first | k_is | kernel_rfl | decide +kernel)
    (case c_is_from => first | k_is | kernel_rfl | decide +kernel)
    (case k_is_from => first | k_is | kernel_rfl | decide +kernel)
    (case a_is_place => first | k_is | kernel_rfl | decide +kernel)
    (case l_is_place => first | k_is | kernel_rfl | decide +kernel)
    (case c_is_place => first | k_is | kernel_rfl | decide +kernel)
    (case k_is_place => first | k_is | kernel_rfl | decide +kernel)
    (case a_is_tie => first | k_is | kernel_rfl | decide +kernel)
    (case l_is_tie => first | k_is | kernel_rfl | decide +kernel)
    (case c_is_tie => first | k_is | kernel_rfl | decide +kernel)
    (case k_is_tie => first | k_is | kernel_rfl | decide +kernel)
    (case a_neighbours => first | k_is | kernel_rfl | decide +kernel)
    (case l_neighbours => first | k_is | kernel_rfl | decide +kernel)
    (case c_neighbours => first | k_is | kernel_rfl | decide +kernel)
    (case k_neighbours => first | k_is | kernel_rfl | decide +kernel)
    (case a_hanging => first | k_is | kernel_rfl | decide +kernel)
    (case l_hanging => first | k_is | kernel_rfl | decide +kernel)
    (case c_hanging => first | k_is | kernel_rfl | decide +kernel)
    (case k_hanging => first | k_is | kernel_rfl | decide +kernel)
    (case a_are_ties => first | k_is | kernel_rfl | decide +kernel)
    (case l_are_ties => first | k_is | kernel_rfl | decide +kernel)
    (case c_are_ties => first | k_is | kernel_rfl | decide +kernel)
    (case k_are_ties => first | k_is | kernel_rfl | decide +kernel)
    (case a_check_yard => first | k_is | kernel_rfl | decide +kernel)
    (case l_check_yard => first | k_is | kernel_rfl | decide +kernel)
    (case c_check_yard => first | k_is | kernel_rfl | decide +kernel)
    (case k_check_yard => first | k_is | kernel_rfl | decide +kernel)
    (case a_check_standing => first | k_is | kernel_rfl | decide +kernel)
    (case l_check_standing => first | k_is | kernel_rfl | decide +kernel)
    (case c_check_standing => first | k_is | kernel_rfl | decide +kernel)
    (case k_check_standing => first | k_is | kernel_rfl | decide +kernel)
    (case a_slides_at => first | k_is | kernel_rfl | decide +kernel)
    (case l_slides_at => first | k_is | kernel_rfl | decide +kernel)
    (case c_slides_at => first | k_is | kernel_rfl | decide +kernel)
    (case k_slides_at => first | k_is | kernel_rfl | decide +kernel)
    (case a_slides => first | k_is | kernel_rfl | decide +kernel)
    (case l_slides => first | k_is | kernel_rfl | decide +kernel)
    (case c_slides => first | k_is | kernel_rfl | decide +kernel)
    (case k_slides => first | k_is | kernel_rfl | decide +kernel)
    (case a_is_slide_at => first | k_is | kernel_rfl | decide +kernel)
    (case l_is_slide_at => first | k_is | kernel_rfl | decide +kernel)
    (case c_is_slide_at => first | k_is | kernel_rfl | decide +kernel)
    (case k_is_slide_at => first | k_is | kernel_rfl | decide +kernel)
    (case a_moved => first | k_is | kernel_rfl | decide +kernel)
    (case l_moved => first | k_is | kernel_rfl | decide +kernel)
    (case c_moved => first | k_is | kernel_rfl | decide +kernel)
    (case k_moved => first | k_is | kernel_rfl | decide +kernel)
    (case a_behind_slide => first | k_is | kernel_rfl | decide +kernel)
    (case l_behind_slide => first | k_is | kernel_rfl | decide +kernel)
    (case c_behind_slide => first | k_is | kernel_rfl | decide +kernel)
    (case k_behind_slide => first | k_is | kernel_rfl | decide +kernel)
    (case a_next_row => first | k_is | kernel_rfl | decide +kernel)
    (case l_next_row => first | k_is | kernel_rfl | decide +kernel)
    (case c_next_row => first | k_is | kernel_rfl | decide +kernel)
    (case k_next_row => first | k_is | kernel_rfl | decide +kernel)
    (case a_first_steps => first | k_is | kernel_rfl | decide +kernel)
    (case l_first_steps => first | k_is | kernel_rfl | decide +kernel)
    (case c_first_steps => first | k_is | kernel_rfl | decide +kernel)
    (case k_first_steps => first | k_is | kernel_rfl | decide +kernel)
    (case a_way_back => first | k_is | kernel_rfl | decide +kernel)
    (case l_way_back => first | k_is | kernel_rfl | decide +kernel)
    (case c_way_back => first | k_is | kernel_rfl | decide +kernel)
    (case k_way_back => first | k_is | kernel_rfl | decide +kernel)
    (case a_slides_to => first | k_is | kernel_rfl | decide +kernel)
    (case l_slides_to => first | k_is | kernel_rfl | decide +kernel)
    (case c_slides_to => first | k_is | kernel_rfl | decide +kernel)
    (case k_slides_to => first | k_is | kernel_rfl | decide +kernel)
    (case a_count_standings => first | k_is | kernel_rfl | decide +kernel)
    (case l_count_standings => first | k_is | kernel_rfl | decide +kernel)
    (case c_count_standings => first | k_is | kernel_rfl | decide +kernel)
    (case k_count_standings => first | k_is | kernel_rfl | decide +kernel)
    (case a__law_taken => first | k_is | kernel_rfl | decide +kernel)
    (case l__law_taken => first | k_is | kernel_rfl | decide +kernel)
    (case c__law_taken => first | k_is | kernel_rfl | decide +kernel)
    (case k__law_taken => first | k_is | kernel_rfl | decide +kernel)
    (case a__law_pick => first | k_is | kernel_rfl | decide +kernel)
    (case l__law_pick => first | k_is | kernel_rfl | decide +kernel)
    (case c__law_pick => first | k_is | kernel_rfl | decide +kernel)
    (case k__law_pick => first | k_is | kernel_rfl | decide +kernel)
    (case a__law_alike => first | k_is | kernel_rfl | decide +kernel)
    (case l__law_alike => first | k_is | kernel_rfl | decide +kernel)
    (case c__law_alike => first | k_is | kernel_rfl | decide +kernel)
    (case k__law_alike => first | k_is | kernel_rfl | decide +kernel)
    (case a__law_yard => first | k_is | kernel_rfl | decide +kernel)
    (case l__law_yard => first | k_is | kernel_rfl | decide +kernel)
    (case c__law_yard => first | k_is | kernel_rfl | decide +kernel)
    (case k__law_yard => first | k_is | kernel_rfl | decide +kernel)
    (case a__law_standing => first | k_is | kernel_rfl | decide +kernel)
    (case l__law_standing => first | k_is | kernel_rfl | decide +kernel)
    (case c__law_standing => first | k_is | kernel_rfl | decide +kernel)
    (case k__law_standing => first | k_is | kernel_rfl | decide +kernel)
    (case a__law_near => first | k_is | kernel_rfl | decide +kernel)
    (case l__law_near => first | k_is | kernel_rfl | decide +kernel)
    (case c__law_near => first | k_is | kernel_rfl | decide +kernel)
    (case k__law_near => first | k_is | kernel_rfl | decide +kernel)
    (case a__law_slides => first | k_is | kernel_rfl | decide +kernel)
    (case l__law_slides => first | k_is | kernel_rfl | decide +kernel)
    (case c__law_slides => first | k_is | kernel_rfl | decide +kernel)
    (case k__law_slides => first | k_is | kernel_rfl | decide +kernel)
    (case a__law_slid => first | k_is | kernel_rfl | decide +kernel)
    (case l__law_slid => first | k_is | kernel_rfl | decide +kernel)
    (case c__law_slid => first | k_is | kernel_rfl | decide +kernel)
    (case k__law_slid => first | k_is | kernel_rfl | decide +kernel)
    (case a__law_words => first | k_is | kernel_rfl | decide +kernel)
    (case l__law_words => first | k_is | kernel_rfl | decide +kernel)
    (case c__law_words => first | k_is | kernel_rfl | decide +kernel)
    (case k__law_words => first | k_is | kernel_rfl | decide +kernel)
    (case a_law => first | k_is | kernel_rfl | decide +kernel)
    (case l_law => first | k_is | kernel_rfl | decide +kernel)
    (case c_law => first | k_is | kernel_rfl | decide +kernel)
    (case th_law => first | k_is | kernel_rfl | decide +kernel)
    (case tn_law => first | k_is | kernel_rfl | decide +kernel)
    (case k_law => first | k_is | kernel_rfl | decide +kernel)
    (case ac_BadYard => first | k_is | kernel_rfl | decide +kernel)
    (case kc_BadYard => first | k_is | kernel_rfl | decide +kernel)
    (case sc_BadYard => first | k_is | kernel_rfl | decide +kernel)
    (case tc_BadYard => first | k_is | kernel_rfl | decide +kernel)
    (case xl_BadYard => first | k_is | kernel_rfl | decide +kernel)
    (case rv_BadYard => decide +kernel)
    (case sa_BadYard => first | k_is | kernel_rfl | decide +kernel)
    (case ic_BadYard => first | k_is | kernel_rfl | decide +kernel)
    (case ti_BadYard => first | k_is | kernel_rfl | decide +kernel)
    (case nf_BadYard => first | k_is | kernel_rfl | decide +kernel)
    (case li_BadYard => first | k_is | kernel_rfl | decide +kernel)
    (case ci_BadYard => first | k_is | kernel_rfl | decide +kernel)
    (case ki_BadYard => first | k_is | kernel_rfl | decide +kernel)
    (case ac_BadStanding => first | k_is | kernel_rfl | decide +kernel)
    (case kc_BadStanding => first | k_is | kernel_rfl | decide +kernel)
    (case sc_BadStanding => first | k_is | kernel_rfl | decide +kernel)
    (case tc_BadStanding => first | k_is | kernel_rfl | decide +kernel)
    (case qc_BadStanding => first | k_is | kernel_rfl | decide +kernel)
    (case ac_BadSlide => first | k_is | kernel_rfl | decide +kernel)
    (case kc_BadSlide => first | k_is | kernel_rfl | decide +kernel)
    (case sc_BadSlide => first | k_is | kernel_rfl | decide +kernel)
    (case tc_BadSlide => first | k_is | kernel_rfl | decide +kernel)
    (case qc_BadSlide => first | k_is | kernel_rfl | decide +kernel)
    (case ac_NoWay => first | k_is | kernel_rfl | decide +kernel)
    (case kc_NoWay => first | k_is | kernel_rfl | decide +kernel)
    (case sc_NoWay => first | k_is | kernel_rfl | decide +kernel)
    (case tc_NoWay => first | k_is | kernel_rfl | decide +kernel)
    (case qc_NoWay => first | k_is | kernel_rfl | decide +kernel)
    (case ec_BadSlide => first | k_is | kernel_rfl | decide +kernel)
    (case ss_BadSlide => first | k_is | kernel_rfl | decide +kernel)
    (case ec_BadStanding => first | k_is | kernel_rfl | decide +kernel)
    (case ss_BadStanding => first | k_is | kernel_rfl | decide +kernel)
    (case ec_NoWay => first | k_is | kernel_rfl | decide +kernel)
    (case ss_NoWay => first | k_is | kernel_rfl | decide +kernel)
    (case nn_BadSlide_BadStanding => first | k_is | kernel_rfl | decide +kernel)
    (case z_all => first | k_is | kernel_rfl | decide +kernel)
    (case z_any => first | k_is | kernel_rfl | decide +kernel)
    (case z_bool => first | k_is | kernel_rfl | decide +kernel)
    (case z_dict => first | k_is | kernel_rfl | decide +kernel)
    (case z_enumerate => first | k_is | kernel_rfl | decide +kernel)
    (case z_int => first | k_is | kernel_rfl | decide +kernel)
    (case z_isinstance => first | k_is | kernel_rfl | decide +kernel)
    (case z_len => first | k_is | kernel_rfl | decide +kernel)
    (case z_list => first | k_is | kernel_rfl | decide +kernel)
    (case z_max => first | k_is | kernel_rfl | decide +kernel)
    (case z_min => first | k_is | kernel_rfl | decide +kernel)
    (case z_range => first | k_is | kernel_rfl | decide +kernel)
    (case z_set => first | k_is | kernel_rfl | decide +kernel)
    (case z_sorted => first | k_is | kernel_rfl | decide +kernel)
    (case z_str => first | k_is | kernel_rfl | decide +kernel)
    (case z_tuple => first | k_is | kernel_rfl | decide +kernel)
    (case z_zip => first | k_is | kernel_rfl | decide +kernel)
