import PyProof.Rows.All
import Wide.All
import OpenK.AllK
import Wide.FinOn
import PyProof.EqAt
import PyProof.EqKinds
import PyProof.TupleCall
import PyProof.AutoSeq1
import PyProof.SliceList
import PyProof.ReprRoads
import KE.DataCmp
import HandS.Base
import HandS.Call
import HandS.List
import HandS.Comp
import HandS.Ends
import HandS.Dict
import HandS.Iter
import HandS.Text
import HandS.Words
import HandS.WordsList
import HandS.Flow
import HandS.ForMost
import HandS.Defaults
import HandS.IsInst
import HandS.TupAny
import HandS.Rev
import HandS.Codes
import HandS.Style
import HandS.HeadEnd
import HandS.HeadHook2
import HandS.DictComp
import HandS.Zip
import KE.GoesMore
import HandS.Wide
import HandS.Exc
import HandS.ExcOwn
import HandS.ExcIs
import HandS.RaiseMore
import HandS.FStr
import HandS.WordsExc
import HandS.Walk
import HandS.Lambda
import HandS.Nested
import HandS.Head0
import HandS.Head1
import HandS.Head2
import HandS.HeadHook1
import HandS.HeadHook3
import HandS.HeadHook4
import HandS.More
import HandS.NestedK
import PySem.Challenge.RW_pergola_k01_order_of_trees
set_option Elab.async false
set_option linter.all false
set_option maxRecDepth 100000
set_option maxHeartbeats 4000000
namespace Pg
open PySem PySem.Spec PyProof.Rows L2 PySem.SeqAt
open AutoSeq1 (wpAny_loadPart' idx_int)
open MeetsSeq MeetsSeq2 MeetsSeq3 SeqRoads2

/-! own rule: a list takes the items of a tuple -/
theorem ext_tup (l : Addr) (its : Array Value) (n : Nat) (b : Addr) (its2 : Array Value) (n2 : Nat) (dd : Option Addr) (sl : Array (Option Value))
    (hs0 : ¬(!its.isEmpty && Builtin.List.listTooLong (its.size + its2.size)) = true) (hs1 : its.size ≤ sizeLine) (hs2 : its.size + its2.size ≤ sizeLine + 1) :
    Meets (Builtin.«list.extend» ⟨[.ref l, .ref b], []⟩) (fun _ R s => s.heap.get? l = some { cls := .type "list", dict := none, data := .seq its n, slots := #[] } ∧
      s.heap.get? b = some { cls := .type "tuple", dict := dd, data := .seq its2 n2, slots := sl } ∧
      R (.ok (.ret Value.none)) { s with heap := s.heap.update l (Obj.mapSeq fun x => x ++ its2), toks := s.toks }) :=
  .of_wp fun prog w A R s h => by
    obtain ⟨hp, g, d, tk, os⟩ := s
    obtain ⟨hl, hb, h⟩ := h
    have g1 := idx_int
    have g2 := AutoSeq1.sub_tuple_tuple
    have g3 := AutoSeq1.sub_list_list
    have g4 := AutoSeq1.sub_tuple_list
    have g5 := AutoSeq1.sub_list_tuple
    have hz' : (its ++ its2).size ≤ sizeLine + 1 := by
      rw [Array.size_append]
      exact hs2
    wp_walk using (wpAny_updateSeq hl rfl (hz := hs1) (_hz' := hz')), wpAny_loadPart' hl, wpAny_loadPart' hb
    exact ⟨_, rfl, h⟩
section
variable {X : Cx}
def rExtT (K : PySem.W.Frag) : V → List V → Hp → VK → Prop := fun x vs H Q => ∃ l b xs zs, x = .ref l ∧ vs = [.ref b] ∧ H l = some (.lst xs) ∧ SqT K H b zs ∧ xs.length + zs.length ≤ sizeLine ∧ Q .non (upd H l (.lst (xs ++ zs)))
theorem mt_extT : MtM X "list.extend" (rExtT X.K) := by
  intro pins s σ H x vs v us Q I rx rv h
  obtain ⟨l, b, xs, zs, rfl, rfl, hH, hB, hz, q⟩ := h
  cases rx
  obtain ⟨u, rfl, ru⟩ := rv.one
  cases ru
  obtain ⟨z, its, n, r, hl, e⟩ := I.lstM hH
  obtain ⟨its2, r2, ⟨⟨cls, dd, data, sl⟩, ho, hc, n2, hd⟩, hz2⟩ := I.tuple hB
  simp only at hc hd
  subst hc hd
  have r2l := r2.length
  have rl := r.length
  have hsz : its.toArray.size + its2.toArray.size ≤ sizeLine := by rw [List.size_toArray, List.size_toArray]; omega
  have hlong : ¬ (!its.toArray.isEmpty && Builtin.List.listTooLong (its.toArray.size + its2.toArray.size)) = true := by rw [notLongL hsz, Bool.and_false]; exact Bool.false_ne_true
  refine call_meets F.slot_list_extend ⟨_, e, rfl⟩ F.entry_list_extend (F.args_list_extend_2 _ _)
    (ext_tup l its.toArray n b its2.toArray n2 dd sl hlong (by rw [List.size_toArray] at hsz ⊢; omega) (Nat.le_succ_of_le hsz)) ⟨e, ho, ?_⟩
  refine ⟨.non, _, I.lset (its' := its ++ its2) hH e (by simp) (r.append r2) ?_, rfl, q⟩
  rw [List.length_append]
  exact hz

/-! own rule: t[:0:-1], the parts behind the first one, from the last to the first -/
theorem down_adj (n : Nat) : Builtin.Slice.sliceAdjust none (some 0) (-1) (n : Int) = ((n : Int) - 1, if n = 0 then -1 else 0) := by
  unfold Builtin.Slice.sliceAdjust
  simp only [show ((-1 : Int) < 0) from by decide, if_true, show ¬ ((0 : Int) < 0) from by decide, if_false]
  refine Prod.ext rfl ?_
  show min (0 : Int) ((n : Int) - 1) = if n = 0 then -1 else 0
  split <;> omega
theorem down_places (n : Nat) : Builtin.Slice.slicePlaces ((n : Int) - 1) (if n = 0 then -1 else 0) (-1) = n - 1 := by
  unfold Builtin.Slice.slicePlaces
  simp only [show ¬ ((-1 : Int) > 0) from by decide, if_false, Int.neg_neg, Int.ediv_one]
  by_cases h : n = 0
  · subst h; simp
  · rw [if_neg h]
    split <;> omega
theorem down_pick (l : List Value) : ((List.range (l.length - 1)).filterMap fun (k : Nat) => l.toArray[((l.length : Int) - 1 + (k : Int) * -1).toNat]?) = (l.drop 1).reverse := by
  cases l with
  | nil => rfl
  | cons a t =>
    have e1 : (a :: t).length - 1 = t.length := rfl
    rw [e1]
    have : ∀ (m : Nat) , m ≤ t.length → ((List.range m).filterMap fun (k : Nat) => (a :: t).toArray[((((a :: t).length : Nat) : Int) - 1 + (k : Int) * -1).toNat]?) = t.reverse.take m := by
      intro m
      induction m with
      | zero => intro _; rfl
      | succ m ih =>
        intro hm
        rw [List.range_succ, List.filterMap_append, ih (by omega)]
        have ei : ((((a :: t).length : Nat) : Int) - 1 + (m : Int) * -1).toNat = (t.length - 1 - m) + 1 := by rw [List.length_cons]; omega
        have hlt : t.length - 1 - m < t.length := by omega
        have eg : (a :: t).toArray[(t.length - 1 - m) + 1]? = some (t[t.length - 1 - m]'hlt) := by simp [hlt]
        have er : t.reverse[m]? = some (t[t.length - 1 - m]'hlt) := by
          rw [List.getElem?_reverse (by omega), List.getElem?_eq_getElem hlt]
        rw [List.take_add_one, er]
        simp only [List.filterMap_cons, List.filterMap_nil, ei, eg, Option.toList_some]
    rw [this t.length (Nat.le_refl _), List.take_of_length_le (by simp)]
    rfl
theorem down_item {prog : Program} {w : World} {A : Around} {E : Value → Shared → Prop} {s : Shared} {t sl : Addr} {l : List Value} {k1 k2 : Tok} {Q : Value → Shared → Prop} (hT : IsTup s.heap t l.toArray) (hS : s.heap.IsSliceOf sl .none (.int 0 k1) (.int (-1) k2))
    (h : Q (.ref s.heap.objs.size) { s with heap := s.heap.push { cls := .type "tuple", data := .seq (l.drop 1).reverse.toArray } }) (hz : l.length ≤ sizeLine) : wpAny (model prog w) A (getItem (.ref t) (.ref sl)) Q E s := by
  have fit : sizeOk (.seq (l.drop 1).reverse.toArray) := by
    show (l.drop 1).reverse.toArray.size ≤ sizeLine
    rw [List.size_toArray, List.length_reverse, List.length_drop]
    omega
  obtain ⟨os, gs, cs, ds⟩ := id hS
  have hTs : s.TypeIs (.ref sl) "slice" := ⟨os, gs, cs⟩
  unfold getItem
  try with_reducible refine wpAny_holding ?_
  first | refine wpAny_bind (wpAny_pure ?_) | skip
  refine wpAny_bind (wpAny_sequenceKey hT.typeIs (by decide) (wpAny_bind (wpAny_callSpecial?_slot (name := Str.ofString "__getitem__") hT.typeIs PyProof.Rows.slot_tuple_getitem
    (wpAny_call_entry PyProof.Rows.slot_tuple_getitem hT.typeIs entry_tuple_getitem ?_ (args_tuple_getitem _ _)))))
  show wpAny _ _ (Builtin.Tuple.tupleItemsOf (.ref t) >>= _) _ _ s
  refine wpAny_bind (tupleItemsOf_ hT (wpAny_bind (wpAny_typeOf hTs ?_)))
  rw [if_pos (by decide)]
  have app : ∀ {Q' : Int × Int × Nat → Shared → Prop}, Q' ((l.length : Int) - 1, -1, l.length - 1) s → wpAny (model prog w) A.in1 (Builtin.Slice.sliceApplied (.ref sl) (pure ((l.toArray.size : Nat) : Int))) Q' (fun e s' => True) s → True := fun _ _ => trivial
  refine wpAny_bind ?_
  unfold Builtin.Slice.sliceApplied Builtin.Slice.sliceFields
  refine wpAny_bind (wpAny_bind (wpAny_field gs ds (x := .none) rfl (wpAny_bind (wpAny_field gs ds (x := .int 0 k1) rfl (wpAny_bind (wpAny_field gs ds (x := .int (-1) k2) rfl (wpAny_pure ?_)))))))
  refine wpAny_bind (slicePart_int ?_)
  show wpAny _ _ (if ((-1 : Int) == 0) = true then _ else _) _ _ s
  rw [if_neg (by decide)]
  refine wpAny_bind (slicePart_none (wpAny_bind (slicePart_int (wpAny_bind (wpAny_pure ?_)))))
  show wpAny _ _ (match Builtin.Slice.sliceAdjust none (some 0) (-1) ((l.toArray.size : Nat) : Int) with | (lo, hi) => pure (lo, (-1 : Int), Builtin.Slice.slicePlaces lo hi (-1))) _ _ s
  rw [List.size_toArray, down_adj l.length]
  show wpAny _ _ (pure ((l.length : Int) - 1, (-1 : Int), Builtin.Slice.slicePlaces ((l.length : Int) - 1) (if l.length = 0 then -1 else 0) (-1))) _ _ s
  rw [down_places]
  refine wpAny_pure ?_
  have hno : ¬ (((l.length : Int) - 1 == 0 && (-1 : Int) == 1 && (l.length - 1) == l.toArray.size) = true) := by
    simp
  show wpAny _ _ (if (((l.length : Int) - 1 == 0 && (-1 : Int) == 1 && (l.length - 1) == l.toArray.size) = true) then _ else _) _ _ s
  rw [if_neg hno, down_pick]
  first
    | exact wpAny_bind (m := Builtin.Tuple.tupleExact _) (wpAny_newObj_type (wpAny_pure ⟨_, rfl, wpAny_pure h⟩) fit)
    | exact wpAny_bind (m := Builtin.Tuple.tupleExact _) (wpAny_newObj_type (wpAny_bind (wpAny_pure (wpAny_pure ⟨_, rfl, wpAny_pure h⟩))) fit)
    | exact wpAny_bind (wpAny_bind (m := Builtin.Tuple.tupleExact _) (wpAny_newObj_type (wpAny_pure (wpAny_pure ⟨_, rfl, wpAny_pure h⟩)) fit))
    | exact wpAny_bind (wpAny_bind (m := Builtin.Tuple.tupleExact _) (wpAny_newObj_type (wpAny_pure ⟨_, rfl, wpAny_pure h⟩) fit))
end
end Pg

set_option Elab.async false
set_option linter.all false
set_option maxRecDepth 100000
set_option maxHeartbeats 4000000
namespace Pg
open PySem PySem.Spec PyProof.Rows L2 PySem.SeqAt
section
variable {X : Cx}
def tDown (K : PySem.W.Frag) (te : TE) : TE := fun σ H Q => te σ H fun x H1 => ∃ a xs, x = .ref a ∧ SqT K H1 a xs ∧ ∀ p, H1 p = none → Q (.ref p) (upd H1 p (.tup (xs.drop 1).reverse))
theorem pe_down {e : Expr} {te : TE} {k k0 : Nat} {p0 p1 p2 p3 pos : Pos} (he : PE X e te) :
    PE X (.Subscript e (.Slice none (some (.Constant (.int 0) k0 p0)) (some (.UnaryOp .USub (.Constant (.int 1) k p1) p2)) p3) pos) (tDown X.K te) := by
  refine ⟨fun pins s σ H Q I h => Subscript_ (thn (he.run pins s σ H _ I h) fun v s1 ⟨x, H1, I1, r1, q1⟩ => ?_)⟩
  obtain ⟨a, xs, ex, hx, q⟩ := q1
  subst ex
  cases r1
  have st1 : PO X (some (.UnaryOp .USub (.Constant (.int 1) k p1) p2)) (tPart (tUn (rU fun i => .int (-i)) (tC (.int 1)))) := po_some (pe_un un_neg pe_int)
  have st0 : PO X (some (.Constant (.int 0) k0 p0)) (tPart (tC (.int 0))) := po_some pe_int
  refine wpAny_Slice (thn (po_none.run pins s1 σ H1 (fun o H2 => o = none ∧ H2 = H1) I1 ⟨rfl, rfl⟩) fun vl s2 ⟨l, H2, I2, pl, el, e2⟩ => ?_)
  subst el e2
  refine thn (st0.run pins s2 σ H2 (fun o H3 => o = some 0 ∧ H3 = H2) I2 ⟨0, rfl, rfl, rfl⟩) fun vu s3 ⟨u, H3, I3, pu, eu, e3⟩ => ?_
  subst eu e3
  refine thn (st1.run pins s3 σ H3 (fun o H4 => o = some (-1) ∧ H4 = H3) I3 ⟨1, rfl, -1, rfl, rfl, rfl⟩) fun vs s4 ⟨o, H4, I4, ps, eo, e4⟩ => ?_
  subst eo e4
  obtain rfl : vl = .none := by cases pl; rfl
  obtain ⟨t0, rfl⟩ : ∃ t, vu = .int 0 t := by cases pu; exact ⟨_, rfl⟩
  obtain ⟨t1, rfl⟩ : ∃ t, vs = .int (-1) t := by cases ps; exact ⟨_, rfl⟩
  have I5 : Inv X pins σ H4 { s4 with heap := s4.heap.push { cls := .type "slice", data := .fields #[.none, .int 0 t0, .int (-1) t1] } } := I4.kept (t' := s4.toks) fun b ob q => Heap.get?_push_of_some _ q
  obtain ⟨its, r, ht, hz⟩ := I5.tuple hx
  have hlen := r.length
  show wpAny (model X.prog X.w) X.A (subscriptTail e (.Slice none (some (.Constant (.int 0) k0 p0)) (some (.UnaryOp .USub (.Constant (.int 1) k p1) p2)) p3) (.ref a) (.ref s4.heap.objs.size)) (EP X pins σ Q) X.xe { s4 with heap := s4.heap.push { cls := .type "slice", data := .fields #[.none, .int 0 t0, .int (-1) t1] } }
  refine tail_any (ops := [.ref a, .ref s4.heap.objs.size]) ht.typeIs (PyProof.Rows.slot_tuple_getitem.lookup) ?_ (by with_unfolding_all rfl)
  refine down_item ht (Heap.IsSliceOf.new ..) ?_ (by omega)
  refine ⟨.ref _, _, I5.laid (t' := s4.toks) (o := .tup (xs.drop 1).reverse) (fun b ob q => Heap.get?_push_of_some _ q) (Nat.le_refl _) ?_, rfl, q _ (I5.hok.fresh (Nat.le_refl _))⟩
  exact ⟨by rw [List.length_reverse, List.length_drop]; omega, _, (r.drop 1).reverse, IsTup.new _ _⟩

/-! own rules: the order of data that can be compared place by place; == of data of any depth -/
def rLtD (K : PySem.W.Frag) (n : Nat) : R2 := fun x y H Q => ∃ d e, Dp K H x d ∧ Dp K H y e ∧ PySem.W.alike d e = true ∧ d ≠ .none ∧ min d.depth e.depth ≤ n ∧ Q (.bl (PySem.W.dataLt d e)) H
theorem op_ltD {n : Nat} (hu : X.A.units + n < cLine) : OpR X (compareOp .Lt) (rLtD X.K n) := by
  intro pins s σ H x y v u Q I rx ry ⟨d, e, hd, he, al, nn, hm, q⟩
  obtain ⟨as, r1⟩ := Dp.reads I d x v hd rx
  obtain ⟨bs, r2⟩ := Dp.reads I e y u he ry
  exact PySem.W.lt_data r1 r2 al nn (by omega) ⟨.bl _, H, I, rfl, q⟩
def rGtD (K : PySem.W.Frag) (n : Nat) : R2 := fun x y H Q => ∃ d e, Dp K H x d ∧ Dp K H y e ∧ PySem.W.alike d e = true ∧ d ≠ .none ∧ min d.depth e.depth ≤ n ∧ Q (.bl (PySem.W.dataLt e d)) H
theorem op_gtD {n : Nat} (hu : X.A.units + n < cLine) : OpR X (compareOp .Gt) (rGtD X.K n) := by
  intro pins s σ H x y v u Q I rx ry ⟨d, e, hd, he, al, nn, hm, q⟩
  obtain ⟨as, r1⟩ := Dp.reads I d x v hd rx
  obtain ⟨bs, r2⟩ := Dp.reads I e y u he ry
  exact PySem.W.gt_data r1 r2 al nn (by omega) ⟨.bl _, H, I, rfl, q⟩
/-! own rule: repr of a list or tuple of data, where no repr is under way -/
def rRepr (K : PySem.W.Frag) (n : Nat) : List V → Hp → VK → Prop := fun xs H Q => ∃ (a : Addr) (d : PyData), xs = [.ref a] ∧ Dp K H (.ref a) d ∧ d.showable = true ∧ d.hasDict = false ∧ d.shown.length ≤ sizeLine ∧ d.depth ≤ n ∧ Q (.str d.shown) H
theorem cr_repr {n : Nat} (hu : X.A.units + n + 1 < cLine) (hg : X.A.guards = some []) : CallR X (.builtin "repr") (rRepr X.K n) := by
  intro pins s σ H xs us Q I r ⟨a, d, e, hd, hs, hno, hz, hn, q⟩
  subst e
  obtain ⟨u, rfl, ru⟩ := vals1 r
  obtain ⟨as, r1⟩ := Dp.reads I d (.ref a) u hd ru
  cases ru
  refine repr_of_reads' r1 hs (PyData.noDict_hsm hno) hg (by omega) (fun _ _ e => e) (fun h' w tk hk => ?_) hz
  exact ⟨.str d.shown, H, I.kept (t' := tk) hk, ⟨w, rfl⟩, q⟩
end

/-! ### promises of defs that run where no repr is under way -/
structure FnG (P : Program) (w : World) (K : PySem.W.Frag) (mg : Str → Option Value) (base : Heap) (k : Nat) (f : Addr) (fd : FuncData) (ps : List Str) (sp : Sp) : Prop where
  len : ∀ vs H Q E, sp vs H Q E → vs.length = ps.length
  run : ∀ (A : Around) (outer : List Env) (s : Shared) (H : Hp) (args : Args) (us : List Value) (vs : List V) (Q : VK), A.guards = some [] → Room k A → Env0 P w K mg base A outer s H → BindsTo s fd args (ps.zip us) → Vals vs us →
    sp vs H Q E0 → codeAny (model P w) A (.call (.ref f) args) (CR CX0 outer P w H s Q E0) s
section
variable {P : Program} {w : World} {K : PySem.W.Frag} {mg : Str → Option Value} {base : Heap}
theorem fng_of {k : Nat} {f : Addr} {name qual : Str} {params : Arguments} {body : List Stmt} {scope : Scope} {dV kV doc pm cdv ct oc : Value} {an od : Option Addr} {osl : Array (Option Value)} {N ps : List Str} {sp : Sp}
    (lk : K.lookup f = some ⟨oc, od, .func (PySem.W.fnOf name qual params body scope dV kV doc pm an cdv ct), osl⟩) (hcd : PySem.W.codeIn K cdv qual = true) (S : FnScope N ps scope) (len : ∀ vs H Q E, sp vs H Q E → vs.length = ps.length)
    (hbody : ∀ (A : Around) (outer : List Env) (s : Shared) (H : Hp) (vs : List V) (Q : VK), (A.deeper (envOfC qual scope s.heap.objs.size f cdv)).guards = some [] → Room k (A.deeper (envOfC qual scope s.heap.objs.size f cdv)) → sp vs H Q E0 →
      ∃ t, PSs (cxOf CX0 P w K mg base N qual scope f cdv A outer s H E0).nox body t ∧ t { nx := fun _ H' => Q .non H', rt := Q } (start N vs) H) :
    FnG P w K mg base (k + 1) f (PySem.W.fnOf name qual params body scope dV kV doc pm an cdv ct) ps sp := by
  refine ⟨len, fun A outer s H args us vs Q hgd room env bind rv hsp => ?_⟩
  have KX : K.In s.heap := env.mod.kin.keeps fun b o e => (env.bs b o e).1
  have lim : s.heap.NoLimit := env.mod.nolimit.keeps fun b o e => (env.bs b o e).1
  have kinds : ∀ y ∈ ps.zip us, scope.names.lookup y.1 = some .local ∨ (scope.names.lookup y.1 = some .cell ∧ ((cellsFrom (s.heap.objs.size + 1) scope.names []).lookup y.1).isSome = true) := fun ⟨n, v⟩ hy =>
    (S.par n (List.of_mem_zip hy).1).imp_right fun q => ⟨q, PySem.W.cellsFrom_some _ _ _ (.inl q)⟩
  refine codeAny_call_function room.depth (KX _ _ lk) rfl S.co S.gen rfl (PySem.W.codeRec_of KX hcd) (bind _ _ _ _ (wpAny_newFunctionEnv_cells S.kind kinds fun ev he s1 x => ?_))
  subst he
  refine ⟨lim.keeps x.toInCall.keep, codeAny_func ?_⟩
  obtain ⟨t, ht, hq⟩ := hbody A outer s H vs Q hgd (room.deeper _) hsp
  have I := inv_start (CX := CX0) (E := E0) S room.hd env (len _ _ _ _ hsp) rv x
  refine wpAny_mono (ht.nox.run [] s1 (start N vs) H _ I hq) (fun fl s' hs => ?_) fun e s' hs => hs
  cases fl with
  | ret u => obtain ⟨v, σ', H', J, rv, q⟩ := hs; exact ⟨v, H', J.os, J.bare, J.base, J.hok, rv, q⟩
  | next => obtain ⟨σ', H', J, q⟩ := hs; exact ⟨V.non, H', J.os, J.bare, J.base, J.hok, rfl, q⟩
  | brk => obtain ⟨_, _, _, q⟩ := hs; exact q.elim
  | cont => obtain ⟨_, _, _, q⟩ := hs; exact q.elim
end
section
variable {X : Cx} {k : Nat} {f : Addr} {fd : FuncData} {ps : List Str} {sp : Sp} {x : Str} {p pos : Pos} {e : Expr} {es : List Expr} {t : TA}
theorem pe_callG (F : FnG X.prog X.w X.K X.mg X.base k f fd ps sp) (hG : X.A.guards = some []) (hr : Room k X.A) (hg : Gl X x) (hm : X.mg x = some (.ref f)) (hk : PySem.W.keepIn X.K (.ref f) = true) (hb : Binds X.K fd ps [])
    (ha : PA X (e :: es) t) (hdb : (x == ("__debug__" : Str)) = false := by decide) (he : starEach (e :: es) X.env = (false, eval e X.env) :: starEach es X.env := by rfl) (hpl : (backTo pos (starEach es X.env)).any (·.1) = false := by rfl) :
    PE X (.Call (.Name x p) (e :: es) [] pos) (tCall sp [] E0 t) := by
  refine ⟨fun pins s σ H Q I h => wpAny_Call_Name_kw (ld_glob I hg hm ?_ hdb)⟩
  refine PySem.W.callWith_K (h₀ := X.base) I.ok.mod.kin hk (thn (ha.run pos pins s σ H _ I h) fun us s1 ⟨vs, H1, I1, r, q⟩ => ⟨I1.kIn, ?_⟩) he hpl
  have q : sp vs H1 Q E0 := by
    have q' : sp (vs ++ []) H1 Q E0 := q
    rw [List.append_nil] at q'
    exact q'
  have hl : (us ++ []).length = ps.length := by rw [List.append_nil, ← r.length]; exact F.len _ _ _ _ q
  have hb' := hb s1 us I1.kIn hl
  rw [List.append_nil] at hb'
  show wpAny _ _ (call (Value.ref f) us) _ _ s1
  refine wpAny_call (codeAny_mono (F.run X.A X.stack s1 H1 ⟨us, []⟩ us vs Q hG hr I1.env0 hb' r q) fun r s' hq => ?_)
  cases r with
  | error e => exact (show False from hq).elim
  | ok fl =>
    cases fl with
    | ret u => exact I1.after hq
    | next => exact False.elim hq
    | brk => exact False.elim hq
    | cont => exact False.elim hq
end
end Pg

set_option Elab.async false
set_option linter.all false
set_option maxRecDepth 100000
set_option maxHeartbeats 4000000
namespace Pg
open PySem PySem.Spec PyProof.Rows L2

/-! ### a def of the text, called by its name -/
abbrev FnP (K : PySem.W.Frag) (x : Str) (st : Stmt) (f : Addr) (fd : FuncData) : Prop := FunD K x x (defArgs st) (defBody st) (defScope st) [] [] f fd
abbrev Cal := @C8.Cal
theorem mk_cal {P : Program} {w : World} {K : PySem.W.Frag} {mg : Str → Option Value} {base : Heap} {x : Str} {st : Stmt} {f : Addr} {fd : FuncData} {N ps : List Str} {k : Nat} {sp : Sp} (F : FnP K x st f fd) (hm : mg x = some (.ref f)) (S : FnScope N ps (defScope st))
    (hb : ∀ (kV doc pm : Value) (an : Option Addr) (cdv ct : Value) (us : List Value), us.length = ps.length → bindArgs (PySem.W.fnOf x x (defArgs st) (defBody st) (defScope st) .none kV doc pm an cdv ct) ⟨us, []⟩ = pure (ps.zip us))
    (len : ∀ vs H Q E, sp vs H Q E → vs.length = ps.length)
    (body : ∀ (cdv : Value) (A : Around) (outer : List Env) (s : Shared) (H : Hp) (vs : List V) (Q : VK) (E : XK), Room k (A.deeper (envOfC x (defScope st) s.heap.objs.size f cdv)) → sp vs H Q E →
      ∃ t, PSs (cxOf CX0 P w K mg base N x (defScope st) f cdv A outer s H E).nox (defBody st) t ∧ t { nx := fun _ H' => Q .non H', rt := Q } (start N vs) H) : Cal P w K mg base (k + 1) x sp [] :=
  ⟨f, fd, ps, [], F.ok S len (fun cdv A outer s H vs Q E hr h => let ⟨t, a, b⟩ := body cdv A outer s H vs Q E hr h; ⟨t, a.nox, b⟩), hm, F.kp, F.bindsN hb, .nil⟩
/-- a weaker promise, more room -/
theorem cal_imp {P : Program} {w : World} {K : PySem.W.Frag} {mg : Str → Option Value} {base : Heap} {x : Str} {k j : Nat} {sp sp' : Sp} {dv : List V} (c : Cal P w K mg base k x sp dv) (hk : k ≤ j) (h : ∀ vs H Q E, sp' vs H Q E → sp vs H Q E) : Cal P w K mg base j x sp' dv := by
  obtain ⟨f, fd, ps, ds, a, b, c, d, e⟩ := c.ex
  exact ⟨f, fd, ps, ds, (a.mono hk).imp h, b, c, d, e⟩
/-- no call with this promise -/
theorem cal_none {P : Program} {w : World} {K : PySem.W.Frag} {mg : Str → Option Value} {base : Heap} {x : Str} {k : Nat} {sp sp' : Sp} {dv : List V} (c : Cal P w K mg base k x sp' dv) (h : ∀ vs H Q E, ¬ sp vs H Q E) : Cal P w K mg base 0 x sp dv := by
  obtain ⟨f, fd, ps, ds, a, b, c, d, e⟩ := c.ex
  exact ⟨f, fd, ps, ds, ⟨fun vs H Q E q => absurd q (h vs H Q E), fun A outer s H args us vs Q E _ _ _ _ q => absurd q (h vs H Q E)⟩, b, c, d, e⟩

/-! ### what is kept -/
/-- all but the object at a -/
def Fr (a : Addr) (H H' : Hp) : Prop := ∀ b o, b ≠ a → H b = some o → H' b = some o
/-- tuples are kept -/
def TK (K : PySem.W.Frag) (H H' : Hp) : Prop := ∀ p xs, SqT K H p xs → SqT K H' p xs
section
variable {K : PySem.W.Frag} {H H1 H2 : Hp} {a p : Addr} {o : HO} {xs ys : List V}
theorem Fr.refl : Fr a H H := fun _ _ _ h => h
theorem Fr.trans (f : Fr a H H1) (g : Fr a H1 H2) : Fr a H H2 := fun b o n h => g b o n (f b o n h)
theorem Fr.of (s : Same H H1) : Fr a H H1 := fun b o _ h => s b o h
theorem Same.new (h : H p = none) : Same H (upd H p o) := fun b u q => by rw [upd_ne (ne_of_none q h)]; exact q
theorem Same.mut (h : H p = none) (s : Same H H1) : Same H (upd H1 p o) := fun b u q => by rw [upd_ne (ne_of_none q h)]; exact s b u q
theorem Fr.new (h : H p = none) : Fr a H (upd H p o) := .of (Same.new h)
theorem Fr.own : Fr a H (upd H a o) := fun b u n q => by rw [upd_ne n]; exact q
theorem Fr.mut (f : Fr a H H1) (h : H p = none) : Fr a H (upd H1 p o) := fun b u n q => by rw [upd_ne (ne_of_none q h)]; exact f b u n q
theorem TK.refl : TK K H H := fun _ _ h => h
theorem TK.trans (f : TK K H H1) (g : TK K H1 H2) : TK K H H2 := fun p xs h => g p xs (f p xs h)
theorem TK.same (s : Same H H1) : TK K H H1 := fun p xs h => by
  rcases h with (h | ⟨o, h⟩) | h
  · exact .inl (.inl (s _ _ h))
  · exact .inl (.inr ⟨o, s _ _ h⟩)
  · exact .inr h
theorem TK.fr (f : Fr a H H1) (hl : H a = some (.lst xs)) : TK K H H1 := fun p ys h => by
  rcases h with (h | ⟨o, h⟩) | h
  · exact .inl (.inl (f _ _ (ne_of h hl (by intro z; cases z)) h))
  · exact .inl (.inr ⟨o, f _ _ (ne_of h hl (by intro z; cases z)) h⟩)
  · exact .inr h
theorem TK.new (h : H p = none) : TK K H (upd H p o) := .same (Same.new h)
theorem TK.put (h : H p = some (.lst xs)) : TK K H (upd H p o) := .fr Fr.own h
theorem SqT.mk (h : H p = some (.tup xs)) : SqT K H p xs := .inl (.inl h)
theorem SqL.mk (h : H p = some (.lst xs)) : SqL K H p xs := .inl (.inl h)
theorem Fr.seq (f : Fr a H H1) (n : p ≠ a) (h : SqL K H p xs) : SqL K H1 p xs := by
  rcases h with (h | ⟨o, h⟩) | h
  · exact .inl (.inl (f _ _ n h))
  · exact .inl (.inr ⟨o, f _ _ n h⟩)
  · exact .inr h
theorem Fr.free (f : Fr a H H1) (h : H1 p = none) (n : p ≠ a) : H p = none := by
  cases q : H p with
  | none => rfl
  | some o => rw [f p o n q] at h; cases h
theorem same_free (s : Same H H1) (h : H1 p = none) : H p = none := s.free h
end

/-! ### the law's stream of numbers: state[0] a list of numbers below 1009 at n, state[1] how many were taken, at most m -/
structure StA (H : Hp) (a n : Addr) (m : Int) : Prop where
  ex : ∃ (ns : List Int) (c : Int), H a = some (.lst [.ref n, .int c]) ∧ H n = some (.lst (ns.map V.int)) ∧ n ≠ a ∧ ns ≠ [] ∧ ns.length ≤ 4000 ∧ (∀ x ∈ ns, 0 ≤ x ∧ x < 1009) ∧ 0 ≤ c ∧ c ≤ m
section
variable {K : PySem.W.Frag} {H H1 H2 : Hp} {a p n : Addr} {o : HO} {xs ys : List V} {m m' : Int}
theorem StA.mono (s : StA H a n m) (h : m ≤ m') : StA H a n m' := by
  obtain ⟨ns, c, h1, h2, h3, h4, h5, h6, h7, h8⟩ := s.ex
  exact ⟨ns, c, h1, h2, h3, h4, h5, h6, h7, by omega⟩
theorem StA.same (s : StA H a n m) (e : Same H H1) : StA H1 a n m := by
  obtain ⟨ns, c, h1, h2, h3, h4, h5, h6, h7, h8⟩ := s.ex
  exact ⟨ns, c, e _ _ h1, e _ _ h2, h3, h4, h5, h6, h7, h8⟩
theorem StA.at (s : StA H a n m) : ∃ xs, H a = some (.lst xs) := let ⟨ns, c, h1, _⟩ := s.ex; ⟨_, h1⟩
theorem StA.tk (s : StA H a n m) (f : Fr a H H1) : TK K H H1 := let ⟨_, h⟩ := s.at; TK.fr f h
theorem StA.ne (s : StA H a n m) (h : H p = none) : p ≠ a ∧ p ≠ n := by
  obtain ⟨ns, c, h1, h2, _⟩ := s.ex
  exact ⟨(ne_of_none h1 h).symm, (ne_of_none h2 h).symm⟩
theorem StA.put (s : StA H a n m) (h : p ≠ a ∧ p ≠ n) : StA (upd H p o) a n m := by
  obtain ⟨ns, c, h1, h2, h3, h4, h5, h6, h7, h8⟩ := s.ex
  exact ⟨ns, c, by rw [upd_ne h.1.symm]; exact h1, by rw [upd_ne h.2.symm]; exact h2, h3, h4, h5, h6, h7, h8⟩
theorem StA.new (s : StA H a n m) (h : H p = none) : StA (upd H p o) a n m := s.same (Same.new h)
theorem StA.free (s : StA H a n m) (f : Fr a H H1) (s1 : StA H1 a n m') (h : H1 p = none) : H p = none := f.free h (s1.ne h).1
end
/-- the promise of the law's next(state, many): some number below many; one more is taken -/
def spNext : Sp := fun vs H Q _ => ∃ (a n : Addr) (many m : Int), vs = [.ref a, .int many] ∧ 1 ≤ many ∧ StA H a n m ∧ m < 1000000 ∧ ∀ (r : Int) (H' : Hp), 0 ≤ r → r < many → Fr a H H' → StA H' a n (m + 1) → Q (.int r) H'

/-! ### terms and signs -/
inductive Tr where
  | nm (x : Str) | c0 (s : Str) | c1 (s : Str) (t : Tr) | c2 (s : Str) (t u : Tr)
def Tr.size : Tr → Nat
  | .nm _ => 1
  | .c0 _ => 1
  | .c1 _ t => 1 + t.size
  | .c2 _ t u => 1 + t.size + u.size
def Tr.dep : Tr → Nat
  | .nm _ => 1
  | .c0 _ => 1
  | .c1 _ t => 1 + t.dep
  | .c2 _ t u => 1 + max t.dep u.dep
theorem Tr.size_pos : ∀ t : Tr, 1 ≤ t.size
  | .nm _ => Nat.le_refl _
  | .c0 _ => Nat.le_refl _
  | .c1 _ t => by show 1 ≤ 1 + t.size; omega
  | .c2 _ t u => by show 1 ≤ 1 + t.size + u.size; omega
theorem Tr.dep_pos : ∀ t : Tr, 1 ≤ t.dep
  | .nm _ => Nat.le_refl _
  | .c0 _ => Nat.le_refl _
  | .c1 _ t => by show 1 ≤ 1 + t.dep; omega
  | .c2 _ t u => by show 1 ≤ 1 + max t.dep u.dep; omega
theorem Tr.dep_le : ∀ t : Tr, t.dep ≤ t.size
  | .nm _ => Nat.le_refl _
  | .c0 _ => Nat.le_refl _
  | .c1 _ t => by have := t.dep_le; show 1 + t.dep ≤ 1 + t.size; omega
  | .c2 _ t u => by have := t.dep_le; have := u.dep_le; show 1 + max t.dep u.dep ≤ 1 + t.size + u.size; omega
/-- the value v is the term -/
def TrAt (K : PySem.W.Frag) (H : Hp) : Tr → V → Prop
  | .nm x, v => v = .str x
  | .c0 s, v => ∃ p, v = .ref p ∧ SqT K H p [.str s]
  | .c1 s t, v => ∃ p u, v = .ref p ∧ SqT K H p [.str s, u] ∧ TrAt K H t u
  | .c2 s t t', v => ∃ p u u', v = .ref p ∧ SqT K H p [.str s, u, u'] ∧ TrAt K H t u ∧ TrAt K H t' u'
theorem TrAt.keep {K : PySem.W.Frag} {H H' : Hp} (k : TK K H H') : ∀ {t : Tr} {v : V}, TrAt K H t v → TrAt K H' t v
  | .nm _, _, h => h
  | .c0 _, _, ⟨p, e, q⟩ => ⟨p, e, k _ _ q⟩
  | .c1 _ _, _, ⟨p, u, e, q, r⟩ => ⟨p, u, e, k _ _ q, TrAt.keep k r⟩
  | .c2 _ _ _, _, ⟨p, u, u', e, q, r, r'⟩ => ⟨p, u, u', e, k _ _ q, TrAt.keep k r, TrAt.keep k r'⟩
abbrev Sg := List (Str × Int)
/-- the tuple of pairs at p -/
structure SgAt (K : PySem.W.Frag) (H : Hp) (p : Addr) (sg : Sg) : Prop where
  ex : ∃ rs : List Addr, SqT K H p (rs.map V.ref) ∧ Paired (fun r (s : Str × Int) => SqT K H r [.str s.1, .int s.2]) rs sg
theorem Paired.imp2 {α β : Type} {F G : α → β → Prop} (h : ∀ a b, F a b → G a b) : ∀ {xs : List α} {ys : List β}, Paired F xs ys → Paired G xs ys
  | _, _, .nil => .nil
  | _, _, .cons a t => .cons (h _ _ a) (Paired.imp2 h t)
theorem SgAt.keep {K : PySem.W.Frag} {H H' : Hp} {p : Addr} {sg : Sg} (k : TK K H H') (h : SgAt K H p sg) : SgAt K H' p sg := by
  obtain ⟨rs, a, b⟩ := h.ex
  exact ⟨rs, k _ _ a, Paired.imp2 (fun _ _ q => k _ _ q) b⟩
theorem paired_get {α β : Type} {F : α → β → Prop} : ∀ {xs : List α} {ys : List β} {i : Nat} {x : α}, Paired F xs ys → xs[i]? = some x → ∃ y, ys[i]? = some y ∧ F x y
  | _, _, _, _, .nil, e => by simp at e
  | _, _, 0, _, .cons r _, e => by simp at e; subst e; exact ⟨_, rfl, r⟩
  | _, _, i + 1, x, .cons _ t, e => by
    obtain ⟨u, h1, h2⟩ := paired_get (i := i) (x := x) t (by simpa using e)
    exact ⟨u, by simpa using h1, h2⟩
theorem paired_get2 {α β : Type} {F : α → β → Prop} : ∀ {xs : List α} {ys : List β} {i : Nat} {y : β}, Paired F xs ys → ys[i]? = some y → ∃ x, xs[i]? = some x ∧ F x y
  | _, _, _, _, .nil, e => by simp at e
  | _, _, 0, _, .cons r _, e => by simp at e; subst e; exact ⟨_, rfl, r⟩
  | _, _, i + 1, y, .cons _ t, e => by
    obtain ⟨u, h1, h2⟩ := paired_get2 (i := i) (y := y) t (by simpa using e)
    exact ⟨u, by simpa using h1, h2⟩
end Pg

set_option Elab.async false
set_option linter.all false
set_option maxRecDepth 100000
set_option maxHeartbeats 4000000
namespace Pg
open PySem PySem.Spec PyProof.Rows L2
/-! ### texts by their signs -/
abbrev cs (x : Str) : List Nat := x.cps.toList
theorem cs_app (x y : Str) : cs (x ++ y) = cs x ++ cs y := TL.tl_append x y
theorem cs_len (x : Str) : x.length = (cs x).length := by simp [Str.length, cs]
theorem cs_one (c : Nat) : cs (⟨#[c]⟩ : Str) = [c] := rfl
theorem cs_inj {x y : Str} (h : cs x = cs y) : x = y := TL.ext_tl h
/-! ### the law's words -/
def Ab (w : Str) : Prop := 1 ≤ (cs w).length ∧ (cs w).length ≤ 8 ∧ ∀ c ∈ cs w, c = 97 ∨ c = 98 ∨ c = 121 ∨ c = 122
def Wd (i : Nat) (w : Str) : Prop := Ab w ∨ (i < 26 ∧ cs w = [99, 97 + i])
structure Wds (ts : List Str) : Prop where
  nd : ts.Nodup
  wd : ∀ i t, ts[i]? = some t → Wd i t
theorem Wd.len {i : Nat} {w : Str} (h : Wd i w) : w.length ≤ 8 := by
  rw [cs_len]
  rcases h with h | ⟨_, h⟩
  · exact h.2.1
  · rw [h]; exact (by show 2 ≤ 8; decide)
theorem Wds.fresh {ts : List Str} {w : Str} (h : Wds ts) (e : cs w = [99, 97 + ts.length]) : w ∉ ts := fun hm => by
  obtain ⟨i, hi, q⟩ := List.getElem_of_mem hm
  have e1 : ts[i]? = some w := by rw [List.getElem?_eq_getElem hi, q]
  rcases h.wd i w e1 with ⟨_, _, z⟩ | ⟨_, z⟩
  · have := z 99 (by rw [e]; exact List.mem_cons_self ..)
    omega
  · rw [e] at z
    have := (List.cons.inj (List.cons.inj z).2).1
    omega
theorem Wds.snoc {ts : List Str} {w : Str} (h : Wds ts) (n : w ∉ ts) (d : Wd ts.length w) : Wds (ts ++ [w]) where
  nd := List.nodup_append.mpr ⟨h.nd, by simp, fun a ha b hb e => by
    rw [List.mem_singleton] at hb
    subst hb e
    exact n ha⟩
  wd := fun i t q => by
    by_cases hi : i < ts.length
    · rw [List.getElem?_append_left hi] at q
      exact h.wd i t q
    · rw [List.getElem?_append_right (by omega)] at q
      cases hk : i - ts.length with
      | zero =>
        rw [hk] at q
        have e : w = t := by simpa using q
        subst e
        rw [show i = ts.length by omega]
        exact d
      | succ k => rw [hk] at q; simp at q
theorem Wds.nil : Wds [] := ⟨List.nodup_nil, fun i t q => by simp at q⟩
theorem inV_strs (w : Str) (ts : List Str) : inV (.str w) (ts.map V.str) = decide (w ∈ ts) := by
  induction ts with
  | nil => rfl
  | cons t ts ih =>
    show ((t == w) || inV (.str w) (ts.map V.str)) = _
    rw [ih]
    by_cases e : t = w
    · subst e; simp
    · have e2 : (t == w) = false := beq_eq_false_iff_ne.mpr e
      have e3 : ¬ w = t := fun z => e z.symm
      rw [e2, Bool.false_or]
      simp [e3]
theorem flat_strs (ts : List Str) : (ts.map V.str).all flatV = true := by
  induction ts with
  | nil => rfl
  | cons t ts ih => exact ih
/-- some word that is not among ts is made; at most ten numbers are taken -/
def spWord (K : PySem.W.Frag) : Sp := fun vs H Q _ => ∃ (a n l : Addr) (ts : List Str) (m : Int), vs = [.ref a, .ref l] ∧ StA H a n m ∧ m < 900000 ∧ H l = some (.lst (ts.map V.str)) ∧ l ≠ a ∧ Wds ts ∧ ts.length < 26 ∧
  ∀ (w : Str) (H' : Hp), w ∉ ts → Wd ts.length w → Fr a H H' → StA H' a n (m + 10) → Q (.str w) H'
/-! ### the law's signs -/
structure GSg (sg : Sg) : Prop where
  len : 1 ≤ sg.length ∧ sg.length ≤ 4
  nd : (sg.map (·.1)).Nodup
  ar : ∀ s ∈ sg, 0 ≤ s.2 ∧ s.2 ≤ 2
  c0 : ∃ s ∈ sg, s.2 = 0
  wd : ∀ s ∈ sg, ∃ i, Wd i s.1
abbrev SgR (K : PySem.W.Frag) (H : Hp) (rs : List Addr) (sg : Sg) : Prop := Paired (fun r (s : Str × Int) => SqT K H r [.str s.1, .int s.2]) rs sg
theorem paired_app {α β : Type} {F : α → β → Prop} : ∀ {xs : List α} {ys : List β} {zs : List α} {ws : List β}, Paired F xs ys → Paired F zs ws → Paired F (xs ++ zs) (ys ++ ws)
  | _, _, _, _, .nil, h => h
  | _, _, _, _, .cons a t, h => .cons a (paired_app t h)
theorem paired_take {α β : Type} {F : α → β → Prop} : ∀ {xs : List α} {ys : List β} (n : Nat), Paired F xs ys → Paired F (xs.take n) (ys.take n)
  | _, _, 0, _ => .nil
  | _, _, _ + 1, .nil => .nil
  | _, _, n + 1, .cons a t => .cons a (paired_take n t)
theorem paired_drop {α β : Type} {F : α → β → Prop} : ∀ {xs : List α} {ys : List β} (n : Nat), Paired F xs ys → Paired F (xs.drop n) (ys.drop n)
  | _, _, 0, h => h
  | _, _, _ + 1, .nil => .nil
  | _, _, n + 1, .cons _ t => paired_drop n t
theorem paired_len {α β : Type} {F : α → β → Prop} {xs : List α} {ys : List β} (h : Paired F xs ys) : xs.length = ys.length := Paired.length h
theorem SgR.keep {K : PySem.W.Frag} {H H' : Hp} {rs : List Addr} {sg : Sg} (k : TK K H H') (h : SgR K H rs sg) : SgR K H' rs sg := Paired.imp2 (fun _ _ q => k _ _ q) h
theorem cutV_drop (xs : List V) (k : Nat) : cutV xs (some (k : Int)) none = xs.drop k := by
  unfold cutV
  rw [HT.sIx_nat, HT.sIx_none]
  by_cases h : k ≤ xs.length
  · rw [Nat.min_eq_left h, List.take_of_length_le (by rw [List.length_drop]; exact Nat.le_refl _)]
  · rw [Nat.min_eq_right (by omega), List.drop_eq_nil_of_le (Nat.le_refl _), List.drop_eq_nil_of_le (by omega)]
    simp
theorem cutV_take (xs : List V) (k : Nat) : cutV xs none (some (k : Int)) = xs.take k := by
  unfold cutV
  rw [HT.sIx_nat, HT.sIx_none, List.drop_zero, Nat.sub_zero]
  by_cases h : k ≤ xs.length
  · rw [Nat.min_eq_left h]
  · rw [Nat.min_eq_right (by omega), List.take_of_length_le (Nat.le_refl _), List.take_of_length_le (by omega)]
theorem GSg.rot {sg : Sg} (g : GSg sg) (k : Nat) : GSg (sg.drop k ++ sg.take k) := by
  have p : (sg.drop k ++ sg.take k).Perm sg := List.perm_append_comm.trans (by rw [List.take_append_drop])
  exact ⟨by rw [p.length_eq]; exact g.len, ((p.map _).nodup_iff).mpr g.nd, fun s h => g.ar s (p.mem_iff.mp h), let ⟨s, h, e⟩ := g.c0; ⟨s, p.mem_iff.mpr h, e⟩, fun s h => g.wd s (p.mem_iff.mp h)⟩
/-- [sign for sign, arity in ..] over a list or a tuple of pairs -/
theorem take_snoc {α : Type} {xs : List α} {i : Nat} {x : α} (h : xs[i]? = some x) : xs.take (i + 1) = xs.take i ++ [x] := by
  rw [List.take_add_one, h]
  rfl
def FstInv (H : Hp) (D : Addr) (sg : Sg) (i : Nat) (H' : Hp) : Prop := Same H H' ∧ H' D = some (.lst ((sg.take i).map fun s => V.str s.1))
section
variable {K : PySem.W.Frag} {σ : L2.St} {H : Hp} {Q : VK} {p : Addr} {rs : List Addr} {sg : Sg} {j1 j2 : Nat} {te : TE}
theorem yes_turn {σ : L2.St} {H : Hp} {F G : Hp → Prop} (h : F H) : tYes σ H fun b H3 => if b = true then F H3 else G H3 := by
  show (if true = true then F H else G H)
  rw [if_pos rfl]
  exact h
theorem fst_turn {D : Addr} {i : Nat} {x : V} {H' : Hp} (nD : H D = none) (pr : SgR K H rs sg) (h4 : sg.length ≤ 1000) (hw : ∀ x y, wipe (((wipe σ [j1, j2]).set j1 (some x)).set j2 (some y)) [j1, j2] = wipe σ [j1, j2])
    (hv : ∀ x y, (((wipe σ [j1, j2]).set j1 (some x)).set j2 (some y))[j1]? = some (some x)) (hx : (rs.map V.ref)[i]? = some x) (iv : FstInv H D sg i H') :
    gTup K 2 (gCons (gName j1) (gCons (gName j2) gNil)) x (wipe σ [j1, j2]) H' fun σ2 H2 => wipe σ2 [j1, j2] = wipe σ [j1, j2] ∧ tYes σ2 H2 fun b H3 =>
      if b = true then tVar j1 σ2 H3 fun y H4 => ∃ acc, H4 D = some (.lst acc) ∧ acc.length < sizeLine ∧ FstInv H D sg (i + 1) (upd H4 D (.lst (acc ++ [y]))) else FstInv H D sg (i + 1) H3 := by
  rw [List.getElem?_map] at hx
  cases e : rs[i]? with
  | none => rw [e] at hx; cases hx
  | some r =>
    rw [e] at hx
    obtain rfl : V.ref r = x := Option.some.inj hx
    obtain ⟨s, es, hr⟩ := paired_get pr e
    obtain ⟨sm, hd⟩ := iv
    refine ⟨r, _, rfl, TK.same sm _ _ hr, rfl, _, _, rfl, _, _, rfl, rfl, hw _ _, ?_⟩
    refine yes_turn ⟨_, hv _ _, _, hd, ?_, ?_, ?_⟩
    · rw [List.length_map, List.length_take]
      exact small1000 (by omega)
    · exact Same.mut nD sm
    · show upd H' D _ D = _
      rw [upd_same, take_snoc es, List.map_append]
      rfl
theorem rd_fstL {i : Nat} (hi : σ[i]? = some (some (.ref p))) (hS : SqL K H p (rs.map V.ref)) (pr : SgR K H rs sg) (h4 : sg.length ≤ 1000) (hw : ∀ x y, wipe (((wipe σ [j1, j2]).set j1 (some x)).set j2 (some y)) [j1, j2] = wipe σ [j1, j2])
    (hv : ∀ x y, (((wipe σ [j1, j2]).set j1 (some x)).set j2 (some y))[j1]? = some (some x)) (h : ∀ D H', H D = none → Same H H' → H' D = some (.lst ((sg.map (·.1)).map V.str)) → Q (.ref D) H') :
    tLc (iList K (tVar i)) (gTup K 2 (gCons (gName j1) (gCons (gName j2) gNil))) tYes (tVar j1) [j1, j2] σ H Q := by
  refine ⟨_, hi, p, rfl, ⟨_, hS⟩, fun D nD => lc_list (K := K) (xs := rs.map V.ref) (FstInv H D sg) ⟨Same.new nD, upd_same⟩ (fun i H' _ iv => iv.1.seq hS) (fun i x H' hx iv => fst_turn nD pr h4 hw hv hx iv) (fun H' iv => ?_)⟩
  obtain ⟨sm, hd⟩ := iv
  rw [List.length_map, paired_len pr, List.take_length] at hd
  exact h D H' nD sm (by rw [List.map_map]; exact hd)
theorem rd_fstT {i : Nat} (hi : σ[i]? = some (some (.ref p))) (hS : SqT K H p (rs.map V.ref)) (pr : SgR K H rs sg) (h4 : sg.length ≤ 1000) (hw : ∀ x y, wipe (((wipe σ [j1, j2]).set j1 (some x)).set j2 (some y)) [j1, j2] = wipe σ [j1, j2])
    (hv : ∀ x y, (((wipe σ [j1, j2]).set j1 (some x)).set j2 (some y))[j1]? = some (some x)) (h : ∀ D H', H D = none → Same H H' → H' D = some (.lst ((sg.map (·.1)).map V.str)) → Q (.ref D) H') :
    tLc (iTup K (tVar i)) (gTup K 2 (gCons (gName j1) (gCons (gName j2) gNil))) tYes (tVar j1) [j1, j2] σ H Q := by
  refine ⟨_, hi, p, rfl, ⟨_, hS⟩, fun D nD => lc_tup (K := K) (xs := rs.map V.ref) (FstInv H D sg) ⟨Same.new nD, upd_same⟩ (fun i H' _ iv => TK.same iv.1 _ _ hS) (fun i x H' hx iv => fst_turn nD pr h4 hw hv hx iv) (fun H' iv => ?_)⟩
  obtain ⟨sm, hd⟩ := iv
  rw [List.length_map, paired_len pr, List.take_length] at hd
  exact h D H' nD sm (by rw [List.map_map]; exact hd)
end
/-- many signs are made -/
def spSigns (K : PySem.W.Frag) : Sp := fun vs H Q _ => ∃ (a n : Addr) (many m : Int), vs = [.ref a, .int many] ∧ StA H a n m ∧ m < 800000 ∧ 1 ≤ many ∧ many ≤ 4 ∧
  ∀ (p : Addr) (sg : Sg) (H' : Hp), SgAt K H' p sg → GSg sg → Fr a H H' → StA H' a n (m + 50) → Q (.ref p) H'
/-- the stream of a script's numbers -/
def InR (ns : List Int) : Prop := ∀ x ∈ ns, 0 ≤ x ∧ x < 1009
theorem InR.snoc {ns : List Int} {x : Int} (h : InR ns) (h0 : 0 ≤ x) (h1 : x < 1009) : InR (ns ++ [x]) := fun y hy => by
  rcases List.mem_append.mp hy with h' | h'
  · exact h y h'
  · rw [List.mem_singleton] at h'
    rw [h']
    exact ⟨h0, h1⟩
def spStream (K : PySem.W.Frag) : Sp := fun vs H Q _ => ∃ (a : Addr) (zs : List Int), vs = [.ref a] ∧ SqL K H a (zs.map V.int) ∧ zs.length ≤ 63 ∧
  ∀ (p : Addr) (ns : List Int) (H' : Hp), H p = none → Same H H' → H' p = some (.lst (ns.map V.int)) → ns ≠ [] → ns.length ≤ 4000 → InR ns → Q (.ref p) H'
theorem mod_in (x : Int) : 0 ≤ x % 1009 ∧ x % 1009 < 1009 := ⟨Int.emod_nonneg _ (by decide), Int.emod_lt_of_pos _ (by decide)⟩
/-! ### tests whose answer is known -/
def TV (tc : TT) (σ : L2.St) (H : Hp) (b : Bool) : Prop := ∀ Q : Bool → Hp → Prop, Q b H → tc σ H Q
section
variable {t u : TT} {σ : L2.St} {H : Hp} {a b : Bool}
theorem TV.and (h : TV t σ H a) (k : TV u σ H b) : TV (tAnd t u) σ H (a && b) := fun Q q => h _ (by
  cases a with
  | false => rw [if_neg Bool.false_ne_true]; exact q
  | true => rw [if_pos rfl]; exact k Q q)
theorem TV.or (h : TV t σ H a) (k : TV u σ H b) : TV (tOr t u) σ H (a || b) := fun Q q => h _ (by
  cases a with
  | true => rw [if_pos rfl]; exact q
  | false => rw [if_neg Bool.false_ne_true]; exact k Q q)
theorem TV.not (h : TV t σ H a) : TV (tNot t) σ H (!a) := fun Q q => h _ q
theorem TV.ifs {T U : TS} {D : Ends} (h : TV t σ H b) (ht : b = true → T D σ H) (hu : b = false → U D σ H) : tIfS t T U D σ H := h _ (by
  cases b with
  | true => rw [if_pos rfl]; exact ht rfl
  | false => rw [if_neg Bool.false_ne_true]; exact hu rfl)
theorem TV.ite {F G : Hp → Prop} (h : TV t σ H b) (ht : b = true → F H) (hu : b = false → G H) : t σ H fun b H3 => if b = true then F H3 else G H3 := h _ (by
  cases b with
  | true => rw [if_pos rfl]; exact ht rfl
  | false => rw [if_neg Bool.false_ne_true]; exact hu rfl)
end
/-! ### terms over signs -/
def Wf (sg : Sg) (nms : List Str) : Tr → Prop
  | .nm x => x ∈ nms
  | .c0 s => (s, 0) ∈ sg
  | .c1 s t => (s, 1) ∈ sg ∧ Wf sg nms t
  | .c2 s t u => (s, 2) ∈ sg ∧ Wf sg nms t ∧ Wf sg nms u
theorem mem_ar {sg : Sg} {s : Str × Int} {k : Int} (h : s ∈ sg) (e : s.2 = k) : (s.1, k) ∈ sg := by
  subst e
  exact h
theorem mk_none {P : Program} {w : World} {K : PySem.W.Frag} {mg : Str → Option Value} {base : Heap} {x : Str} {st : Stmt} {f : Addr} {fd : FuncData} {ps : List Str} {k : Nat} {sp : Sp} (F : FnP K x st f fd) (hm : mg x = some (.ref f))
    (hb : ∀ (kV doc pm : Value) (an : Option Addr) (cdv ct : Value) (us : List Value), us.length = ps.length → bindArgs (PySem.W.fnOf x x (defArgs st) (defBody st) (defScope st) .none kV doc pm an cdv ct) ⟨us, []⟩ = pure (ps.zip us))
    (h : ∀ vs H Q E, ¬ sp vs H Q E) : Cal P w K mg base k x sp [] :=
  ⟨f, fd, ps, [], ⟨fun vs H Q E q => absurd q (h vs H Q E), fun A outer s H args us vs Q E _ _ _ _ q => absurd q (h vs H Q E)⟩, hm, F.kp, F.bindsN hb, .nil⟩
/-- a term of at most room signs and names is made -/
def spTerm (K : PySem.W.Frag) (lvl : Nat) : Sp := fun vs H Q _ => ∃ (a n g l : Addr) (sg : Sg) (nms : List Str) (room m : Int), vs = [.ref a, .ref g, .ref l, .int room] ∧ StA H a n m ∧ m + 3 * room < 700000 ∧ SgAt K H g sg ∧ GSg sg ∧
  SqL K H l (nms.map V.str) ∧ l ≠ a ∧ nms.length ≤ 1000 ∧ 1 ≤ room ∧ room.toNat ≤ lvl ∧
  ∀ (v : V) (t : Tr) (H' : Hp), TrAt K H' t v → Wf sg nms t → t.size ≤ room.toNat → Fr a H H' → StA H' a n (m + 3 * room) → Q v H'
/-- some of the pairs are taken over into the new list at D -/
def PickInv (K : PySem.W.Frag) (H : Hp) (D : Addr) (sg : Sg) (C Z : Str × Int → Prop) (i : Nat) (H' : Hp) : Prop :=
  Same H H' ∧ ∃ (rs : List Addr) (sg' : Sg), H' D = some (.lst (rs.map V.ref)) ∧ SgR K H' rs sg' ∧ sg'.length ≤ i ∧ (∀ s ∈ sg', s ∈ sg ∧ C s) ∧ (∀ s ∈ sg.take i, Z s → sg' ≠ [])
section
variable {K : PySem.W.Frag} {σ : L2.St} {H : Hp} {Q : VK} {p : Addr} {rs : List Addr} {sg : Sg} {j : Nat} {te : TE} {tt : TT} {C Z : Str × Int → Prop}
/-- [one for one in signs if ..]: of each pair the test tells b; it is taken over if b; C is what is known then -/
theorem rd_pick {i : Nat} (hi : σ[i]? = some (some (.ref p))) (hS : SqT K H p (rs.map V.ref)) (pr : SgR K H rs sg) (h4 : sg.length ≤ 1000) (hw : ∀ x, wipe ((wipe σ [j]).set j (some x)) [j] = wipe σ [j]) (hv : ∀ x, ((wipe σ [j]).set j (some x))[j]? = some (some x))
    (htt : ∀ (r : Addr) (s : Str × Int) (H' : Hp), SqT K H' r [.str s.1, .int s.2] → s ∈ sg → ∃ b, TV tt ((wipe σ [j]).set j (some (.ref r))) H' b ∧ (b = true → C s) ∧ (b = false → ¬ Z s))
    (h : ∀ D H' rs' sg', H D = none → Same H H' → H' D = some (.lst (rs'.map V.ref)) → SgR K H' rs' sg' → sg'.length ≤ sg.length → (∀ s ∈ sg', s ∈ sg ∧ C s) → (∀ s ∈ sg, Z s → sg' ≠ []) → Q (.ref D) H') :
    tLc (iTup K (tVar i)) (gName j) tt (tVar j) [j] σ H Q := by
  refine ⟨_, hi, p, rfl, ⟨_, hS⟩, fun D nD => lc_tup (K := K) (xs := rs.map V.ref) (PickInv K H D sg C Z)
    ⟨Same.new nD, [], [], upd_same, .nil, Nat.le_refl _, (fun _ h => absurd h List.not_mem_nil), (fun s h => by rw [List.take_zero] at h; exact absurd h List.not_mem_nil)⟩ (fun i H' _ iv => TK.same iv.1 _ _ hS) (fun i x H' hx iv => ?_) (fun H' iv => ?_)⟩
  · rw [List.getElem?_map] at hx
    cases e : rs[i]? with
    | none => rw [e] at hx; cases hx
    | some r =>
      rw [e] at hx
      obtain rfl : V.ref r = x := Option.some.inj hx
      obtain ⟨s, es, hr⟩ := paired_get pr e
      obtain ⟨sm, rs', sg', hd, pr', hl, hc, hz⟩ := iv
      have hil : i < sg.length := (List.getElem?_eq_some_iff.mp es).1
      have hs : s ∈ sg := List.mem_of_getElem? es
      have hr' : SqT K H' r [.str s.1, .int s.2] := TK.same sm _ _ hr
      obtain ⟨b, tv, h1, h2⟩ := htt r s H' hr' hs
      refine ⟨hw _, tv.ite (fun e => ?_) (fun e => ?_)⟩
      · have hlen : (rs'.map V.ref).length < sizeLine := by rw [List.length_map, paired_len pr']; exact small1000 (by omega)
        refine ⟨_, hv _, _, hd, hlen, Same.mut nD sm, rs' ++ [r], sg' ++ [s], by rw [List.map_append]; exact upd_same, ?_, by rw [List.length_append, List.length_singleton]; omega, fun t ht => ?_, fun t _ _ => by simp⟩
        · exact SgR.keep (TK.put hd) (paired_app pr' (.cons hr' .nil))
        · rcases List.mem_append.mp ht with q | q
          · exact hc t q
          · rw [List.mem_singleton] at q
            subst q
            exact ⟨hs, h1 e⟩
      · refine ⟨sm, rs', sg', hd, pr', by omega, hc, fun t ht hC => ?_⟩
        rw [take_snoc es] at ht
        rcases List.mem_append.mp ht with q | q
        · exact hz t q hC
        · rw [List.mem_singleton] at q
          subst q
          exact absurd hC (h2 e)
  · obtain ⟨sm, rs', sg', hd, pr', hl, hc, hz⟩ := iv
    rw [List.length_map, paired_len pr] at hl hz
    rw [List.take_length] at hz
    exact h D H' rs' sg' nD sm hd pr' hl hc hz
end
end Pg

set_option Elab.async false
set_option linter.all false
set_option maxRecDepth 100000
set_option maxHeartbeats 4000000
namespace K01
open PySem PySem.Spec PyProof.Rows L2 Pg
def top (i : Nat) : Stmt := PySem.Challenge.pw_pergola_k01_order_of_trees.main.body.getD i (.Pass ⟨0, 0, 0, 0⟩)
structure Zs (mg : Str → Option Value) : Prop where
  len : mg "len" = none
  abs : mg "abs" = none
  int : mg "int" = none
  max : mg "max" = none
  sum : mg "sum" = none
  tuple : mg "tuple" = none
  list : mg "list" = none
  isinstance : mg "isinstance" = none
  repr : mg "repr" = none
  range : mg "range" = none
  reversed : mg "reversed" = none
  enumerate : mg "enumerate" = none
section
variable {P : Program} {w : World} {K : PySem.W.Frag} {mg : Str → Option Value} {base : Heap} {f : Addr} {fd : FuncData}
abbrev s_next : Stmt := top 8
abbrev N_next : List Str := ["state", "many", "turn"]
abbrev P_next : List Str := ["state", "many"]
theorem sc_next : FnScope N_next P_next (defScope s_next) := ⟨rfl, rfl, rfl, by decide +kernel, rfl, by decide +kernel, by decide +kernel⟩

theorem ok_next (F : FnP K "_law_next" s_next f fd) (hm : mg "_law_next" = some (.ref f)) (Z : Zs mg) : Cal P w K mg base 1 "_law_next" spNext [] := by
  refine mk_cal F hm sc_next (fun _ _ _ _ _ _ us hl => match us, hl with | [_, _], _ => rfl) (fun vs H Q E h => ?_) (fun cdv A outer s H vs Q E hr h => ?_)
  · obtain ⟨a, n, many, m, rfl, _⟩ := h
    rfl
  obtain ⟨a, n, many, m, rfl, hmany, st, hlt, q⟩ := h
  refine ⟨_, (pss_cons (ps_asg (pe_op op_add (pe_ix ix_list (pv 0) pe_int (fun _ _ => rfl)) pe_int) (pg_sub (pv 0) pe_int set_list))
      (pss_cons (ps_set (i := 2) sc_next.nd rfl (by first | exact Or.inl rfl | exact Or.inr rfl) (pe_op op_fdiv (pe_ix ix_list (pv 0) pe_int (fun _ _ => rfl)) (pe_callB call_len_seq (by rfl) Z.len (by decide +kernel) (pa_cons (pe_ix ix_list (pv 0) pe_int (fun _ _ => rfl)) pa_nil))))
      (pss_one (ps_ret (pe_op op_mod (pe_callTy call_int1 (by rfl) Z.int (by decide +kernel) (pa_cons (pe_op op_add (pe_op op_add (pe_ix ix_list (pe_ix ix_list (pv 0) pe_int (fun _ _ => rfl)) (pe_op op_mod (pe_ix ix_list (pv 0) pe_int (fun _ _ => rfl)) (pe_callB call_len_seq (by rfl) Z.len (by decide +kernel) (pa_cons (pe_ix ix_list (pv 0) pe_int (fun _ _ => rfl)) pa_nil))) (fun _ _ => rfl)) (pe_op op_mul (pv 2) pe_int)) (pe_op op_mul (pe_op op_mul (pe_ix ix_list (pv 0) pe_int (fun _ _ => rfl)) (pv 2)) pe_int)) pa_nil)) (pv 1)))))), ?_⟩
  obtain ⟨ns, c, h1, h2, h3, h4, h5, h6, h7, h8⟩ := st.ex
  have hl : (ns.map V.int).length = ns.length := List.length_map _
  have hp : 0 < ns.length := List.length_pos_iff.mpr h4
  have z1 : upd H a (.lst (([V.ref n, V.int c]).set 1 (V.int (c + 1)))) a = some (.lst [V.ref n, V.int (c + 1)]) := upd_same
  have z2 : upd H a (.lst (([V.ref n, V.int c]).set 1 (V.int (c + 1)))) n = some (.lst (ns.map V.int)) := by rw [upd_ne h3]; exact h2
  refine ⟨_, rfl, a, _, 1, _, rfl, rfl, SqL.mk h1, rfl, _, _, rfl, rfl, _, rfl, a, _, 1, 1, rfl, rfl, h1, rfl, ?_⟩
  refine ⟨_, rfl, a, _, 1, _, rfl, rfl, SqL.mk z1, rfl, _, rfl, a, _, 0, _, rfl, rfl, SqL.mk z1, rfl, n, _, rfl, .inl (SqL.mk z2), _, _, rfl, rfl, ⟨by rw [hl]; omega, by rw [hl]; omega⟩, ?_⟩
  have hk : ((c + 1) % (((ns.map V.int).length : Nat) : Int)).toNat < ns.length := by
    rw [hl]
    have := Int.emod_lt_of_pos (c + 1) (show (0 : Int) < (ns.length : Int) by omega)
    have := Int.emod_nonneg (c + 1) (show (ns.length : Int) ≠ 0 by omega)
    omega
  have hnn : 0 ≤ (c + 1) % (((ns.map V.int).length : Nat) : Int) := Int.emod_nonneg _ (by rw [hl]; omega)
  have hat : atI (ns.map V.int) ((c + 1) % (((ns.map V.int).length : Nat) : Int)) = some (.int (ns[((c + 1) % (((ns.map V.int).length : Nat) : Int)).toNat]'hk)) :=
    at_of (Int.toNat_of_nonneg hnn).symm (by rw [List.getElem?_map, List.getElem?_eq_getElem hk]; rfl)
  have hx := h6 _ (List.getElem_mem hk)
  have hd1 : 0 ≤ (c + 1) / (((ns.map V.int).length : Nat) : Int) := Int.ediv_nonneg (by omega) (by omega)
  have hd2 : (c + 1) / (((ns.map V.int).length : Nat) : Int) ≤ c + 1 := Int.ediv_le_self _ (by omega)
  refine ⟨_, rfl, a, _, 0, _, rfl, rfl, SqL.mk z1, rfl, _, rfl, a, _, 1, _, rfl, rfl, SqL.mk z1, rfl, _, rfl, a, _, 0, _, rfl, rfl, SqL.mk z1, rfl, n, _, rfl, .inl (SqL.mk z2), _, _, rfl, rfl, (by show (0 : Int) < _; rw [hl]; omega),
    n, _, _, _, rfl, rfl, SqL.mk z2, hat, ?_⟩
  refine ⟨_, rfl, _, _, rfl, rfl, .inr ⟨by decide, by decide⟩, _, _, rfl, rfl, _, rfl, a, _, 1, _, rfl, rfl, SqL.mk z1, rfl, _, rfl, _, _, rfl, rfl, .inl ⟨by omega, by omega⟩, _, _, rfl, rfl, .inr ⟨by decide, by decide⟩, _, _, rfl, rfl, .inl ⟨_, rfl, ?_⟩⟩
  refine ⟨_, rfl, _, _, rfl, rfl, (by show (0 : Int) < many; omega), ?_⟩
  refine q _ _ (Int.emod_nonneg _ (by omega)) (Int.emod_lt_of_pos _ (by omega)) Fr.own ⟨ns, c + 1, z1, z2, h3, h4, h5, h6, by omega, by omega⟩
abbrev s_word : Stmt := top 9
abbrev N_word : List Str := ["state", "taken", "word", "k"]
abbrev P_word : List Str := ["state", "taken"]
theorem sc_word : FnScope N_word P_word (defScope s_word) := ⟨rfl, rfl, rfl, by decide +kernel, rfl, by decide +kernel, by decide +kernel⟩

theorem cs_abyz : cs (PySem.Str.ofString "abyz") = [97, 98, 121, 122] := by decide +kernel
theorem cs_az : cs (PySem.Str.ofString "abcdefghijklmnopqrstuvwxyz") = (List.range 26).map (97 + ·) := by decide +kernel
theorem ok_word (F : FnP K "_law_word" s_word f fd) (hm : mg "_law_word" = some (.ref f)) (Z : Zs mg) (c_next : Cal P w K mg base 1 "_law_next" spNext []) : Cal P w K mg base 2 "_law_word" (spWord K) [] := by
  refine mk_cal F hm sc_word (fun _ _ _ _ _ _ us hl => match us, hl with | [_, _], _ => rfl) (fun vs H Q E h => ?_) (fun cdv A outer s H vs Q E hr h => ?_)
  · obtain ⟨a, n, l, ts, m, rfl, _⟩ := h
    rfl
  obtain ⟨a, n, l, ts, m, rfl, st, hlt, hl, hla, wd, h26, q⟩ := h
  refine ⟨_, (pss_cons (ps_set (i := 2) sc_word.nd rfl (by first | exact Or.inl rfl | exact Or.inr rfl) pe_str)
      (pss_cons (ps_for PassesOwn.never rfl (pi_range1 (by rfl) Z.range (pa_cons (pe_ix ix_list (pe_lst (pa_cons pe_int (pa_cons pe_int (pa_cons (pe_op op_add pe_int (C8.pe_c c_next hr (by first | decide | omega) rfl (pa_cons (pv 0) (pa_cons pe_int pa_nil)))) pa_nil)))) (C8.pe_c c_next hr (by first | decide | omega) rfl (pa_cons (pv 0) (pa_cons pe_int pa_nil))) (fun _ _ => rfl)) pa_nil)) (pg_name (i := 3) sc_word.nd rfl (by first | exact Or.inl rfl | exact Or.inr rfl)) (pss_one (ps_set (i := 2) sc_word.nd rfl (by first | exact Or.inl rfl | exact Or.inr rfl) (pe_op op_add_str (pv 2) (pe_ix ix_str pe_str (C8.pe_c c_next hr (by first | decide | omega) rfl (pa_cons (pv 0) (pa_cons pe_int pa_nil))) (fun _ _ => rfl))))))
      (pss_cons (ps_if (pt_cmpR op_in_seq (pv 2) (pv 1) (by rfl)) (pss_one (ps_ret (pe_op op_add_str pe_str (pe_ix ix_str pe_str (pe_callB call_len_seq (by rfl) Z.len (by decide +kernel) (pa_cons (pv 1) pa_nil)) (fun _ _ => rfl))))) pss_nil)
      (pss_one (ps_ret (pv 2)))))), ?_⟩
  refine ⟨_, rfl, a, n, 8, m, rfl, by decide, st, by omega, fun r H1 r0 r8 f1 st1 => ?_⟩
  refine ⟨_, _, rfl, rfl, (by show 3 ≤ sizeLine; decide), fun p np => ?_⟩
  refine ⟨_, rfl, a, n, 3, m + 1, rfl, by decide, st1.new np, by omega, fun r2 H2 t0 t3 f2 st2 => ?_⟩
  obtain ⟨j, hj, j1, j8⟩ : ∃ j : Int, atI [V.int 1, V.int 2, V.int (1 + r)] r2 = some (.int j) ∧ 1 ≤ j ∧ j ≤ 8 := by
    have : r2 = 0 ∨ r2 = 1 ∨ r2 = 2 := by omega
    rcases this with rfl | rfl | rfl
    · exact ⟨1, rfl, by omega, by omega⟩
    · exact ⟨2, rfl, by omega, by omega⟩
    · exact ⟨1 + r, rfl, by omega, by omega⟩
  refine ⟨p, _, r2, _, rfl, rfl, SqL.mk (f2 _ _ (st1.ne np).1 upd_same), hj, j, rfl, by omega, by omega, ?_⟩
  have F2 : Pg.Fr a H H2 := f1.trans ((Fr.new np).trans f2)
  refine for_range (lo := 0) (n := j.toNat) (fun i σ H' => ∃ (x : Str) (k : Option V), σ = [some (.ref a), some (.ref l), some (.str x), k] ∧ (cs x).length = i ∧ (∀ c ∈ cs x, c = 97 ∨ c = 98 ∨ c = 121 ∨ c = 122) ∧ Pg.Fr a H H' ∧ StA H' a n (m + 2 + i))
    ⟨PySem.Str.ofString "", none, rfl, by decide +kernel, by decide +kernel, F2, st2.mono (by omega)⟩ ?_ ?_
  · rintro i σ H' hi ⟨x, k, rfl, hx, hc, f3, st3⟩
    refine ⟨_, rfl, _, rfl, a, n, 4, _, rfl, by decide, st3, by omega, fun r3 H3 u0 u4 f4 st4 => ?_⟩
    obtain ⟨c, hat, hcc⟩ : ∃ c, atI (cs (PySem.Str.ofString "abyz")) r3 = some c ∧ (c = 97 ∨ c = 98 ∨ c = 121 ∨ c = 122) := by
      rw [cs_abyz]
      have : r3 = 0 ∨ r3 = 1 ∨ r3 = 2 ∨ r3 = 3 := by omega
      rcases this with rfl | rfl | rfl | rfl
      · exact ⟨97, rfl, by omega⟩
      · exact ⟨98, rfl, by omega⟩
      · exact ⟨121, rfl, by omega⟩
      · exact ⟨122, rfl, by omega⟩
    refine ⟨_, r3, c, rfl, rfl, by decide +kernel, hat, _, _, rfl, rfl, ?_, ?_⟩
    · have e1 : x.length ≤ 8 := by rw [cs_len]; omega
      have e2 : (⟨#[c]⟩ : Str).length = 1 := rfl
      rw [e2]
      exact Nat.le_trans (Nat.add_le_add_right e1 1) (by decide)
    refine ⟨x ++ ⟨#[c]⟩, _, rfl, ?_, ?_, f3.trans f4, st4.mono (by omega)⟩
    · rw [cs_app, List.length_append, hx, cs_one]; rfl
    · intro d hd
      rw [cs_app, cs_one] at hd
      rcases List.mem_append.mp hd with h | h
      · exact hc d h
      · rw [List.mem_singleton] at h
        rw [h]
        exact hcc
  · rintro σ H' ⟨x, k, rfl, hx, hc, f3, st3⟩
    have hl' : H' l = some (.lst (ts.map V.str)) := f3 _ _ hla hl
    refine ⟨_, rfl, _, rfl, l, _, rfl, .inl (SqL.mk hl'), rfl, flat_strs ts, _, rfl, ?_⟩
    rw [inV_strs]
    refine ite2 (fun hin => ?_) (fun hin => ?_)
    · refine ⟨_, rfl, l, _, rfl, .inl (SqL.mk hl'), _, _, 97 + ts.length, rfl, rfl, by decide +kernel, ?_, _, _, rfl, rfl, ?_, ?_⟩
      · show atI (cs (PySem.Str.ofString "abcdefghijklmnopqrstuvwxyz")) _ = _
        rw [cs_az, List.length_map]
        exact atI_nat (by rw [List.getElem?_map, List.getElem?_range h26]; rfl)
      · show (PySem.Str.ofString "c").length + 1 ≤ sizeLine
        decide +kernel
      · have ew : cs (PySem.Str.ofString "c" ++ ⟨#[97 + ts.length]⟩) = [99, 97 + ts.length] := by
          rw [cs_app, cs_one]
          have : cs (PySem.Str.ofString "c") = [99] := by decide +kernel
          rw [this]
          rfl
        exact q _ H' (wd.fresh ew) (.inr ⟨h26, ew⟩) f3 (st3.mono (by omega))
    · refine ⟨_, rfl, ?_⟩
      exact q x H' (fun z => hin (decide_eq_true z)) (.inl ⟨by omega, by omega, hc⟩) f3 (st3.mono (by omega))
abbrev s_signs : Stmt := top 10
abbrev N_signs : List Str := ["state", "many", "found", "k", "at", "word", "sign", "arity"]
abbrev P_signs : List Str := ["state", "many"]
theorem sc_signs : FnScope N_signs P_signs (defScope s_signs) := ⟨rfl, rfl, rfl, by decide +kernel, rfl, by decide +kernel, by decide +kernel⟩

/-- what stands behind k turns -/
structure SgInv (K : PySem.W.Frag) (a n fl : Addr) (H H' : Hp) (m : Int) (k : Nat) (rs : List Addr) (sg : Sg) : Prop where
  at_ : H' fl = some (.lst (rs.map V.ref))
  pr : SgR K H' rs sg
  ln : sg.length = k
  wd : Wds (sg.map (·.1))
  ar : ∀ s ∈ sg, 0 ≤ s.2 ∧ s.2 ≤ 2
  c0 : 0 < k → ∃ s ∈ sg, s.2 = 0
  ne : fl ≠ a ∧ fl ≠ n
  fr : Pg.Fr a H H'
  st : StA H' a n (m + 11 * k)
theorem ok_signs (F : FnP K "_law_signs" s_signs f fd) (hm : mg "_law_signs" = some (.ref f)) (Z : Zs mg) (c_next : Cal P w K mg base 1 "_law_next" spNext []) (c_word : Cal P w K mg base 2 "_law_word" (spWord K) []) : Cal P w K mg base 3 "_law_signs" (spSigns K) [] := by
  refine mk_cal F hm sc_signs (fun _ _ _ _ _ _ us hl => match us, hl with | [_, _], _ => rfl) (fun vs H Q E h => ?_) (fun cdv A outer s H vs Q E hr h => ?_)
  · obtain ⟨a, n, many, m, rfl, _⟩ := h
    rfl
  obtain ⟨a, n, many, m, rfl, st, hlt, h1, h4, q⟩ := h
  refine ⟨_, (pss_cons (ps_set (i := 2) sc_signs.nd rfl (by first | exact Or.inl rfl | exact Or.inr rfl) (pe_lst pa_nil))
      (pss_cons (ps_for PassesOwn.never rfl (pi_range1 (by rfl) Z.range (pa_cons (pv 1) pa_nil)) (pg_name (i := 3) sc_signs.nd rfl (by first | exact Or.inl rfl | exact Or.inr rfl)) (pss_cons (ps_set (i := 5) sc_signs.nd rfl (by first | exact Or.inl rfl | exact Or.inr rfl) (C8.pe_c c_word hr (by first | decide | omega) rfl (pa_cons (pv 0) (pa_cons (pe_lc (own := [("sign", 6), ("arity", 7)]) (g := (gTup K 2 (gCons (gName 6) (gCons (gName 7) gNil)))) (tt := tYes) (te := (tVar 6)) rfl sc_signs.nd (pi_list (pv 2)) (blkOk_by (N := N_signs) (sc := defScope s_signs) (by decide +kernel)) (fun _ _ _ _ _ => by exact (pg_tup rfl (pgs_cons (pg_name (i := 6) sc_signs.nd rfl (Or.inl rfl)) (pgs_cons (pg_name (i := 7) sc_signs.nd rfl (Or.inl rfl)) pgs_nil)))) (fun _ _ _ _ _ => by exact pts_nil) (fun _ _ _ _ _ => by exact (pv 6))) pa_nil))))
      (pss_one (ps_expr (pe_bm PySem.F.plainAttrs_list PySem.F.slot_list_append PySem.F.type_list_append mt_append (pv 2) (pa_cons (pe_tup (pa_cons (pv 5) (pa_cons (pe_ix ix_list (pe_lst (pa_cons pe_int (pa_cons (C8.pe_c c_next hr (by first | decide | omega) rfl (pa_cons (pv 0) (pa_cons pe_int pa_nil))) pa_nil))) (pe_callTy call_int1 (by rfl) Z.int (by decide +kernel) (pa_cons (pe_cmpR op_gt (pv 3) pe_int (nomark _)) pa_nil)) (fun _ _ => rfl)) pa_nil))) pa_nil))))))
      (pss_cons (ps_set (i := 4) sc_signs.nd rfl (by first | exact Or.inl rfl | exact Or.inr rfl) (C8.pe_c c_next hr (by first | decide | omega) rfl (pa_cons (pv 0) (pa_cons (pv 1) pa_nil))))
      (pss_one (ps_ret (pe_callTy call_tuple_of (by rfl) Z.tuple (by decide +kernel) (pa_cons (pe_op op_cat (pe_slice sl_list (pv 2) (po_some (pv 4)) po_none) (pe_slice sl_list (pv 2) po_none (po_some (pv 4)))) pa_nil))))))), ?_⟩
  refine ⟨by decide, fun fl nfl => ?_⟩
  refine ⟨_, rfl, many, rfl, by omega, by omega, ?_⟩
  refine for_range (lo := 0) (n := many.toNat) (fun i σ H' => ∃ (k w : Option V) (rs : List Addr) (sg : Sg), σ = [some (.ref a), some (.int many), some (.ref fl), k, none, w, none, none] ∧ SgInv K a n fl H H' m i rs sg)
    ⟨none, none, [], [], rfl, ⟨upd_same, .nil, rfl, Wds.nil, (fun _ h => absurd h List.not_mem_nil), (fun h => absurd h (Nat.lt_irrefl 0)), st.ne nfl, Fr.new nfl, (st.new nfl).mono (by omega)⟩⟩ ?_ ?_
  · rintro i σ H1 hi ⟨k, w0, rs, sg, rfl, iv⟩
    have hi4 : i < 4 := by omega
    refine ⟨_, rfl, rd_fstL (i := 2) rfl (SqL.mk iv.at_) iv.pr (by rw [iv.ln]; omega) (fun _ _ => rfl) (fun _ _ => rfl) (fun D H2 nD sm hD => ?_)⟩
    refine ⟨a, n, D, sg.map (·.1), m + 11 * i, rfl, iv.st.same sm, by omega, hD, (iv.st.ne nD).1, iv.wd, by rw [List.length_map, iv.ln]; omega, fun wd H3 w1 w2 f3 st3 => ?_⟩
    have hf3 : H3 fl = some (.lst (rs.map V.ref)) := f3 _ _ iv.ne.1 (sm _ _ iv.at_)
    refine ⟨_, rfl, .inl ⟨rfl, _, SqL.mk hf3⟩, _, rfl, _, rfl, a, n, 3, m + 11 * i + 10, rfl, by decide, st3, by omega, fun r H4 r0 r3 f4 st4 => ?_⟩
    have hf4 : H4 fl = some (.lst (rs.map V.ref)) := f4 _ _ iv.ne.1 hf3
    refine ⟨(by show 2 ≤ sizeLine; decide), fun p np => ?_⟩
    obtain ⟨ar, hat, ha0, ha2, hz⟩ : ∃ ar : Int, atI [V.int 0, V.int r] (if decide ((0 : Int) < 0 + (i : Int)) = true then 1 else 0) = some (.int ar) ∧ 0 ≤ ar ∧ ar ≤ 2 ∧ (i = 0 → ar = 0) := by
      by_cases h : i = 0
      · subst h
        exact ⟨0, rfl, by omega, by omega, fun _ => rfl⟩
      · have e : decide ((0 : Int) < 0 + (i : Int)) = true := decide_eq_true (by omega)
        rw [e]
        exact ⟨r, rfl, r0, by omega, fun z => absurd z h⟩
    refine ⟨_, rfl, _, _, rfl, rfl, .inr ⟨_, rfl, p, _, _, _, rfl, rfl, SqL.mk upd_same, hat, (by show 2 ≤ sizeLine; decide), fun t nt => ?_⟩⟩
    have nt4 : t ≠ fl := (ne_of_none (show upd H4 p _ fl = some (.lst (rs.map V.ref)) by rw [upd_ne (ne_of_none hf4 np)]; exact hf4) nt).symm
    have hf5 : (upd (upd H4 p (.lst [V.int 0, V.int r])) t (.tup [.str wd, .int ar])) fl = some (.lst (rs.map V.ref)) := by
      rw [upd_ne nt4.symm, upd_ne (ne_of_none hf4 np)]
      exact hf4
    have hlen : (rs.map V.ref).length = i := by rw [List.length_map, paired_len iv.pr, iv.ln]
    refine ⟨fl, _, _, rfl, rfl, hf5, by rw [hlen]; exact small1000 (by omega), ?_⟩
    have tk : TK K H1 (upd (upd (upd H4 p (.lst [V.int 0, V.int r])) t (.tup [.str wd, .int ar])) fl (.lst (rs.map V.ref ++ [V.ref t]))) :=
      (TK.same sm).trans (((iv.st.same sm).tk f3).trans ((st3.tk f4).trans ((TK.new np).trans ((TK.new nt).trans (TK.put hf5)))))
    refine ⟨some (.int (0 + (i : Int))), some (.str wd), rs ++ [t], sg ++ [(wd, ar)], rfl, ⟨?_, ?_, ?_, ?_, ?_, ?_, iv.ne, ?_, ?_⟩⟩
    · rw [List.map_append]; exact upd_same
    · exact paired_app (SgR.keep tk iv.pr) (.cons (SqT.mk (by rw [upd_ne nt4]; exact upd_same)) .nil)
    · rw [List.length_append, iv.ln]; rfl
    · rw [List.map_append]
      exact iv.wd.snoc w1 w2
    · intro s hs
      rcases List.mem_append.mp hs with h | h
      · exact iv.ar s h
      · rw [List.mem_singleton] at h
        subst h
        exact ⟨ha0, ha2⟩
    · intro _
      by_cases h : i = 0
      · exact ⟨(wd, ar), List.mem_append_right _ (List.mem_singleton.mpr rfl), hz h⟩
      · obtain ⟨s, h1, h2⟩ := iv.c0 (by omega)
        exact ⟨s, List.mem_append_left _ h1, h2⟩
    · have g1 : Pg.Fr a H H4 := iv.fr.trans ((Fr.of sm).trans (f3.trans f4))
      have g2 : Pg.Fr a H (upd (upd H4 p (.lst [V.int 0, V.int r])) t (.tup [.str wd, .int ar])) := g1.trans ((Fr.new np).trans (Fr.new nt))
      intro b o nb hb
      have hbf : b ≠ fl := ne_of_none hb nfl
      rw [upd_ne hbf]
      exact g2 b o nb hb
    · exact (((st4.new np).new nt).put iv.ne).mono (by omega)
  · rintro σ H1 ⟨k, w0, rs, sg, rfl, iv⟩
    have hm4 : ((many.toNat : Nat) : Int) = many := Int.toNat_of_nonneg (by omega)
    refine ⟨_, rfl, _, rfl, a, n, many, m + 11 * many, rfl, h1, by rw [← hm4]; exact iv.st, by omega, fun r H2 r0 r1 f2 st2 => ?_⟩
    obtain ⟨r', rfl⟩ := Int.eq_ofNat_of_zero_le r0
    have hf2 : H2 fl = some (.lst (rs.map V.ref)) := f2 _ _ iv.ne.1 iv.at_
    refine ⟨_, rfl, _, rfl, _, rfl, fl, _, rfl, SqL.mk hf2, fun p np => ?_⟩
    have hf3 := (show upd H2 p (.lst (cutV (rs.map V.ref) (some (r' : Int)) none)) fl = some (.lst (rs.map V.ref)) by rw [upd_ne (ne_of_none hf2 np)]; exact hf2)
    refine ⟨_, rfl, _, rfl, _, rfl, fl, _, rfl, SqL.mk hf3, fun p2 np2 => ?_⟩
    have hp := (show upd (upd H2 p (.lst (cutV (rs.map V.ref) (some (r' : Int)) none))) p2 (.lst (cutV (rs.map V.ref) none (some (r' : Int)))) p = some (.lst (cutV (rs.map V.ref) (some (r' : Int)) none)) by rw [upd_ne (ne_of_none upd_same np2)]; exact upd_same)
    refine ⟨p, p2, _, _, rfl, rfl, hp, upd_same, ?_, fun p3 np3 => ?_⟩
    · have hlen : (rs.map V.ref).length ≤ 4 := by rw [List.length_map, paired_len iv.pr, iv.ln]; omega
      have b1 := cutV_length (rs.map V.ref) (some (r' : Int)) none
      have b2 := cutV_length (rs.map V.ref) none (some (r' : Int))
      exact Nat.le_of_lt (small1000 (by omega))
    refine ⟨p3, _, rfl, .inl ⟨SqL.mk upd_same, fun t nt => ?_⟩⟩
    have f6 : Pg.Fr a H1 (upd (upd (upd (upd H2 p (.lst (cutV (rs.map V.ref) (some (r' : Int)) none))) p2 (.lst (cutV (rs.map V.ref) none (some (r' : Int))))) p3 (.lst (cutV (rs.map V.ref) (some (r' : Int)) none ++ cutV (rs.map V.ref) none (some (r' : Int))))) t (.tup (cutV (rs.map V.ref) (some (r' : Int)) none ++ cutV (rs.map V.ref) none (some (r' : Int))))) :=
      f2.trans ((Fr.new np).trans ((Fr.new np2).trans ((Fr.new np3).trans (Fr.new nt))))
    have e6 : cutV (rs.map V.ref) (some (r' : Int)) none ++ cutV (rs.map V.ref) none (some (r' : Int)) = (rs.drop r' ++ rs.take r').map V.ref := by rw [cutV_drop, cutV_take, ← List.map_drop, ← List.map_take, ← List.map_append]
    refine q t (sg.drop r' ++ sg.take r') _ ⟨rs.drop r' ++ rs.take r', SqT.mk (by rw [upd_same, e6]), ?_⟩ ?_ (iv.fr.trans f6) ?_
    · exact SgR.keep (iv.st.tk f6) (paired_app (paired_drop r' iv.pr) (paired_take r' iv.pr))
    · refine GSg.rot ⟨by rw [iv.ln]; omega, iv.wd.nd, iv.ar, iv.c0 (by omega), fun s hs => ?_⟩ r'
      obtain ⟨i, hi, e⟩ := List.getElem_of_mem hs
      exact ⟨i, iv.wd.wd i s.1 (by rw [List.getElem?_map, List.getElem?_eq_getElem hi, e]; rfl)⟩
    · exact ((((st2.new np).new np2).new np3).new nt).mono (by omega)
abbrev s_stream : Stmt := top 7
abbrev N_stream : List Str := ["script", "numbers", "cell", "rest", "k", "mixed"]
abbrev P_stream : List Str := ["script"]
theorem sc_stream : FnScope N_stream P_stream (defScope s_stream) := ⟨rfl, rfl, rfl, by decide +kernel, rfl, by decide +kernel, by decide +kernel⟩

theorem ok_stream (F : FnP K "_law_stream" s_stream f fd) (hm : mg "_law_stream" = some (.ref f)) (Z : Zs mg) : Cal P w K mg base 1 "_law_stream" (spStream K) [] := by
  refine mk_cal F hm sc_stream (fun _ _ _ _ _ _ us hl => match us, hl with | [_], _ => rfl) (fun vs H Q E h => ?_) (fun cdv A outer s H vs Q E hr h => ?_)
  · obtain ⟨a, zs, rfl, _⟩ := h
    rfl
  obtain ⟨a, zs, rfl, hS, h63, q⟩ := h
  refine ⟨_, (pss_cons (ps_set (i := 1) sc_stream.nd rfl (by first | exact Or.inl rfl | exact Or.inr rfl) (pe_lst pa_nil))
      (pss_cons (ps_for PassesOwn.never rfl (pi_list (pe_slice sl_list (pv 0) po_none (po_some pe_int))) (pg_name (i := 2) sc_stream.nd rfl (by first | exact Or.inl rfl | exact Or.inr rfl)) (pss_cons (ps_set (i := 3) sc_stream.nd rfl (by first | exact Or.inl rfl | exact Or.inr rfl) (pe_callB call_abs (by rfl) Z.abs (by decide +kernel) (pa_cons (pe_callTy call_int1 (by rfl) Z.int (by decide +kernel) (pa_cons (pv 2) pa_nil)) pa_nil)))
      (pss_one (ps_if (pt_cmpR op_ge (pv 3) (pe_op op_pow pe_int pe_int) (nomark _)) (pss_one (ps_for PassesOwn.never rfl (pi_range1 (by rfl) Z.range (pa_cons pe_int pa_nil)) (pg_name (i := 4) sc_stream.nd rfl (by first | exact Or.inl rfl | exact Or.inr rfl)) (pss_cons (ps_expr (pe_bm PySem.F.plainAttrs_list PySem.F.slot_list_append PySem.F.type_list_append mt_append (pv 1) (pa_cons (pe_op op_mod (pe_callTy call_int1 (by rfl) Z.int (by decide +kernel) (pa_cons (pv 3) pa_nil)) pe_int) pa_nil)))
      (pss_cons (ps_set (i := 3) sc_stream.nd rfl (by first | exact Or.inl rfl | exact Or.inr rfl) (pe_op op_fdiv (pv 3) pe_int))
      (pss_one (ps_if (pt_cmpR op_eq (pv 3) pe_int (nomark _)) (pss_one ps_break) pss_nil)))))) (pss_cons (ps_set (i := 5) sc_stream.nd rfl (by first | exact Or.inl rfl | exact Or.inr rfl) (pe_op op_mod (pe_callTy call_int1 (by rfl) Z.int (by decide +kernel) (pa_cons (pv 3) pa_nil)) pe_int))
      (pss_one (ps_for PassesOwn.never rfl (pi_range1 (by rfl) Z.range (pa_cons pe_int pa_nil)) (pg_name (i := 4) sc_stream.nd rfl (by first | exact Or.inl rfl | exact Or.inr rfl)) (pss_cons (ps_set (i := 5) sc_stream.nd rfl (by first | exact Or.inl rfl | exact Or.inr rfl) (pe_op op_mod (pe_callTy call_int1 (by rfl) Z.int (by decide +kernel) (pa_cons (pe_op op_add (pe_op op_add (pe_op op_mul (pv 5) pe_int) (pe_op op_mul pe_int (pv 4))) pe_int) pa_nil)) pe_int))
      (pss_one (ps_expr (pe_bm PySem.F.plainAttrs_list PySem.F.slot_list_append PySem.F.type_list_append mt_append (pv 1) (pa_cons (pe_op op_mod (pe_op op_mod (pe_callTy call_int1 (by rfl) Z.int (by decide +kernel) (pa_cons (pe_op op_add (pe_op op_mul (pv 5) pe_int) (pv 4)) pa_nil)) pe_int) pe_int) pa_nil))))))))))))
      (pss_cons (ps_if (pt_cmpR op_eq (pe_callB call_len_seq (by rfl) Z.len (by decide +kernel) (pa_cons (pv 1) pa_nil)) pe_int (nomark _)) (pss_one (ps_expr (pe_bm PySem.F.plainAttrs_list PySem.F.slot_list_append PySem.F.type_list_append mt_append (pv 1) (pa_cons pe_int pa_nil)))) pss_nil)
      (pss_one (ps_ret (pv 1)))))), ?_⟩
  refine ⟨by decide, fun fl nfl => ?_⟩
  have hS1 : SqL K (upd H fl (.lst [])) a (zs.map V.int) := (Same.new nfl).seq hS
  refine ⟨_, rfl, 63, rfl, a, _, rfl, hS1, fun g ng => ?_⟩
  have eg : cutV (zs.map V.int) none (some 63) = zs.map V.int := by
    show cutV (zs.map V.int) none (some ((63 : Nat) : Int)) = _
    rw [cutV_take, List.take_of_length_le (by rw [List.length_map]; exact h63)]
  rw [eg]
  have nfg : g ≠ fl := (ne_of_none upd_same ng).symm
  refine ⟨g, rfl, ⟨_, SqL.mk upd_same⟩, for_list (K := K) (xs := zs.map V.int) (fun i σ H' => ∃ (v1 v2 v3 v4 : Option V) (ns : List Int), σ = [some (.ref a), some (.ref fl), v1, v2, v3, v4] ∧ H' fl = some (.lst (ns.map V.int)) ∧ ns.length ≤ 60 * i ∧ InR ns ∧ Same H H' ∧ H' g = some (.lst (zs.map V.int)))
    ⟨none, none, none, none, [], rfl, by rw [upd_ne nfg.symm]; exact upd_same, by simp, (fun _ h => absurd h List.not_mem_nil), Same.mut (same_free (Same.new nfl) ng) (Same.new nfl), upd_same⟩ (fun i σ H' _ ⟨_, _, _, _, _, _, _, _, _, _, hg⟩ => SqL.mk hg) ?_ ?_⟩
  · rintro i x σ H1 hx ⟨v1, v2, v3, v4, ns, rfl, hf, hl, hn, sm, hg⟩
    obtain ⟨z, hz, rfl⟩ : ∃ z, zs[i]? = some z ∧ V.int z = x := by
      rw [List.getElem?_map] at hx
      cases e : zs[i]? with
      | none => rw [e] at hx; cases hx
      | some z => rw [e] at hx; exact ⟨z, rfl, Option.some.inj hx⟩
    have hi : i < zs.length := (List.getElem?_eq_some_iff.mp hz).1
    refine ⟨_, rfl, .inl ⟨_, rfl, _, rfl, ?_⟩⟩
    have hr0 : 0 ≤ (if z < 0 then -z else z) := by split <;> omega
    generalize (if z < 0 then -z else z) = rs at hr0 ⊢
    refine ⟨_, rfl, _, _, rfl, rfl, ⟨by decide, by decide, by decide⟩, _, _, rfl, rfl, _, rfl, ?_⟩
    refine ite2 (fun _ => ?_) (fun _ => ?_)
    · refine ⟨60, rfl, by decide, by decide, for_range (lo := 0) (n := 60) (fun j σ H' => ∃ (v4 v5 : Option V) (rs : Int) (ns : List Int), σ = [some (.ref a), some (.ref fl), some (.int z), some (.int rs), v4, v5] ∧ 0 ≤ rs ∧ H' fl = some (.lst (ns.map V.int)) ∧ ns.length ≤ 60 * i + j ∧ InR ns ∧ Same H H' ∧ H' g = some (.lst (zs.map V.int)))
        ⟨_, _, rs, ns, rfl, hr0, hf, by omega, hn, sm, hg⟩ ?_ ?_⟩
      · rintro j σ H2 hj ⟨u4, u5, rs, ns, rfl, hr0, hf, hl, hn, sm, hg⟩
        have hsz : (ns.map V.int).length < sizeLine := by rw [List.length_map]; exact Nat.lt_of_le_of_lt hl (Nat.lt_of_lt_of_le (show 60 * i + j < 4000 by omega) (by decide))
        refine ⟨_, rfl, .inl ⟨rfl, _, SqL.mk hf⟩, _, rfl, .inl ⟨_, rfl, _, _, rfl, rfl, (by show (0 : Int) < 1009; decide), fl, _, _, rfl, rfl, hf, hsz, ?_⟩⟩
        have hf2 : (upd H2 fl (.lst (ns.map V.int ++ [V.int (rs % 1009)]))) fl = some (.lst ((ns ++ [rs % 1009]).map V.int)) := by rw [List.map_append]; exact upd_same
        have hl2 : (ns ++ [rs % 1009]).length ≤ 60 * i + (j + 1) := by rw [List.length_append, List.length_singleton]; omega
        have sm2 : Same H (upd H2 fl (.lst (ns.map V.int ++ [V.int (rs % 1009)]))) := Same.mut nfl sm
        have hg2 : (upd H2 fl (.lst (ns.map V.int ++ [V.int (rs % 1009)]))) g = some (.lst (zs.map V.int)) := by rw [upd_ne nfg]; exact hg
        have hn2 : InR (ns ++ [rs % 1009]) := hn.snoc (mod_in rs).1 (mod_in rs).2
        refine ⟨_, rfl, _, _, rfl, rfl, ⟨by decide, by decide⟩, ?_⟩
        refine ⟨_, rfl, rfl, _, rfl, ?_⟩
        refine ite2 (fun _ => ?_) (fun _ => ?_)
        · exact ⟨_, _, _, _, ns ++ [rs % 1009], rfl, hf2, by omega, hn2, sm2, hg2⟩
        · exact ⟨_, _, _, ns ++ [rs % 1009], rfl, Int.ediv_nonneg hr0 (by decide), hf2, hl2, hn2, sm2, hg2⟩
      · rintro σ H2 ⟨u4, u5, rs, ns, rfl, hr0, hf, hl, hn, sm, hg⟩
        exact ⟨_, _, _, _, ns, rfl, hf, by omega, hn, sm, hg⟩
    · refine ⟨_, rfl, .inl ⟨_, rfl, _, _, rfl, rfl, (by show (0 : Int) < 2147483647; decide), ?_⟩⟩
      refine ⟨10, rfl, by decide, by decide, for_range (lo := 0) (n := 10) (fun j σ H' => ∃ (v4 : Option V) (mx : Int) (ns : List Int), σ = [some (.ref a), some (.ref fl), some (.int z), some (.int rs), v4, some (.int mx)] ∧ H' fl = some (.lst (ns.map V.int)) ∧ ns.length ≤ 60 * i + j ∧ InR ns ∧ Same H H' ∧ H' g = some (.lst (zs.map V.int)))
        ⟨_, _, ns, rfl, hf, by omega, hn, sm, hg⟩ ?_ ?_⟩
      · rintro j σ H2 hj ⟨u4, mx, ns, rfl, hf, hl, hn, sm, hg⟩
        refine ⟨_, rfl, _, _, rfl, rfl, .inr ⟨by decide, by decide⟩, _, rfl, _, _, rfl, rfl, .inl ⟨by decide, by decide⟩, _, _, rfl, rfl, _, _, rfl, rfl, .inl ⟨_, rfl, _, _, rfl, rfl, (by show (0 : Int) < 2147483647; decide), ?_⟩⟩
        have hsz : (ns.map V.int).length < sizeLine := by rw [List.length_map]; exact Nat.lt_of_le_of_lt hl (Nat.lt_of_lt_of_le (show 60 * i + j < 4000 by omega) (by decide))
        refine ⟨_, rfl, .inl ⟨rfl, _, SqL.mk hf⟩, _, rfl, _, _, rfl, rfl, .inr ⟨by decide, by decide⟩, _, rfl, _, _, rfl, rfl, .inl ⟨_, rfl, _, _, rfl, rfl, (by show (0 : Int) < 2147483629; decide), _, _, rfl, rfl, (by show (0 : Int) < 1009; decide), fl, _, _, rfl, rfl, hf, hsz, ?_⟩⟩
        refine ⟨_, _, ns ++ [_], rfl, by rw [List.map_append]; exact upd_same, by rw [List.length_append, List.length_singleton]; omega, hn.snoc (mod_in _).1 (mod_in _).2, Same.mut nfl sm, by rw [upd_ne nfg]; exact hg⟩
      · rintro σ H2 ⟨u4, mx, ns, rfl, hf, hl, hn, sm, hg⟩
        exact ⟨_, _, _, _, ns, rfl, hf, by omega, hn, sm, hg⟩
  · rintro σ H1 ⟨v1, v2, v3, v4, ns, rfl, hf, hl, hn, sm, hg⟩
    rw [List.length_map] at hl
    refine ⟨_, rfl, fl, _, rfl, .inl (SqL.mk hf), rfl, _, rfl, ?_⟩
    refine ite2 (fun he => ?_) (fun he => ?_)
    · have hsz : (ns.map V.int).length < sizeLine := by rw [List.length_map]; exact Nat.lt_of_le_of_lt hl (Nat.lt_of_lt_of_le (show 60 * zs.length < 4000 by omega) (by decide))
      refine ⟨_, rfl, .inl ⟨rfl, _, SqL.mk hf⟩, fl, _, _, rfl, rfl, hf, hsz, ?_⟩
      refine ⟨_, rfl, ?_⟩
      exact q fl (ns ++ [0]) _ nfl (Same.mut nfl sm) (by rw [List.map_append]; exact upd_same) (by simp) (by rw [List.length_append, List.length_singleton]; omega) (hn.snoc (by decide) (by decide))
    · refine ⟨_, rfl, ?_⟩
      refine q fl ns _ nfl sm hf (fun z => ?_) (by omega) hn
      subst z
      exact he (decide_eq_true rfl)
abbrev s_term : Stmt := top 11
abbrev N_term : List Str := ["state", "signs", "names", "room", "pick", "fit", "sign", "arity", "left", "first", "one"]
abbrev P_term : List Str := ["state", "signs", "names", "room"]
theorem sc_term : FnScope N_term P_term (defScope s_term) := ⟨rfl, rfl, rfl, by decide +kernel, rfl, by decide +kernel, by decide +kernel⟩

theorem turn_term {lvl : Nat} (F : FnP K "_law_term" s_term f fd) (hm : mg "_law_term" = some (.ref f)) (Z : Zs mg) (c_next : Cal P w K mg base 1 "_law_next" spNext []) (c_term : Cal P w K mg base (lvl + 2) "_law_term" (spTerm K lvl) []) :
    Cal P w K mg base (lvl + 3) "_law_term" (spTerm K (lvl + 1)) [] := by
  refine mk_cal F hm sc_term (fun _ _ _ _ _ _ us hl => match us, hl with | [_, _, _, _], _ => rfl) (fun vs H Q E h => ?_) (fun cdv A outer s H vs Q E hr h => ?_)
  · obtain ⟨a, n, g, l, sg, nms, room, m, rfl, _⟩ := h
    rfl
  obtain ⟨a, n, g, l, sg, nms, room, m, rfl, st, hlt, hsg, gs, hl, hla, hnm, r1, rl, q⟩ := h
  refine ⟨_, (pss_cons (ps_set (i := 4) sc_term.nd rfl (by first | exact Or.inl rfl | exact Or.inr rfl) (C8.pe_c c_next hr (by first | decide | omega) rfl (pa_cons (pv 0) (pa_cons pe_int pa_nil))))
      (pss_cons (ps_if (PW.pt (pw_and (pt_cmpR op_gt (pe_callB call_len_seq (by rfl) Z.len (by decide +kernel) (pa_cons (pv 2) pa_nil)) pe_int (nomark _)) (pw_and (PW.pt (pw_or (pt_cmpR op_le (pv 3) pe_int (nomark _)) (pw_or1 (pt_cmpR op_eq (pe_op op_mod (pv 4) pe_int) pe_int (nomark _))))) (pw_and1 (pt_cmpR op_gt (pe_op op_mod (pe_op op_fdiv (pv 4) pe_int) pe_int) pe_int (nomark _)))))) (pss_one (ps_ret (pe_ix ix_list (pv 2) (pe_op op_mod (pe_op op_fdiv (pv 4) pe_int) (pe_callB call_len_seq (by rfl) Z.len (by decide +kernel) (pa_cons (pv 2) pa_nil))) (fun _ _ => rfl)))) pss_nil)
      (pss_cons (ps_setLc (i := 5) (own := [("one", 10)]) (g := (gName 10)) (tt := (tAnd (tTest (tOp _ (tOp (rIxT K) (tVar 10) _) (tVar 3))) (tOr (tTest (tOp _ (tOp (rIxT K) (tVar 10) _) _)) (tOr (tTest (tOp _ (tVar 3) _)) (tTest (tOp _ (tOp _ (tVar 4) _) _)))))) (te := (tVar 10)) rfl sc_term.nd rfl rfl (sw_true rfl rfl rfl (by decide +kernel)) (pi_tup (pv 1)) (blkOk_by (N := N_term) (sc := defScope s_term) (by decide +kernel)) (fun _ _ _ _ _ => by exact (pg_name (i := 10) sc_term.nd rfl (Or.inl rfl))) (fun _ _ _ _ _ => by exact (pts_one (PW.pt (pw_and (pt_cmpR op_lt (pe_ix ix_tup (pv 10) pe_int (fun _ _ => rfl)) (pv 3) (nomark _)) (pw_and1 (PW.pt (pw_or (pt_cmpR op_gt (pe_ix ix_tup (pv 10) pe_int (fun _ _ => rfl)) pe_int (nomark _)) (pw_or (pt_cmpR op_le (pv 3) pe_int (nomark _)) (pw_or1 (pt_cmpR op_lt (pe_op op_mod (pv 4) pe_int) pe_int (nomark _))))))))))) (fun _ _ _ _ _ => by exact (pv 10)))
      (C8.pss_cut (ps_if (pt_cmpR op_eq (pe_callB call_len_seq (by rfl) Z.len (by decide +kernel) (pa_cons (pv 5) pa_nil)) pe_int (nomark _)) (pss_one (ps_setLc (i := 5) (own := [("one", 10)]) (g := (gName 10)) (tt := (tTest (tOp _ (tOp (rIxT K) (tVar 10) _) _))) (te := (tVar 10)) rfl sc_term.nd rfl rfl (sw_true rfl rfl rfl (by decide +kernel)) (pi_tup (pv 1)) (blkOk_by (N := N_term) (sc := defScope s_term) (by decide +kernel)) (fun _ _ _ _ _ => by exact (pg_name (i := 10) sc_term.nd rfl (Or.inl rfl))) (fun _ _ _ _ _ => by exact (pts_one (pt_cmpR op_eq (pe_ix ix_tup (pv 10) pe_int (fun _ _ => rfl)) pe_int (nomark _)))) (fun _ _ _ _ _ => by exact (pv 10)))) pss_nil)
      (pss_cons (ps_asg (pe_ix ix_list (pv 5) (C8.pe_c c_next hr (by first | decide | omega) rfl (pa_cons (pv 0) (pa_cons (pe_callB call_len_seq (by rfl) Z.len (by decide +kernel) (pa_cons (pv 5) pa_nil)) pa_nil))) (fun _ _ => rfl)) (pg_tup rfl (pgs_cons (pg_name (i := 6) sc_term.nd rfl (by first | exact Or.inl rfl | exact Or.inr rfl)) (pgs_cons (pg_name (i := 7) sc_term.nd rfl (by first | exact Or.inl rfl | exact Or.inr rfl)) pgs_nil))))
      (pss_cons (ps_if (pt_cmpR op_eq (pv 7) pe_int (nomark _)) (pss_one (ps_ret (pe_tup (pa_cons (pv 6) pa_nil)))) pss_nil)
      (pss_cons (ps_if (pt_cmpR op_eq (pv 7) pe_int (nomark _)) (pss_one (ps_ret (pe_tup (pa_cons (pv 6) (pa_cons (C8.pe_c c_term hr (by first | decide | omega) rfl (pa_cons (pv 0) (pa_cons (pv 1) (pa_cons (pv 2) (pa_cons (pe_op op_sub (pv 3) pe_int) pa_nil))))) pa_nil))))) pss_nil)
      (pss_cons (ps_set (i := 8) sc_term.nd rfl (by first | exact Or.inl rfl | exact Or.inr rfl) (pe_op op_add pe_int (C8.pe_c c_next hr (by first | decide | omega) rfl (pa_cons (pv 0) (pa_cons (pe_callB (call_max2 rfl) (by rfl) Z.max (by decide +kernel) (pa_cons pe_int (pa_cons (pe_op op_sub (pv 3) pe_int) pa_nil))) pa_nil)))))
      (pss_cons (ps_set (i := 9) sc_term.nd rfl (by first | exact Or.inl rfl | exact Or.inr rfl) (C8.pe_c c_term hr (by first | decide | omega) rfl (pa_cons (pv 0) (pa_cons (pv 1) (pa_cons (pv 2) (pa_cons (pv 8) pa_nil))))))
      (pss_one (ps_ret (pe_tup (pa_cons (pv 6) (pa_cons (pv 9) (pa_cons (C8.pe_c c_term hr (by first | decide | omega) rfl (pa_cons (pv 0) (pa_cons (pv 1) (pa_cons (pv 2) (pa_cons (pe_callB (call_max2 rfl) (by rfl) Z.max (by decide +kernel) (pa_cons pe_int (pa_cons (pe_op op_sub (pe_op op_sub (pv 3) pe_int) (pv 8)) pa_nil))) pa_nil))))) pa_nil))))))))))))))), ?_⟩
  refine ⟨_, rfl, a, n, 60, m, rfl, by decide, st, by omega, fun pk H1 p0 p60 f1 st1 => ?_⟩
  have hl1 : SqL K H1 l (nms.map V.str) := f1.seq hla hl
  dsimp only [gName, tSeq]
  refine TV.ifs (TV.and (fun Q q => ⟨_, rfl, l, _, rfl, .inl hl1, _, _, rfl, rfl, _, rfl, q⟩) (TV.and (TV.or (fun Q q => ⟨_, rfl, _, _, rfl, rfl, _, rfl, q⟩) (fun Q q => ⟨_, rfl, _, _, rfl, rfl, (by show (0 : Int) < 4; decide), rfl, _, rfl, q⟩))
    (fun Q q => ⟨_, rfl, _, _, rfl, rfl, ⟨by decide, by decide⟩, _, _, rfl, rfl, (by show (0 : Int) < 5; decide), _, _, rfl, rfl, _, rfl, q⟩))) (fun hb => ?_) (fun _ => ?_)
  · have hp : (0 : Int) < (((nms.map V.str).length : Nat) : Int) := of_decide_eq_true (Bool.and_eq_true_iff.mp hb).1
    have hk0 : 0 ≤ pk / 20 % (((nms.map V.str).length : Nat) : Int) := Int.emod_nonneg _ (by omega)
    have hk1 : pk / 20 % (((nms.map V.str).length : Nat) : Int) < (((nms.map V.str).length : Nat) : Int) := Int.emod_lt_of_pos _ hp
    have hk : (pk / 20 % (((nms.map V.str).length : Nat) : Int)).toNat < nms.length := by rw [List.length_map] at hk1 hk0 ⊢; omega
    have hat : atI (nms.map V.str) (pk / 20 % (((nms.map V.str).length : Nat) : Int)) = some (.str (nms[(pk / 20 % (((nms.map V.str).length : Nat) : Int)).toNat]'hk)) :=
      at_of (Int.toNat_of_nonneg hk0).symm (by rw [List.getElem?_map, List.getElem?_eq_getElem hk]; rfl)
    refine ⟨_, rfl, _, rfl, _, _, rfl, rfl, ⟨by decide, by decide⟩, _, rfl, l, _, rfl, .inl hl1, _, _, rfl, rfl, hp, l, _, _, _, rfl, rfl, hl1, hat, ?_⟩
    exact q _ (.nm _) H1 rfl (List.getElem_mem hk) (by show 1 ≤ room.toNat; omega) f1 (st1.mono (by omega))
  obtain ⟨rs, hS1, pr1⟩ := (hsg.keep (st.tk (K := K) f1)).ex
  dsimp only [tNext, tSeq, tAsg]
  refine rd_pick (i := 1) (j := 10) (C := fun s => s.2 < room) (Z := fun _ => False) (by rfl) hS1 pr1 (by have := gs.len; omega) (by intro _; rfl) (by intro _; rfl) (fun r s H' hr hs => ?_) (fun D H2 rs' sg' nD sm hD pr' hl' hc hz => ?_)
  · exact ⟨_, TV.and (fun Q q => ⟨_, rfl, r, _, 1, _, rfl, rfl, hr, rfl, _, rfl, _, _, rfl, rfl, _, rfl, q⟩) (TV.or (fun Q q => ⟨_, rfl, r, _, 1, _, rfl, rfl, hr, rfl, _, _, rfl, rfl, _, rfl, q⟩) (TV.or (fun Q q => ⟨_, rfl, _, _, rfl, rfl, _, rfl, q⟩)
      (fun Q q => ⟨_, rfl, _, _, rfl, rfl, (by show (0 : Int) < 4; decide), _, _, rfl, rfl, _, rfl, q⟩))), fun e => of_decide_eq_true (Bool.and_eq_true_iff.mp e).1, fun _ z => z⟩
  refine ⟨fun σ' H' => ∃ (D : Addr) (rs' : List Addr) (sg' : Sg), σ' = [some (.ref a), some (.ref g), some (.ref l), some (.int room), some (.int pk), some (.ref D), none, none, none, none, none] ∧ H' D = some (.lst (rs'.map V.ref)) ∧ SgR K H' rs' sg' ∧ sg' ≠ [] ∧ sg'.length ≤ 4 ∧
    (∀ s ∈ sg', s ∈ sg ∧ s.2 < room) ∧ D ≠ a ∧ Pg.Fr a H H' ∧ StA H' a n (m + 1), ?_, ?_⟩
  · refine ⟨_, rfl, D, _, rfl, .inl (SqL.mk hD), rfl, _, rfl, ite2 (fun he => ?_) (fun he => ?_)⟩
    · obtain ⟨rs2, hS2, pr2⟩ := ((hsg.keep (st.tk (K := K) f1)).keep (TK.same sm)).ex
      dsimp only [tAsg]
      refine rd_pick (i := 1) (j := 10) (C := fun s => s.2 = 0) (Z := fun s => s.2 = 0) (by rfl) hS2 pr2 (by have := gs.len; omega) (by intro _; rfl) (by intro _; rfl) (fun r s H' hr hs => ?_) (fun D2 H3 rs3 sg3 nD3 sm3 hD3 pr3 hl3 hc3 hz3 => ?_)
      · refine ⟨_, fun Q q => ⟨_, rfl, r, _, 1, _, rfl, rfl, hr, rfl, rfl, _, rfl, q⟩, fun e => ?_, fun e z => ?_⟩
        · exact V.int.inj (of_decide_eq_true e)
        · exact absurd (congrArg V.int z) (of_decide_eq_false e)
      · obtain ⟨c, hc0, ec⟩ := gs.c0
        exact ⟨D2, rs3, sg3, rfl, hD3, pr3, hz3 c hc0 ec, Nat.le_trans hl3 gs.len.2, fun s hs => ⟨(hc3 s hs).1, by rw [(hc3 s hs).2]; omega⟩, ((st1.same sm).ne nD3).1, f1.trans (Fr.of (sm.trans sm3)), (st1.same sm).same sm3⟩
    · refine ⟨D, rs', sg', rfl, hD, pr', fun z => ?_, Nat.le_trans hl' gs.len.2, hc, (st1.ne nD).1, f1.trans (Fr.of sm), st1.same sm⟩
      have e0 : rs' = [] := List.eq_nil_of_length_eq_zero (by rw [paired_len pr', z]; rfl)
      rw [e0] at he
      exact he (decide_eq_true rfl)
  rintro σ' H2 ⟨D, rs', sg', rfl, hD, pr', hne, hl4, hc, nDa, f2, st2⟩
  have hlr : (rs'.map V.ref).length = sg'.length := by rw [List.length_map, paired_len pr']
  have hpos : 0 < sg'.length := List.length_pos_iff.mpr hne
  refine ⟨_, rfl, _, rfl, _, rfl, D, _, rfl, .inl (SqL.mk hD), a, n, _, m + 1, rfl, by rw [hlr]; omega, st2, by omega, fun r H3 r0 r1' f3 st3 => ?_⟩
  rw [hlr] at r1'
  obtain ⟨k, rfl⟩ := Int.eq_ofNat_of_zero_le r0
  have hk : k < sg'.length := by omega
  have hD3 : H3 D = some (.lst (rs'.map V.ref)) := f3 _ _ nDa hD
  obtain ⟨rr, er, hrr⟩ := paired_get2 (SgR.keep (st2.tk (K := K) f3) pr') (List.getElem?_eq_getElem hk)
  have hcs := hc _ (List.getElem_mem hk)
  obtain ⟨s, har⟩ : ∃ s, sg'[k] = s := ⟨_, rfl⟩
  rw [har] at hrr hcs
  have ar := gs.ar s hcs.1
  refine ⟨D, _, _, _, rfl, rfl, SqL.mk hD3, atI_nat (v := V.ref rr) (by rw [List.getElem?_map, er]; rfl), rr, _, rfl, hrr, rfl, _, _, rfl, _, _, rfl, rfl, ?_⟩
  have F3 := f2.trans f3
  have tk3 : TK K H H3 := st.tk F3
  refine ⟨_, rfl, rfl, _, rfl, ite2 (fun e0 => ?_) (fun e0 => ?_)⟩
  · have e0 : s.2 = 0 := V.int.inj (of_decide_eq_true e0)
    refine ⟨_, rfl, (by show 1 ≤ sizeLine; decide), fun p np => ?_⟩
    refine q _ (.c0 s.1) _ ⟨p, rfl, SqT.mk upd_same⟩ ?_ (by show 1 ≤ room.toNat; omega) (F3.trans (Fr.new np)) ((st3.new np).mono (by omega))
    exact mem_ar hcs.1 e0
  have e0' : s.2 ≠ 0 := fun z => e0 (decide_eq_true (congrArg V.int z))
  refine ⟨_, rfl, rfl, _, rfl, ite2 (fun e1 => ?_) (fun e1 => ?_)⟩
  · have e1 : s.2 = 1 := V.int.inj (of_decide_eq_true e1)
    refine ⟨_, rfl, _, rfl, _, rfl, _, rfl, _, rfl, _, _, rfl, rfl, a, n, g, l, sg, nms, room - 1, m + 2, rfl, st3.mono (by omega), by omega, hsg.keep tk3, gs, F3.seq hla hl, hla, hnm, by omega, by omega, fun v t H4 ht hw hz f4 st4 => ?_⟩
    refine ⟨(by show 2 ≤ sizeLine; decide), fun p np => ?_⟩
    refine q _ (.c1 s.1 t) _ ⟨p, v, rfl, SqT.mk upd_same, TrAt.keep (TK.new np) ht⟩ ⟨?_, hw⟩ (by show 1 + t.size ≤ room.toNat; omega) (F3.trans (f4.trans (Fr.new np))) ((st4.new np).mono (by omega))
    exact mem_ar hcs.1 e1
  have e2 : s.2 = 2 := by
    have : s.2 ≠ 1 := fun z => e1 (decide_eq_true (congrArg V.int z))
    omega
  refine ⟨_, rfl, _, rfl, _, _, rfl, rfl, _, _, rfl, a, n, _, m + 2, rfl, by split <;> omega, st3.mono (by omega), by omega, fun r H4 r0 r1 f4 st4 => ?_⟩
  have hr2 : r ≤ room - 3 := by split at r1 <;> omega
  refine ⟨_, _, rfl, rfl, ?_⟩
  have F4 := F3.trans f4
  refine ⟨_, rfl, _, rfl, _, rfl, _, rfl, a, n, g, l, sg, nms, 1 + r, m + 3, rfl, st4.mono (by omega), by omega, hsg.keep (st.tk F4), gs, F4.seq hla hl, hla, hnm, by omega, by omega, fun v t H5 ht hw hz f5 st5 => ?_⟩
  have F5 := F4.trans f5
  have hmx : (if room - 1 - (1 + r) > 1 then room - 1 - (1 + r) else 1) = room - 1 - (1 + r) := by split <;> omega
  refine ⟨_, rfl, _, rfl, _, rfl, _, rfl, _, rfl, _, rfl, _, _, rfl, rfl, _, rfl, _, _, rfl, rfl, _, _, rfl, a, n, g, l, sg, nms, _, m + 3 + 3 * (1 + r), rfl, st5, by rw [hmx]; omega, hsg.keep (st.tk F5), gs, F5.seq hla hl, hla, hnm, by rw [hmx]; omega, by rw [hmx]; omega, fun v2 t2 H6 ht2 hw2 hz2 f6 st6 => ?_⟩
  rw [hmx] at hz2 st6
  refine ⟨(by show 3 ≤ sizeLine; decide), fun p np => ?_⟩
  refine q _ (.c2 s.1 t t2) _ ⟨p, v, v2, rfl, SqT.mk upd_same, TrAt.keep (TK.new np) (TrAt.keep (st5.tk f6) ht), TrAt.keep (TK.new np) ht2⟩ ⟨?_, hw, hw2⟩ (by show 1 + t.size + t2.size ≤ room.toNat; omega) (F5.trans (f6.trans (Fr.new np))) ((st6.new np).mono (by omega))
  exact mem_ar hcs.1 e2
theorem ok_term (F : FnP K "_law_term" s_term f fd) (hm : mg "_law_term" = some (.ref f)) (Z : Zs mg) (c_next : Cal P w K mg base 1 "_law_next" spNext []) : ∀ lvl : Nat, Cal P w K mg base (lvl + 2) "_law_term" (spTerm K lvl) []
  | 0 => mk_none (ps := P_term) F hm (fun _ _ _ _ _ _ us hl => match us, hl with | [_, _, _, _], _ => rfl) (fun vs H Q E h => by
    obtain ⟨a, n, g, l, sg, nms, room, m, _, _, _, _, _, _, _, _, r1, rl, _⟩ := h
    omega)
  | lvl + 1 => turn_term F hm Z c_next (ok_term F hm Z c_next lvl)
end
end K01

set_option Elab.async false
set_option linter.all false
set_option maxRecDepth 100000
set_option maxHeartbeats 4000000
namespace Pg
open PySem PySem.Spec PyProof.Rows L2
/-! ### trees: terms without names -/
def Pl : Tr → Prop
  | .nm _ => False
  | .c0 _ => True
  | .c1 _ t => Pl t
  | .c2 _ t u => Pl t ∧ Pl u
def Tr.sym : Tr → Str
  | .nm x => x
  | .c0 s => s
  | .c1 s _ => s
  | .c2 s _ _ => s
def Tr.kids : Tr → List Tr
  | .nm _ => []
  | .c0 _ => []
  | .c1 _ t => [t]
  | .c2 _ t u => [t, u]
theorem Wf.pl {sg : Sg} : ∀ {t : Tr}, Wf sg [] t → Pl t
  | .nm _, h => absurd h List.not_mem_nil
  | .c0 _, _ => trivial
  | .c1 _ t, h => Wf.pl (t := t) h.2
  | .c2 _ t u, h => ⟨Wf.pl (t := t) h.2.1, Wf.pl (t := u) h.2.2⟩
theorem Pl.kid {t k : Tr} (h : Pl t) (m : k ∈ t.kids) : Pl k := by
  cases t with
  | nm x => exact absurd m List.not_mem_nil
  | c0 s => exact absurd m List.not_mem_nil
  | c1 s t => rw [show (Tr.c1 s t).kids = [t] from rfl, List.mem_singleton] at m; rw [m]; exact h
  | c2 s t u =>
    rcases List.mem_cons.mp (show k ∈ [t, u] from m) with e | e
    · rw [e]; exact h.1
    · rw [List.mem_singleton] at e; rw [e]; exact h.2
theorem Wf.kid {sg : Sg} {nms : List Str} {t k : Tr} (h : Wf sg nms t) (m : k ∈ t.kids) : Wf sg nms k := by
  cases t with
  | nm x => exact absurd m List.not_mem_nil
  | c0 s => exact absurd m List.not_mem_nil
  | c1 s t => rw [show (Tr.c1 s t).kids = [t] from rfl, List.mem_singleton] at m; rw [m]; exact h.2
  | c2 s t u =>
    rcases List.mem_cons.mp (show k ∈ [t, u] from m) with e | e
    · rw [e]; exact h.2.1
    · rw [List.mem_singleton] at e; rw [e]; exact h.2.2
theorem Wf.sym {sg : Sg} {t : Tr} (h : Wf sg [] t) : (t.sym, (t.kids.length : Int)) ∈ sg := by
  cases t with
  | nm x => exact absurd h List.not_mem_nil
  | c0 s => exact h
  | c1 s t => exact h.1
  | c2 s t u => exact h.1
theorem Tr.dep_kid {t k : Tr} (m : k ∈ t.kids) : k.dep + 1 ≤ t.dep := by
  cases t with
  | nm x => exact absurd m List.not_mem_nil
  | c0 s => exact absurd m List.not_mem_nil
  | c1 s t => rw [show (Tr.c1 s t).kids = [t] from rfl, List.mem_singleton] at m; rw [m]; show t.dep + 1 ≤ 1 + t.dep; omega
  | c2 s t u =>
    show k.dep + 1 ≤ 1 + max t.dep u.dep
    rcases List.mem_cons.mp (show k ∈ [t, u] from m) with e | e
    · rw [e]; omega
    · rw [List.mem_singleton] at e; rw [e]; omega
theorem Tr.kids_le (t : Tr) : t.kids.length ≤ 2 := by cases t <;> first | exact Nat.zero_le _ | exact Nat.le_refl _ | exact Nat.le_succ _
theorem Tr.size_kids (t : Tr) : (t.size : Int) = 1 + (t.kids.map fun k => (k.size : Int)).sum := by
  cases t with
  | nm x => rfl
  | c0 s => rfl
  | c1 s t =>
    show ((1 + t.size : Nat) : Int) = 1 + ((t.size : Int) + 0)
    omega
  | c2 s t u =>
    show ((1 + t.size + u.size : Nat) : Int) = 1 + ((t.size : Int) + ((u.size : Int) + 0))
    omega
theorem paired_eq {α β : Type} {g : β → α} : ∀ {xs : List α} {ys : List β}, Paired (fun v k => v = g k) xs ys → xs = ys.map g
  | _, _, .nil => rfl
  | _, _, .cons a t => by rw [List.map_cons, ← a, ← paired_eq t]
theorem at0 {α : Type} (x : α) (us : List α) : atI (x :: us) 0 = some x := atI_nat (j := 0) rfl
abbrev KidsAt (K : PySem.W.Frag) (H : Hp) (us : List V) (ks : List Tr) : Prop := Paired (fun u k => TrAt K H k u) us ks
theorem KidsAt.keep {K : PySem.W.Frag} {H H' : Hp} {us : List V} {ks : List Tr} (k : TK K H H') (h : KidsAt K H us ks) : KidsAt K H' us ks := Paired.imp2 (fun _ _ q => TrAt.keep k q) h
theorem TrAt.open_ {K : PySem.W.Frag} {H : Hp} {t : Tr} {v : V} (hp : Pl t) (h : TrAt K H t v) : ∃ p us, v = .ref p ∧ SqT K H p (.str t.sym :: us) ∧ KidsAt K H us t.kids := by
  cases t with
  | nm x => exact hp.elim
  | c0 s => obtain ⟨p, e, q⟩ := h; exact ⟨p, [], e, q, .nil⟩
  | c1 s t => obtain ⟨p, u, e, q, r⟩ := h; exact ⟨p, [u], e, q, .cons r .nil⟩
  | c2 s t t' => obtain ⟨p, u, u', e, q, r, r'⟩ := h; exact ⟨p, [u, u'], e, q, .cons r (.cons r' .nil)⟩
theorem TrAt.mk {K : PySem.W.Frag} {H : Hp} {t : Tr} {p : Addr} {us : List V} (hp : Pl t) (q : SqT K H p (.str t.sym :: us)) (r : KidsAt K H us t.kids) : TrAt K H t (.ref p) := by
  cases t with
  | nm x => exact hp.elim
  | c0 s => cases r; exact ⟨p, rfl, q⟩
  | c1 s t =>
    cases r with
    | cons a b => cases b; exact ⟨p, _, rfl, q, a⟩
  | c2 s t t' =>
    cases r with
    | cons a b =>
      cases b with
      | cons c d => cases d; exact ⟨p, _, _, rfl, q, a, c⟩
section
variable {K : PySem.W.Frag} {σ : L2.St} {H : Hp} {Q : VK} {p q : Addr} {us : List V} {ks : List Tr} {j : Nat} {te : TE} {x : V}
/-- t[1:] of a tree's tuple -/
theorem tail_no {x : V} {us : List V} {A : Prop} (z : HT.sIx (x :: us).length 0 (some 1) = 0 ∧ HT.sIx (x :: us).length (x :: us).length none = (x :: us).length) : A := by
  have := HT.sIx_nat (x :: us).length 0 1
  rw [show ((1 : Nat) : Int) = 1 from rfl, z.1, List.length_cons] at this
  omega
theorem tail_cut (x : V) (us : List V) : cutV (x :: us) (some 1) none = us := cutV_drop (x :: us) 1
/-- [f(part) for part in ..] over a tree's parts, f changes nothing that stands; R tells of each part what f hands back -/
theorem rd_kids {wi : TI} (hwi : ∀ R, (∀ q H1, Same H H1 → SqT K H1 q us → R (Itt K q) H1) → wi σ H R) (R : Hp → V → Tr → Prop) (mono : ∀ H H' v k, TK K H H' → R H v k → R H' v k) (pr : KidsAt K H us ks) (hlen : ks.length ≤ 1000)
    (hw : ∀ x, wipe ((wipe σ [j]).set j (some x)) [j] = wipe σ [j])
    (ht : ∀ u k H', k ∈ ks → Same H H' → TrAt K H' k u → ∀ Q', (∀ v H2, Same H' H2 → R H2 v k → Q' v H2) → te ((wipe σ [j]).set j (some u)) H' Q')
    (h : ∀ D H' ws, H D = none → Same H H' → H' D = some (.lst ws) → Paired (R H') ws ks → Q (.ref D) H') : tLc wi (gName j) tYes te [j] σ H Q := by
  refine hwi _ (fun q H1 s1 hS D nD => ?_)
  have nD0 : H D = none := same_free s1 nD
  refine lc_tup (K := K) (xs := us) (fun i H' => Same H1 H' ∧ ∃ ws, H' D = some (.lst ws) ∧ Paired (R H') ws (ks.take i)) ⟨Same.new nD, [], upd_same, .nil⟩ (fun i H' _ iv => TK.same iv.1 _ _ hS) (fun i x H' hx iv => ?_) (fun H' iv => ?_)
  · obtain ⟨sm, ws, hd, hr⟩ := iv
    obtain ⟨k, ek, hk⟩ := paired_get pr hx
    have hlt : i < ks.length := (List.getElem?_eq_some_iff.mp ek).1
    refine ⟨hw _, yes_turn ?_⟩
    refine ht x k H' (List.mem_of_getElem? ek) (s1.trans sm) (TrAt.keep (TK.same (s1.trans sm)) hk) _ (fun v H2 s2 r2 => ?_)
    have hd2 := s2 _ _ hd
    refine ⟨ws, hd2, by rw [paired_len hr, List.length_take]; exact small1000 (by omega), Same.mut nD (sm.trans s2), ws ++ [v], upd_same, ?_⟩
    rw [take_snoc ek]
    exact paired_app (Paired.imp2 (fun _ _ r => mono _ _ _ _ ((TK.same s2).trans (TK.put hd2)) r) hr) (.cons (mono _ _ _ _ (TK.put hd2) r2) .nil)
  · obtain ⟨sm, ws, hd, hr⟩ := iv
    rw [paired_len pr, List.take_length] at hr
    exact h D H' ws nD0 (s1.trans sm) hd hr
/-- part in t[1:] -/
theorem it_tail {i : Nat} (hi : σ[i]? = some (some (.ref p))) (hS : SqT K H p (x :: us)) : ∀ R, (∀ q H1, Same H H1 → SqT K H1 q us → R (Itt K q) H1) → iTup K (tSl (rSlA K) (tVar i) (tPart (tC (.int 1))) tNoPart) σ H R := fun R h =>
  ⟨_, hi, 1, rfl, p, _, rfl, hS, fun z => tail_no z, fun _ q nq => by
    rw [tail_cut]
    exact ⟨q, rfl, ⟨_, SqT.mk upd_same⟩, h q _ (Same.new nq) (SqT.mk upd_same)⟩⟩
end
/-! ### what the law's own walks tell of a tree -/
/-- the size -/
def spSize (K : PySem.W.Frag) (d : Nat) : Sp := fun vs H Q _ => ∃ (v : V) (t : Tr), vs = [v] ∧ TrAt K H t v ∧ Pl t ∧ t.dep ≤ d ∧ ∀ H', Same H H' → Q (.int t.size) H'
/-- a copy -/
def spCopy (K : PySem.W.Frag) (d : Nat) : Sp := fun vs H Q _ => ∃ (v : V) (t : Tr), vs = [v] ∧ TrAt K H t v ∧ Pl t ∧ t.dep ≤ d ∧ ∀ v' H', Same H H' → TrAt K H' t v' → Q v' H'
def place (sg : Sg) (s : Str) : Nat := (sg.map (·.1)).idxOf s
/-- the key of a tree, as data -/
def keyD (sg : Sg) : Tr → PyData
  | .nm _ => .none
  | .c0 s => .tuple [.int 1, .int (place sg s)]
  | .c1 s t => .tuple [.int (Tr.c1 s t).size, .int (place sg s), keyD sg t]
  | .c2 s t u => .tuple [.int (Tr.c2 s t u).size, .int (place sg s), keyD sg t, keyD sg u]
theorem keyD_eq (sg : Sg) {t : Tr} (h : Pl t) : keyD sg t = .tuple (.int t.size :: .int (place sg t.sym) :: t.kids.map (keyD sg)) := by
  cases t with
  | nm x => exact h.elim
  | c0 s => rfl
  | c1 s t => rfl
  | c2 s t u => rfl
theorem key_keep {K : PySem.W.Frag} {H H' : Hp} (k : TK K H H') (sg : Sg) : ∀ (t : Tr) (v : V), Pl t → Dp K H v (keyD sg t) → Dp K H' v (keyD sg t)
  | .nm _, _, h, _ => h.elim
  | .c0 s, v, _, h => by
    have h : Dp K H v (.tuple [.int 1, .int (place sg s)]) := h
    show Dp K H' v (.tuple [.int 1, .int (place sg s)])
    cases h with
    | tup hs ha =>
      cases ha with
      | cons a b => cases a; cases b with
        | cons c d => cases c; cases d; exact .tup (k _ _ hs) (.cons (.int _) (.cons (.int _) .nil))
  | .c1 s t, v, hp, h => by
    have h : Dp K H v (.tuple [.int (Tr.c1 s t).size, .int (place sg s), keyD sg t]) := h
    show Dp K H' v (.tuple [.int (Tr.c1 s t).size, .int (place sg s), keyD sg t])
    cases h with
    | tup hs ha =>
      cases ha with
      | cons a b => cases a; cases b with
        | cons c d => cases c; cases d with
          | cons e f => cases f; exact .tup (k _ _ hs) (.cons (.int _) (.cons (.int _) (.cons (key_keep k sg t _ hp e) .nil)))
  | .c2 s t u, v, hp, h => by
    have h : Dp K H v (.tuple [.int (Tr.c2 s t u).size, .int (place sg s), keyD sg t, keyD sg u]) := h
    show Dp K H' v (.tuple [.int (Tr.c2 s t u).size, .int (place sg s), keyD sg t, keyD sg u])
    cases h with
    | tup hs ha =>
      cases ha with
      | cons a b => cases a; cases b with
        | cons c d => cases c; cases d with
          | cons e f => cases f with
            | cons g i => cases i; exact .tup (k _ _ hs) (.cons (.int _) (.cons (.int _) (.cons (key_keep k sg t _ hp.1 e) (.cons (key_keep k sg u _ hp.2 g) .nil))))
def spKey (K : PySem.W.Frag) (d : Nat) : Sp := fun vs H Q _ => ∃ (g : Addr) (sg : Sg) (v : V) (t : Tr), vs = [.ref g, v] ∧ SgAt K H g sg ∧ GSg sg ∧ TrAt K H t v ∧ Wf sg [] t ∧ t.dep ≤ d ∧ ∀ v' H', Same H H' → Dp K H' v' (keyD sg t) → Q v' H'
/-- the place of a word among the signs' -/
theorem place_at {sg : Sg} {s : Str} (h : s ∈ sg.map (·.1)) : place sg s < sg.length ∧ ((sg.map (·.1)).map V.str)[place sg s]? = some (.str s) ∧ ∀ (m : Nat) (z : V), m < place sg s → ((sg.map (·.1)).map V.str)[m]? = some z → eqV z (.str s) = false := by
  have h1 : (sg.map (·.1)).idxOf s < (sg.map (·.1)).length := List.idxOf_lt_length_iff.mpr h
  refine ⟨by rw [List.length_map] at h1; exact h1, ?_, fun m z hm e => ?_⟩
  · show ((sg.map (·.1)).map V.str)[(sg.map (·.1)).idxOf s]? = _
    rw [List.getElem?_map, List.getElem?_eq_getElem h1]
    show some (V.str ((sg.map (·.1))[(sg.map (·.1)).idxOf s])) = _
    rw [List.getElem_idxOf]
  · rw [List.getElem?_map] at e
    have hm' : m < (sg.map (·.1)).length := Nat.lt_trans hm h1
    rw [List.getElem?_eq_getElem hm'] at e
    obtain rfl : V.str ((sg.map (·.1))[m]) = z := Option.some.inj e
    have hne : (sg.map (·.1))[m] ≠ s := fun q => by
      have hm2 : m < (sg.map (·.1)).findIdx (· == s) := hm
      have := List.not_of_lt_findIdx hm2
      simp [q] at this
    exact beq_eq_false_iff_ne.mpr hne
end Pg

set_option Elab.async false
set_option linter.all false
set_option maxRecDepth 100000
set_option maxHeartbeats 4000000
namespace K01
open PySem PySem.Spec PyProof.Rows L2 Pg
section
variable {P : Program} {w : World} {K : PySem.W.Frag} {mg : Str → Option Value} {base : Heap} {f : Addr} {fd : FuncData}
abbrev s_size : Stmt := top 12
abbrev N_size : List Str := ["term", "part"]
abbrev P_size : List Str := ["term"]
theorem sc_size : FnScope N_size P_size (defScope s_size) := ⟨rfl, rfl, rfl, by decide +kernel, rfl, by decide +kernel, by decide +kernel⟩

theorem turn_size {d : Nat} (F : FnP K "_law_size" s_size f fd) (hm : mg "_law_size" = some (.ref f)) (Z : Zs mg) (c_size : Cal P w K mg base (d + 1) "_law_size" (spSize K d) []) : Cal P w K mg base (d + 2) "_law_size" (spSize K (d + 1)) [] := by
  refine mk_cal F hm sc_size (fun _ _ _ _ _ _ us hl => match us, hl with | [_], _ => rfl) (fun vs H Q E h => ?_) (fun cdv A outer s H vs Q E hr h => ?_)
  · obtain ⟨v, t, rfl, _⟩ := h
    rfl
  obtain ⟨v, t, rfl, ht, hp, hd, q⟩ := h
  refine ⟨_, (pss_one (ps_ret (pe_op op_add pe_int (pe_callB (cr_sum rfl) (by rfl) Z.sum (by decide +kernel) (pa_cons (pe_lc (own := [("part", 1)]) (g := (gName 1)) (tt := tYes) (te := (tCall _ [] _ (tCons (tVar 1) tNil))) rfl sc_size.nd (pi_tup (pe_slice sl_tupA (pv 0) (po_some pe_int) po_none)) (blkOk_by (N := N_size) (sc := defScope s_size) (by decide +kernel)) (fun _ _ _ _ _ => by exact (pg_name (i := 1) sc_size.nd rfl (Or.inl rfl))) (fun _ _ _ _ _ => by exact pts_nil) (fun _ _ _ _ _ => by exact (C8.pe_c c_size hr (by first | decide | omega) rfl (pa_cons (pv 1) pa_nil)))) pa_nil))))), ?_⟩
  obtain ⟨p, us, rfl, hS, hk⟩ := ht.open_ hp
  dsimp only [tRet, tOp, tC, tCB, tCons]
  refine rd_kids (it_tail (i := 0) rfl hS) (fun _ v k => v = .int k.size) (fun _ _ _ _ _ h => h) hk (Nat.le_trans t.kids_le (by decide)) (fun _ => rfl) (fun u k H' hkm sm hu Q' q' => ?_) (fun D H' ws nD sm hD hr => ?_)
  · refine ⟨_, rfl, u, k, rfl, hu, hp.kid hkm, by have := Tr.dep_kid hkm; omega, fun H2 s2 => q' _ H2 s2 rfl⟩
  · have hws : ws = (t.kids.map fun k => (k.size : Int)).map V.int := by rw [List.map_map]; exact paired_eq hr
    refine ⟨D, _, rfl, SqL.mk (by rw [hD, hws]), _, _, rfl, rfl, ?_⟩
    show Q (.int (1 + (t.kids.map fun k => (k.size : Int)).sum)) H'
    rw [← Tr.size_kids]
    exact q H' sm
theorem ok_size (F : FnP K "_law_size" s_size f fd) (hm : mg "_law_size" = some (.ref f)) (Z : Zs mg) : ∀ d : Nat, Cal P w K mg base (d + 1) "_law_size" (spSize K d) []
  | 0 => mk_none (ps := P_size) F hm (fun _ _ _ _ _ _ us hl => match us, hl with | [_], _ => rfl) (fun vs H Q E h => by
    obtain ⟨v, t, _, _, _, hd, _⟩ := h
    have := t.dep_pos
    omega)
  | d + 1 => turn_size F hm Z (ok_size F hm Z d)
abbrev s_copy : Stmt := top 14
abbrev N_copy : List Str := ["tree", "part"]
abbrev P_copy : List Str := ["tree"]
theorem sc_copy : FnScope N_copy P_copy (defScope s_copy) := ⟨rfl, rfl, rfl, by decide +kernel, rfl, by decide +kernel, by decide +kernel⟩

theorem turn_copy {d : Nat} (F : FnP K "_law_copy" s_copy f fd) (hm : mg "_law_copy" = some (.ref f)) (Z : Zs mg) (c_copy : Cal P w K mg base (d + 1) "_law_copy" (spCopy K d) []) : Cal P w K mg base (d + 2) "_law_copy" (spCopy K (d + 1)) [] := by
  refine mk_cal F hm sc_copy (fun _ _ _ _ _ _ us hl => match us, hl with | [_], _ => rfl) (fun vs H Q E h => ?_) (fun cdv A outer s H vs Q E hr h => ?_)
  · obtain ⟨v, t, rfl, _⟩ := h
    rfl
  obtain ⟨v, t, rfl, ht, hp, hd, q⟩ := h
  refine ⟨_, (pss_one (ps_ret (pe_callTy call_tuple_of (by rfl) Z.tuple (by decide +kernel) (pa_cons (pe_op op_cat (pe_lst (pa_cons (pe_ix ix_tup (pv 0) pe_int (fun _ _ => rfl)) pa_nil)) (pe_lc (own := [("part", 1)]) (g := (gName 1)) (tt := tYes) (te := (tCall _ [] _ (tCons (tVar 1) tNil))) rfl sc_copy.nd (pi_tup (pe_slice sl_tupA (pv 0) (po_some pe_int) po_none)) (blkOk_by (N := N_copy) (sc := defScope s_copy) (by decide +kernel)) (fun _ _ _ _ _ => by exact (pg_name (i := 1) sc_copy.nd rfl (Or.inl rfl))) (fun _ _ _ _ _ => by exact pts_nil) (fun _ _ _ _ _ => by exact (C8.pe_c c_copy hr (by first | decide | omega) rfl (pa_cons (pv 1) pa_nil))))) pa_nil)))), ?_⟩
  obtain ⟨p, us, rfl, hS, hk⟩ := ht.open_ hp
  refine ⟨_, rfl, p, _, 0, _, rfl, rfl, hS, at0 _ _, (by show 1 ≤ sizeLine; decide), fun l nl => ?_⟩
  have hS1 := TK.new (K := K) (o := .lst [.str t.sym]) nl _ _ hS
  have hk1 := hk.keep (TK.new (K := K) (o := .lst [.str t.sym]) nl)
  dsimp only [tRet, tOp, tC, tCB, tCons]
  refine rd_kids (it_tail (i := 0) rfl hS1) (fun H v k => TrAt K H k v) (fun _ _ _ _ tk h => TrAt.keep tk h) hk1 (Nat.le_trans t.kids_le (by decide)) (fun _ => rfl) (fun u k H' hkm sm hu Q' q' => ?_) (fun D H' ws nD sm hD hr => ?_)
  · refine ⟨_, rfl, u, k, rfl, hu, hp.kid hkm, by have := Tr.dep_kid hkm; omega, fun v' H2 s2 r2 => q' v' H2 s2 r2⟩
  · have hlen : ws.length ≤ 2 := by rw [paired_len hr]; exact t.kids_le
    refine ⟨l, D, _, _, rfl, rfl, sm _ _ upd_same, hD, ?_, fun g ng => ?_⟩
    · show 1 + ws.length ≤ sizeLine
      exact Nat.le_of_lt (small1000 (by omega))
    refine ⟨g, _, rfl, .inl ⟨SqL.mk upd_same, fun r nr => ?_⟩⟩
    refine q _ _ ((Same.new nl).trans (sm.trans ((Same.new ng).trans (Same.new nr)))) (TrAt.mk hp (SqT.mk upd_same) ?_)
    exact (show KidsAt K H' ws t.kids from hr).keep ((TK.new ng).trans (TK.new nr))
theorem ok_copy (F : FnP K "_law_copy" s_copy f fd) (hm : mg "_law_copy" = some (.ref f)) (Z : Zs mg) : ∀ d : Nat, Cal P w K mg base (d + 1) "_law_copy" (spCopy K d) []
  | 0 => mk_none (ps := P_copy) F hm (fun _ _ _ _ _ _ us hl => match us, hl with | [_], _ => rfl) (fun vs H Q E h => by
    obtain ⟨v, t, _, _, _, hd, _⟩ := h
    have := t.dep_pos
    omega)
  | d + 1 => turn_copy F hm Z (ok_copy F hm Z d)
abbrev s_key : Stmt := top 13
abbrev N_key : List Str := ["signs", "tree", "words", "sign", "arity", "part"]
abbrev P_key : List Str := ["signs", "tree"]
theorem sc_key : FnScope N_key P_key (defScope s_key) := ⟨rfl, rfl, rfl, by decide +kernel, rfl, by decide +kernel, by decide +kernel⟩

theorem turn_key {d : Nat} (F : FnP K "_law_key" s_key f fd) (hm : mg "_law_key" = some (.ref f)) (Z : Zs mg) (c_size : Cal P w K mg base (d + 2) "_law_size" (spSize K (d + 1)) []) (c_key : Cal P w K mg base (d + 2) "_law_key" (spKey K d) []) : Cal P w K mg base (d + 3) "_law_key" (spKey K (d + 1)) [] := by
  refine mk_cal F hm sc_key (fun _ _ _ _ _ _ us hl => match us, hl with | [_, _], _ => rfl) (fun vs H Q E h => ?_) (fun cdv A outer s H vs Q E hr h => ?_)
  · obtain ⟨g, sg, v, t, rfl, _⟩ := h
    rfl
  obtain ⟨g, sg, v, t, rfl, hsg, gs, ht, hw, hd, q⟩ := h
  refine ⟨_, (pss_cons (ps_setLc (i := 2) (own := [("sign", 3), ("arity", 4)]) (g := (gTup K 2 (gCons (gName 3) (gCons (gName 4) gNil)))) (tt := tYes) (te := (tVar 3)) rfl sc_key.nd rfl rfl (sw_true rfl rfl rfl (by decide +kernel)) (pi_tup (pv 0)) (blkOk_by (N := N_key) (sc := defScope s_key) (by decide +kernel)) (fun _ _ _ _ _ => by exact (pg_tup rfl (pgs_cons (pg_name (i := 3) sc_key.nd rfl (Or.inl rfl)) (pgs_cons (pg_name (i := 4) sc_key.nd rfl (Or.inl rfl)) pgs_nil)))) (fun _ _ _ _ _ => by exact pts_nil) (fun _ _ _ _ _ => by exact (pv 3)))
      (pss_one (ps_ret (pe_callTy call_tuple_of (by rfl) Z.tuple (by decide +kernel) (pa_cons (pe_op op_cat (pe_lst (pa_cons (C8.pe_c c_size hr (by first | decide | omega) rfl (pa_cons (pv 1) pa_nil)) (pa_cons (pe_bm PySem.F.plainAttrs_list PySem.F.slot_list_index PySem.F.type_list_index mt_index (pv 2) (pa_cons (pe_ix ix_tup (pv 1) pe_int (fun _ _ => rfl)) pa_nil)) pa_nil))) (pe_lc (own := [("part", 5)]) (g := (gName 5)) (tt := tYes) (te := (tCall _ [] _ (tCons (tVar 0) (tCons (tVar 5) tNil)))) rfl sc_key.nd (pi_tup (pe_slice sl_tupA (pv 1) (po_some pe_int) po_none)) (blkOk_by (N := N_key) (sc := defScope s_key) (by decide +kernel)) (fun _ _ _ _ _ => by exact (pg_name (i := 5) sc_key.nd rfl (Or.inl rfl))) (fun _ _ _ _ _ => by exact pts_nil) (fun _ _ _ _ _ => by exact (C8.pe_c c_key hr (by first | decide | omega) rfl (pa_cons (pv 0) (pa_cons (pv 5) pa_nil)))))) pa_nil))))), ?_⟩
  have hp := hw.pl
  have hsym : t.sym ∈ sg.map (·.1) := List.mem_map.mpr ⟨_, hw.sym, rfl⟩
  obtain ⟨rs, hS, pr⟩ := hsg.ex
  dsimp only [tSeq, tAsg]
  refine rd_fstT (i := 0) rfl hS pr (by have := gs.len; omega) (fun _ _ => rfl) (fun _ _ => rfl) (fun D H1 nD sm hD => ?_)
  have ht1 := TrAt.keep (TK.same (K := K) sm) ht
  obtain ⟨pl, pa, pb⟩ := place_at hsym
  refine ⟨_, rfl, v, t, rfl, ht1, hp, hd, fun H2 s2 => ?_⟩
  obtain ⟨p, us, rfl, hS2, hk2⟩ := (TrAt.keep (TK.same (K := K) s2) ht1).open_ hp
  refine ⟨_, rfl, .inl ⟨rfl, _, SqL.mk (s2 _ _ hD)⟩, _, rfl, p, _, 0, _, rfl, rfl, hS2, at0 _ _, D, _, _, place sg t.sym, _, rfl, rfl, SqL.mk (s2 _ _ hD), rfl, flat_strs _, pa, beq_self_eq_true _, pb, (by show 2 ≤ sizeLine; decide), fun l nl => ?_⟩
  have tkl := TK.new (K := K) (o := .lst [.int t.size, .int (place sg t.sym : Nat)]) nl
  dsimp only [tRet, tOp, tC, tCB, tCons]
  refine rd_kids (it_tail (i := 1) rfl (tkl _ _ hS2)) (fun H v k => Dp K H v (keyD sg k) ∧ Pl k) (fun _ _ _ _ tk h => ⟨key_keep tk sg _ _ h.2 h.1, h.2⟩) (hk2.keep tkl) (Nat.le_trans t.kids_le (by decide)) (fun _ => rfl) (fun u k H' hkm sm' hu Q' q' => ?_) (fun D2 H' ws nD2 sm' hD2 hr => ?_)
  · refine ⟨_, rfl, _, rfl, g, sg, u, k, rfl, hsg.keep (TK.same (sm.trans (s2.trans ((Same.new nl).trans sm')))), gs, hu, hw.kid hkm, by have := Tr.dep_kid hkm; omega, fun v' H3 s3 r3 => q' v' H3 s3 ⟨r3, hp.kid hkm⟩⟩
  · have hlen : ws.length ≤ 2 := by rw [paired_len hr]; exact t.kids_le
    refine ⟨l, D2, _, _, rfl, rfl, sm' _ _ upd_same, hD2, ?_, fun r nr => ?_⟩
    · show 2 + ws.length ≤ sizeLine
      exact Nat.le_of_lt (small1000 (by omega))
    refine ⟨r, _, rfl, .inl ⟨SqL.mk upd_same, fun r2 nr2 => ?_⟩⟩
    refine q _ _ (sm.trans (s2.trans ((Same.new nl).trans (sm'.trans ((Same.new nr).trans (Same.new nr2)))))) ?_
    rw [keyD_eq sg hp]
    refine .tup (SqT.mk upd_same) (.cons (.int _) (.cons (.int _) ?_))
    have tk : TK K H' (upd (upd H' r (.lst ([V.int t.size, V.int (place sg t.sym : Nat)] ++ ws))) r2 (.tup ([V.int t.size, V.int (place sg t.sym : Nat)] ++ ws))) := (TK.new nr).trans (TK.new nr2)
    have all : ∀ {ws : List V} {ks : List Tr}, Paired (fun v k => Dp K H' v (keyD sg k) ∧ Pl k) ws ks → ∀ {H2 : Hp}, TK K H' H2 → DpAll K H2 ws (ks.map (keyD sg)) := fun h => by
      induction h with
      | nil => intro H2 _; exact .nil
      | cons a b ih => intro H2 tk; exact .cons (key_keep tk sg _ _ a.2 a.1) (ih tk)
    exact all hr tk
theorem ok_key (F : FnP K "_law_key" s_key f fd) (hm : mg "_law_key" = some (.ref f)) (Z : Zs mg) (c_size : ∀ d : Nat, Cal P w K mg base (d + 1) "_law_size" (spSize K d) []) : ∀ d : Nat, Cal P w K mg base (d + 2) "_law_key" (spKey K d) []
  | 0 => mk_none (ps := P_key) F hm (fun _ _ _ _ _ _ us hl => match us, hl with | [_, _], _ => rfl) (fun vs H Q E h => by
    obtain ⟨g, sg, v, t, _, _, _, _, _, hd, _⟩ := h
    have := t.dep_pos
    omega)
  | d + 1 => turn_key F hm Z (c_size (d + 1)) (ok_key F hm Z c_size d)
end
end K01

set_option Elab.async false
set_option linter.all false
set_option maxRecDepth 100000
set_option maxHeartbeats 4000000
namespace Pg
open PySem PySem.Spec PyProof.Rows L2
section
variable {X : Cx} {c : Expr} {t : TT}
/-- a test, with a word of one's own behind it -/
def tMid (t : TT) : TT := fun σ H Q => ∃ M : Bool → Hp → Prop, t σ H M ∧ ∀ b H', M b H' → Q b H'
theorem pt_mid (h : PT X c t) : PT X c (tMid t) := ⟨fun pins s σ H Q I ⟨M, hm, hq⟩ => thn (h.run pins s σ H M I hm) fun b s1 ⟨H1, I1, q⟩ => ⟨H1, I1, hq b H1 q⟩⟩
/-- a while over tests whose answer is known; the measure falls -/
theorem while_tv {tc : TT} {tb : TS} {D : Ends} {σ : L2.St} {H : Hp} (Pv : Nat → L2.St → Hp → Prop) (h0 : ∃ m, Pv m σ H)
    (hs : ∀ m σ H, Pv m σ H → ∃ b, TV tc σ H b ∧ (b = true → tb { D with nx := fun σ' H' => ∃ m', m' < m ∧ Pv m' σ' H', ct := fun σ' H' => ∃ m', m' < m ∧ Pv m' σ' H', bk := D.nx } σ H) ∧ (b = false → D.nx σ H)) : tWhile tc tb D σ H := by
  refine ⟨Pv, h0, fun m σ H p => ?_⟩
  obtain ⟨b, tv, h1, h2⟩ := hs m σ H p
  refine tv _ ?_
  cases b with
  | true => rw [if_pos rfl]; exact ⟨_, fun _ _ h => h, h1 rfl⟩
  | false => rw [if_neg Bool.false_ne_true]; exact h2 rfl
end
section
variable {K : PySem.W.Frag} {H : Hp} {Q : VK} {a b p : Addr} {xs ys : List V}
theorem rd_catA (hx : SqT K H a xs) (hy : SqT K H b ys) (h0 : xs ≠ []) (hl : xs.length + ys.length ≤ 1000) (h : ∀ p H', Same H H' → SqT K H' p (xs ++ ys) → Q (.ref p) H') : rCatA K (.ref a) (.ref b) H Q :=
  ⟨a, b, xs, ys, rfl, rfl, hx, hy, Nat.le_of_lt (small1000 hl), fun e => absurd e h0, fun _ e => h a H (Same.refl H) (by rw [e, List.append_nil]; exact hx), fun _ _ p np => h p _ (Same.new np) (SqT.mk upd_same)⟩
/-- t[:k], t[k:] of a tuple, 0 < k < its length -/
theorem to_no {i : Int} {k : Nat} {A : Prop} (e : i = (k : Int)) (hk : k < xs.length) (z : HT.sIx xs.length 0 none = 0 ∧ HT.sIx xs.length xs.length (some i) = xs.length) : A := by
  subst e
  have h := z.2
  rw [HT.sIx_nat, Nat.min_eq_left (Nat.le_of_lt hk)] at h
  omega
theorem cut_to {i : Int} {k : Nat} (e : i = (k : Int)) : cutV xs none (some i) = xs.take k := by subst e; exact cutV_take xs k
theorem cut_from {i : Int} {k : Nat} (e : i = (k : Int)) : cutV xs (some i) none = xs.drop k := by subst e; exact cutV_drop xs k
theorem from_no {i : Int} {k : Nat} {A : Prop} (e : i = (k : Int)) (hk : 0 < k) (h0 : 0 < xs.length) (z : HT.sIx xs.length 0 (some i) = 0 ∧ HT.sIx xs.length xs.length none = xs.length) : A := by
  subst e
  have h := z.1
  rw [HT.sIx_nat] at h
  omega
end
/-! ### a tree of a sign and parts -/
def mkT (s : Str) : List Tr → Tr
  | [] => .c0 s
  | [t] => .c1 s t
  | t :: u :: _ => .c2 s t u
theorem mkT_sym (s : Str) (ks : List Tr) : (mkT s ks).sym = s := by
  match ks with
  | [] => rfl
  | [_] => rfl
  | _ :: _ :: _ => rfl
theorem mkT_kids (s : Str) {ks : List Tr} (h : ks.length ≤ 2) : (mkT s ks).kids = ks := by
  match ks, h with
  | [], _ => rfl
  | [_], _ => rfl
  | [_, _], _ => rfl
  | _ :: _ :: _ :: _, h => simp at h
theorem mkT_wf {sg : Sg} {s : Str} {ks : List Tr} (h : ks.length ≤ 2) (m : (s, (ks.length : Int)) ∈ sg) (hk : ∀ k ∈ ks, Wf sg [] k) : Wf sg [] (mkT s ks) := by
  match ks, h, m, hk with
  | [], _, m, _ => exact m
  | [t], _, m, hk => exact ⟨m, hk t (List.mem_cons_self ..)⟩
  | [t, u], _, m, hk => exact ⟨m, hk t (List.mem_cons_self ..), hk u (List.mem_cons_of_mem _ (List.mem_cons_self ..))⟩
  | _ :: _ :: _ :: _, h, _, _ => simp at h
theorem mkT_dep (s : Str) {ks : List Tr} {d : Nat} (h : ks.length ≤ 2) (hk : ∀ k ∈ ks, k.dep ≤ d) : (mkT s ks).dep ≤ d + 1 := by
  match ks, h, hk with
  | [], _, _ => exact Nat.le_add_left ..
  | [t], _, hk => have := hk t (List.mem_cons_self ..); show 1 + t.dep ≤ d + 1; omega
  | [t, u], _, hk => have := hk t (List.mem_cons_self ..); have := hk u (List.mem_cons_of_mem _ (List.mem_cons_self ..)); show 1 + max t.dep u.dep ≤ d + 1; omega
  | _ :: _ :: _ :: _, h, _ => simp at h
theorem mkT_size (s : Str) {ks : List Tr} (h : ks.length ≤ 2) : (mkT s ks).size = 1 + (ks.map Tr.size).sum := by
  match ks, h with
  | [], _ => rfl
  | [t], _ => rfl
  | [t, u], _ => show 1 + t.size + u.size = 1 + (t.size + (u.size + 0)); omega
  | _ :: _ :: _ :: _, h => simp at h
theorem Tr.eta {t : Tr} (h : Pl t) : mkT t.sym t.kids = t := by
  cases t with
  | nm x => exact h.elim
  | c0 s => rfl
  | c1 s t => rfl
  | c2 s t u => rfl
theorem size_nat {t : Tr} (h : Pl t) : t.size = 1 + (t.kids.map Tr.size).sum := by
  have := mkT_size t.sym t.kids_le
  rw [Tr.eta h] at this
  exact this
theorem sum_swap : ∀ {ks : List Tr} {r : Nat} {k k' : Tr}, ks[r]? = some k → k'.size ≤ k.size + 4 → ((ks.set r k').map Tr.size).sum ≤ (ks.map Tr.size).sum + 4
  | [], _, _, _, h, _ => by simp at h
  | a :: ks, 0, k, k', h, hz => by
    obtain rfl : a = k := Option.some.inj h
    show k'.size + (ks.map Tr.size).sum ≤ a.size + (ks.map Tr.size).sum + 4
    omega
  | a :: ks, r + 1, k, k', h, hz => by
    have := sum_swap (ks := ks) (r := r) (k := k) (k' := k') h hz
    show a.size + ((ks.set r k').map Tr.size).sum ≤ a.size + (ks.map Tr.size).sum + 4
    omega
theorem kids_put {K : PySem.W.Frag} {H : Hp} {us : List V} {ks : List Tr} {r : Nat} {v : V} {k : Tr} (h : KidsAt K H us ks) (hv : TrAt K H k v) : KidsAt K H (us.set r v) (ks.set r k) := by
  induction h generalizing r with
  | nil => exact .nil
  | cons a b ih =>
    cases r with
    | zero => exact .cons hv b
    | succ r => exact .cons a (ih (r := r))
theorem cut_set {us : List V} {x v : V} {r : Nat} (h : r < us.length) : (x :: us).take (1 + r) ++ [v] ++ (x :: us).drop (1 + r + 1) = x :: us.set r v := by
  rw [Nat.add_comm 1 r, List.take_succ_cons, List.drop_succ_cons, List.set_eq_take_append_cons_drop, if_pos h]
  simp
def spChg (K : PySem.W.Frag) (d : Nat) : Sp := fun vs H Q _ => ∃ (a n g : Addr) (sg : Sg) (v : V) (t : Tr) (m : Int), vs = [.ref a, .ref g, v] ∧ StA H a n m ∧ m + 3 * (t.dep : Int) < 600000 ∧ SgAt K H g sg ∧ GSg sg ∧ TrAt K H t v ∧ Wf sg [] t ∧ t.dep ≤ d ∧
  ∀ v' t' H', TrAt K H' t' v' → Wf sg [] t' → t'.dep ≤ t.dep + 4 → t'.size ≤ t.size + 4 → Fr a H H' → StA H' a n (m + 3 * (t.dep : Int) + 15) → Q v' H'
def spRow (K : PySem.W.Frag) : Sp := fun vs H Q _ => ∃ (g : Addr) (sg : Sg) (s : Str) (ar many : Int) (v : V) (t : Tr), vs = [.ref g, .str s, .int ar, .int many, v] ∧ SgAt K H g sg ∧ GSg sg ∧ (s, ar) ∈ sg ∧ 1 ≤ ar ∧ 0 ≤ many ∧ many ≤ 200 ∧ TrAt K H t v ∧ Wf sg [] t ∧
  ∀ v' t' H', TrAt K H' t' v' → Wf sg [] t' → t'.dep ≤ t.dep + many.toNat → t'.size ≤ t.size + 2 * many.toNat → Same H H' → Q v' H'
section
variable {K : PySem.W.Frag} {σ : L2.St} {H : Hp} {Q : VK} {p : Addr} {rs : List Addr} {sg : Sg} {j1 j2 : Nat}
/-- [one for one, own in signs if own == 0] -/
theorem rd_zero {i : Nat} (hi : σ[i]? = some (some (.ref p))) (hS : SqT K H p (rs.map V.ref)) (pr : SgR K H rs sg) (h4 : sg.length ≤ 1000) (hw : ∀ x y, wipe (((wipe σ [j1, j2]).set j1 (some x)).set j2 (some y)) [j1, j2] = wipe σ [j1, j2])
    (hv : ∀ x y, (((wipe σ [j1, j2]).set j1 (some x)).set j2 (some y))[j1]? = some (some x)) (hv2 : ∀ x y, (((wipe σ [j1, j2]).set j1 (some x)).set j2 (some y))[j2]? = some (some y))
    (h : ∀ D H' zs, H D = none → Same H H' → H' D = some (.lst (zs.map V.str)) → zs.length ≤ sg.length → (∀ z ∈ zs, (z, (0 : Int)) ∈ sg) → ((∃ s ∈ sg, s.2 = 0) → zs ≠ []) → Q (.ref D) H') :
    tLc (iTup K (tVar i)) (gTup K 2 (gCons (gName j1) (gCons (gName j2) gNil))) (tTest (tOp rEq (tVar j2) (tC (.int 0)))) (tVar j1) [j1, j2] σ H Q := by
  refine ⟨_, hi, p, rfl, ⟨_, hS⟩, fun D nD => lc_tup (K := K) (xs := rs.map V.ref) (fun i H' => Same H H' ∧ ∃ zs : List Str, H' D = some (.lst (zs.map V.str)) ∧ zs.length ≤ i ∧ (∀ z ∈ zs, (z, (0 : Int)) ∈ sg) ∧ ((∃ s ∈ sg.take i, s.2 = 0) → zs ≠ []))
    ⟨Same.new nD, [], upd_same, Nat.le_refl _, (fun _ h => absurd h List.not_mem_nil), (fun ⟨s, h, _⟩ => by rw [List.take_zero] at h; exact absurd h List.not_mem_nil)⟩ (fun i H' _ iv => TK.same iv.1 _ _ hS) (fun i x H' hx iv => ?_) (fun H' iv => ?_)⟩
  · rw [List.getElem?_map] at hx
    cases e : rs[i]? with
    | none => rw [e] at hx; cases hx
    | some r =>
      rw [e] at hx
      obtain rfl : V.ref r = x := Option.some.inj hx
      obtain ⟨s, es, hr⟩ := paired_get pr e
      obtain ⟨sm, zs, hd, hl, hc, hz⟩ := iv
      have hil : i < sg.length := (List.getElem?_eq_some_iff.mp es).1
      have hs : s ∈ sg := List.mem_of_getElem? es
      refine ⟨r, _, rfl, TK.same sm _ _ hr, rfl, _, _, rfl, _, _, rfl, rfl, hw _ _, ?_⟩
      refine TV.ite (b := decide (V.int s.2 = V.int 0)) (fun Q q => ⟨_, hv2 _ _, rfl, _, rfl, q⟩) (fun e => ?_) (fun e => ?_)
      · have e0 := V.int.inj (of_decide_eq_true e)
        have hlen : (zs.map V.str).length < sizeLine := by rw [List.length_map]; exact small1000 (by omega)
        refine ⟨_, hv _ _, _, hd, hlen, Same.mut nD sm, zs ++ [s.1], by rw [List.map_append]; exact upd_same, by rw [List.length_append, List.length_singleton]; omega, fun t ht => ?_, fun _ => by simp⟩
        rcases List.mem_append.mp ht with q | q
        · exact hc t q
        · rw [List.mem_singleton] at q
          rw [q]
          exact mem_ar hs e0
      · have e0 := of_decide_eq_false e
        refine ⟨sm, zs, hd, by omega, hc, fun ⟨t, ht, h0⟩ => ?_⟩
        rw [take_snoc es] at ht
        rcases List.mem_append.mp ht with q | q
        · exact hz ⟨t, q, h0⟩
        · rw [List.mem_singleton] at q
          subst q
          exact absurd (congrArg V.int h0) e0
  · obtain ⟨sm, zs, hd, hl, hc, hz⟩ := iv
    rw [List.length_map, paired_len pr] at hl hz
    rw [List.take_length] at hz
    exact h D H' zs nD sm hd hl hc hz
end
end Pg

set_option Elab.async false
set_option linter.all false
set_option maxRecDepth 100000
set_option maxHeartbeats 4000000
namespace K01
open PySem PySem.Spec PyProof.Rows L2 Pg
section
variable {P : Program} {w : World} {K : PySem.W.Frag} {mg : Str → Option Value} {base : Heap} {f : Addr} {fd : FuncData}
abbrev s_chg : Stmt := top 15
abbrev N_chg : List Str := ["state", "signs", "tree", "sign", "arity", "at"]
abbrev P_chg : List Str := ["state", "signs", "tree"]
theorem sc_chg : FnScope N_chg P_chg (defScope s_chg) := ⟨rfl, rfl, rfl, by decide +kernel, rfl, by decide +kernel, by decide +kernel⟩

theorem turn_chg {d : Nat} (F : FnP K "_law_changed" s_chg f fd) (hm : mg "_law_changed" = some (.ref f)) (Z : Zs mg) (c_next : Cal P w K mg base 1 "_law_next" spNext []) (c_term : Cal P w K mg base 6 "_law_term" (spTerm K 4) []) (c_chg : Cal P w K mg base (d + 6) "_law_changed" (spChg K d) []) :
    Cal P w K mg base (d + 7) "_law_changed" (spChg K (d + 1)) [] := by
  refine mk_cal F hm sc_chg (fun _ _ _ _ _ _ us hl => match us, hl with | [_, _, _], _ => rfl) (fun vs H Q E h => ?_) (fun cdv A outer s H vs Q E hr h => ?_)
  · obtain ⟨a, n, g, sg, v, t, m, rfl, _⟩ := h
    rfl
  obtain ⟨a, n, g, sg, v, t, m, rfl, st, hlt, hsg, gs, ht, hw, hd, q⟩ := h
  refine ⟨_, (pss_cons (ps_asg (pe_ix ix_tup (pv 1) (C8.pe_c c_next hr (by first | decide | omega) rfl (pa_cons (pv 0) (pa_cons (pe_callB call_len_seq (by rfl) Z.len (by decide +kernel) (pa_cons (pv 1) pa_nil)) pa_nil))) (fun _ _ => rfl)) (pg_tup rfl (pgs_cons (pg_name (i := 3) sc_chg.nd rfl (by first | exact Or.inl rfl | exact Or.inr rfl)) (pgs_cons (pg_name (i := 4) sc_chg.nd rfl (by first | exact Or.inl rfl | exact Or.inr rfl)) pgs_nil))))
      (pss_cons (ps_if (pt_mid (PW.pt (pw_or (pt_cmpR op_eq (pe_callB call_len_seq (by rfl) Z.len (by decide +kernel) (pa_cons (pv 2) pa_nil)) pe_int (nomark _)) (pw_or1 (pt_cmpR op_eq (C8.pe_c c_next hr (by first | decide | omega) rfl (pa_cons (pv 0) (pa_cons pe_int pa_nil))) pe_int (nomark _)))))) (pss_cons (ps_if (pt_cmpR op_eq (pv 4) (pe_op op_sub (pe_callB call_len_seq (by rfl) Z.len (by decide +kernel) (pa_cons (pv 2) pa_nil)) pe_int) (nomark _)) (pss_one (ps_ret (pe_callTy call_tuple_of (by rfl) Z.tuple (by decide +kernel) (pa_cons (pe_op op_cat (pe_lst (pa_cons (pv 3) pa_nil)) (pe_callTy call_list_of (by rfl) Z.list (by decide +kernel) (pa_cons (pe_slice sl_tupA (pv 2) (po_some pe_int) po_none) pa_nil))) pa_nil)))) pss_nil)
      (pss_one (ps_ret (C8.pe_c c_term hr (by first | decide | omega) rfl (pa_cons (pv 0) (pa_cons (pv 1) (pa_cons (pe_lst pa_nil) (pa_cons (pe_op op_add pe_int (C8.pe_c c_next hr (by first | decide | omega) rfl (pa_cons (pv 0) (pa_cons pe_int pa_nil)))) pa_nil)))))))) pss_nil)
      (pss_cons (ps_set (i := 5) sc_chg.nd rfl (by first | exact Or.inl rfl | exact Or.inr rfl) (pe_op op_add pe_int (C8.pe_c c_next hr (by first | decide | omega) rfl (pa_cons (pv 0) (pa_cons (pe_op op_sub (pe_callB call_len_seq (by rfl) Z.len (by decide +kernel) (pa_cons (pv 2) pa_nil)) pe_int) pa_nil)))))
      (pss_one (ps_ret (pe_op op_catA (pe_op op_catA (pe_slice sl_tupA (pv 2) po_none (po_some (pv 5))) (pe_tup (pa_cons (C8.pe_c c_chg hr (by first | decide | omega) rfl (pa_cons (pv 0) (pa_cons (pv 1) (pa_cons (pe_ix ix_tup (pv 2) (pv 5) (fun _ _ => rfl)) pa_nil)))) pa_nil))) (pe_slice sl_tupA (pv 2) (po_some (pe_op op_add (pv 5) pe_int)) po_none))))))), ?_⟩
  have hp := hw.pl
  have hd0 := t.dep_pos
  obtain ⟨rs, hS, pr⟩ := hsg.ex
  have hlr : (rs.map V.ref).length = sg.length := by rw [List.length_map, paired_len pr]
  have gl := gs.len
  refine ⟨_, rfl, _, rfl, _, rfl, g, _, rfl, .inr hS, a, n, _, m, rfl, by rw [hlr]; omega, st, by omega, fun r H1 r0 r1 f1 st1 => ?_⟩
  rw [hlr] at r1
  obtain ⟨k, rfl⟩ := Int.eq_ofNat_of_zero_le r0
  have hk : k < sg.length := by omega
  have tk1 := st.tk (K := K) f1
  obtain ⟨rr, er, hrr⟩ := paired_get2 (SgR.keep tk1 pr) (List.getElem?_eq_getElem hk)
  obtain ⟨s0, har⟩ : ∃ s, sg[k] = s := ⟨_, rfl⟩
  have hs0 : s0 ∈ sg := by rw [← har]; exact List.getElem_mem hk
  rw [har] at hrr
  refine ⟨g, _, _, _, rfl, rfl, tk1 _ _ hS, atI_nat (v := V.ref rr) (by rw [List.getElem?_map, er]; rfl), rr, _, rfl, hrr, rfl, _, _, rfl, _, _, rfl, rfl, ?_⟩
  obtain ⟨p, us, rfl, hT0, hk0⟩ := ht.open_ hp
  have hul : us.length = t.kids.length := paired_len hk0
  have hT1 := tk1 _ _ hT0
  refine ⟨fun b H' => ∃ m', Pg.Fr a H1 H' ∧ StA H' a n m' ∧ m' ≤ m + 2 ∧ (b = false → us ≠ []), ?_, ?_⟩
  · refine ⟨_, rfl, p, _, rfl, .inr hT1, rfl, _, rfl, ite2 (fun e => ?_) (fun e => ?_)⟩
    · exact ⟨m + 1, Fr.refl, st1, by omega, fun z => by cases z⟩
    · refine ⟨_, rfl, a, n, 5, m + 1, rfl, by decide, st1, by omega, fun r2 H2 s0 s5 f2 st2 => ⟨rfl, _, rfl, m + 1 + 1, f2, st2, by omega, fun _ z => ?_⟩⟩
      rw [z] at e
      exact e (decide_eq_true rfl)
  rintro b H2 ⟨m', f2, st2, hm', hus⟩
  have F2 := f1.trans f2
  have tk2 := st.tk (K := K) F2
  have hT2 := tk2 _ _ hT0
  cases b with
  | true =>
    rw [if_pos rfl]
    refine ⟨_, rfl, _, rfl, p, _, rfl, .inr hT2, _, _, rfl, rfl, rfl, _, rfl, ite2 (fun e => ?_) (fun e => ?_)⟩
    · have e := V.int.inj (of_decide_eq_true e)
      have e2 : s0.2 = (t.kids.length : Int) := by rw [e, List.length_cons, hul]; omega
      refine ⟨_, rfl, (by show 1 ≤ sizeLine; decide), fun l nl => ?_⟩
      have tkl := TK.new (K := K) (o := .lst [.str s0.1]) nl
      refine ⟨_, rfl, 1, rfl, p, _, rfl, tkl _ _ hT2, fun z => tail_no z, fun _ g2 ng2 => ?_⟩
      rw [tail_cut] at *
      refine ⟨g2, _, rfl, .inr (SqT.mk upd_same), fun l2 nl2 => ?_⟩
      refine ⟨l, l2, _, _, rfl, rfl, Same.new nl2 _ _ (Same.new ng2 _ _ upd_same), upd_same, ?_, fun l3 nl3 => ?_⟩
      · show 1 + us.length ≤ sizeLine
        have := t.kids_le
        exact Nat.le_of_lt (small1000 (by omega))
      refine ⟨l3, _, rfl, .inl ⟨SqL.mk upd_same, fun r nr => ?_⟩⟩
      have fz := (Fr.new (a := a) nl).trans ((Fr.new ng2).trans ((Fr.new nl2).trans ((Fr.new nl3).trans (Fr.new (o := .tup ([V.str s0.1] ++ us)) nr))))
      have hkf := hk0.keep (tk2.trans (st2.tk fz))
      have hkl := t.kids_le
      refine q _ (mkT s0.1 t.kids) _ (TrAt.mk (Wf.pl (mkT_wf hkl (mem_ar hs0 e2) fun k hk => hw.kid hk)) (by rw [mkT_sym]; exact SqT.mk upd_same) (by rw [mkT_kids _ hkl]; exact hkf)) (mkT_wf hkl (mem_ar hs0 e2) fun k hk => hw.kid hk) ?_ ?_ (F2.trans fz) ?_
      · have := mkT_dep s0.1 (d := t.dep - 1) hkl fun k hk => by have := Tr.dep_kid hk; omega
        omega
      · rw [mkT_size _ hkl, size_nat hp]; omega
      · exact (((((st2.new nl).new ng2).new nl2).new nl3).new nr).mono (by omega)
    · refine ⟨_, rfl, _, rfl, by decide, fun l nl => ?_⟩
      refine ⟨_, rfl, a, n, 4, m', rfl, by decide, st2.new nl, by omega, fun r4 H5 u0 u4 f5 st5 => ?_⟩
      have F5 := F2.trans ((Fr.new nl).trans f5)
      refine ⟨_, _, rfl, rfl, a, n, g, l, sg, [], 1 + r4, m' + 1, rfl, st5, by omega, hsg.keep (st.tk F5), gs, SqL.mk (f5 _ _ (st2.ne nl).1 upd_same), (st2.ne nl).1, by decide, by omega, by omega, fun v' t' H6 ht' hw' hz' f6 st6 => ?_⟩
      have := t'.dep_le
      have := t.size_pos
      exact q v' t' H6 ht' hw' (by omega) (by omega) (F5.trans f6) (st6.mono (by omega))
  | false =>
    rw [if_neg Bool.false_ne_true]
    have hne := hus rfl
    have hpos : 0 < us.length := List.length_pos_iff.mpr hne
    refine ⟨_, rfl, _, rfl, p, _, rfl, .inr hT2, _, _, rfl, rfl, a, n, _, m', rfl, ?_, st2, by omega, fun r H3 r0 r1 f3 st3 => ⟨_, _, rfl, rfl, ?_⟩⟩
    · rw [List.length_cons]; omega
    obtain ⟨j, rfl⟩ := Int.eq_ofNat_of_zero_le r0
    have hj : j < us.length := by rw [List.length_cons] at r1; omega
    have ej : (1 : Int) + (j : Int) = ((1 + j : Nat) : Int) := by omega
    have ej2 : (1 : Int) + (j : Int) + 1 = ((1 + j + 1 : Nat) : Int) := by omega
    have F3 := F2.trans f3
    have tk3 := st.tk (K := K) F3
    have hT3 := tk3 _ _ hT0
    have hl0 : (V.str t.sym :: us).length = us.length + 1 := rfl
    have hkl := t.kids_le
    refine ⟨_, rfl, _, rfl, _, rfl, p, _, rfl, hT3, fun z => to_no ej (by omega) z, fun _ g1 ng1 => ?_⟩
    rw [cut_to ej] at *
    have hjk : j < t.kids.length := by omega
    obtain ⟨u, eu, hu⟩ := paired_get2 hk0 (List.getElem?_eq_getElem hjk)
    have tkg := TK.new (K := K) (o := .tup ((V.str t.sym :: us).take (1 + j))) ng1
    have hkm := List.getElem_mem hjk
    refine ⟨_, rfl, _, rfl, _, rfl, _, rfl, p, _, _, u, rfl, rfl, tkg _ _ hT3, at_of ej (by rw [Nat.add_comm 1 j]; exact eu), ?_⟩
    refine ⟨a, n, g, sg, u, t.kids[j], m' + 1, rfl, st3.new ng1, by have := Tr.dep_kid hkm; omega, hsg.keep (tk3.trans tkg), gs, TrAt.keep (tk3.trans tkg) hu, hw.kid hkm, by have := Tr.dep_kid hkm; omega, fun v' k' H4 hk' hw' hd' hz' f4 st4 => ?_⟩
    refine ⟨(by show 1 ≤ sizeLine; decide), fun r nr => ?_⟩
    have tk4 := (st3.new (o := .tup ((V.str t.sym :: us).take (1 + j))) ng1).tk (K := K) f4
    have tkr := TK.new (K := K) (o := .tup [v']) nr
    refine rd_catA (tkr _ _ (tk4 _ _ (SqT.mk upd_same))) (SqT.mk upd_same) (fun z => ?_) ?_ (fun p1 H5 s5 hp1 => ?_)
    · have := congrArg List.length z
      rw [List.length_take, hl0] at this
      simp at this
    · rw [List.length_take, List.length_singleton]; omega
    have tkA : TK K H H5 := tk3.trans (tkg.trans (tk4.trans (tkr.trans (TK.same s5))))
    refine ⟨_, rfl, _, rfl, _, _, rfl, rfl, _, rfl, p, _, rfl, tkA _ _ hT0, fun z => from_no ej2 (by omega) (by omega) z, fun _ g3 ng3 => ?_⟩
    rw [cut_from ej2] at *
    have tk5 := TK.new (K := K) (o := .tup ((V.str t.sym :: us).drop (1 + j + 1))) ng3
    refine rd_catA (tk5 _ _ hp1) (SqT.mk upd_same) (fun z => ?_) ?_ (fun p2 H6 s6 hp2 => ?_)
    · have := congrArg List.length z
      rw [List.length_append, List.length_singleton] at this
      simp at this
    · rw [List.length_append, List.length_take, List.length_drop, List.length_singleton]; omega
    rw [cut_set hj] at hp2
    have hset : (t.kids.set j k').length ≤ 2 := by rw [List.length_set]; exact hkl
    have hwk : ∀ k ∈ t.kids.set j k', Wf sg [] k := fun k hk => by
      rcases List.mem_or_eq_of_mem_set hk with h | h
      · exact hw.kid h
      · rw [h]; exact hw'
    have hwf : Wf sg [] (mkT t.sym (t.kids.set j k')) := mkT_wf hset (by rw [List.length_set]; exact hw.sym) hwk
    have F6 : Pg.Fr a H H6 := F3.trans ((Fr.new ng1).trans (f4.trans ((Fr.new nr).trans ((Fr.of s5).trans ((Fr.new ng3).trans (Fr.of s6))))))
    refine q _ (mkT t.sym (t.kids.set j k')) H6 (TrAt.mk hwf.pl (by rw [mkT_sym]; exact hp2) ?_) hwf ?_ ?_ F6 ?_
    · rw [mkT_kids _ hset]
      exact kids_put (hk0.keep (st.tk F6)) (TrAt.keep (tkr.trans ((TK.same s5).trans (tk5.trans (TK.same s6)))) hk')
    · have := mkT_dep t.sym (d := t.dep + 3) hset fun k hk => by
        rcases List.mem_or_eq_of_mem_set hk with h | h
        · have := Tr.dep_kid h; omega
        · have := Tr.dep_kid hkm; rw [h]; omega
      omega
    · rw [mkT_size _ hset, size_nat hp]
      have := sum_swap (List.getElem?_eq_getElem hjk) hz'
      omega
    · have := Tr.dep_kid hkm
      exact ((((st4.new nr).same s5).new ng3).same s6).mono (by omega)
theorem ok_chg (F : FnP K "_law_changed" s_chg f fd) (hm : mg "_law_changed" = some (.ref f)) (Z : Zs mg) (c_next : Cal P w K mg base 1 "_law_next" spNext []) (c_term : Cal P w K mg base 6 "_law_term" (spTerm K 4) []) : ∀ d : Nat, Cal P w K mg base (d + 6) "_law_changed" (spChg K d) []
  | 0 => mk_none (ps := P_chg) F hm (fun _ _ _ _ _ _ us hl => match us, hl with | [_, _, _], _ => rfl) (fun vs H Q E h => by
    obtain ⟨a, n, g, sg, v, t, m, _, _, _, _, _, _, _, hd, _⟩ := h
    have := t.dep_pos
    omega)
  | d + 1 => turn_chg F hm Z c_next c_term (ok_chg F hm Z c_next c_term d)
abbrev s_row : Stmt := top 16
abbrev N_row : List Str := ["signs", "sign", "arity", "many", "bottom", "constant", "tree", "k", "one", "own"]
abbrev P_row : List Str := ["signs", "sign", "arity", "many", "bottom"]
theorem sc_row : FnScope N_row P_row (defScope s_row) := ⟨rfl, rfl, rfl, by decide +kernel, rfl, by decide +kernel, by decide +kernel⟩

theorem ok_row (F : FnP K "_law_row" s_row f fd) (hm : mg "_law_row" = some (.ref f)) (Z : Zs mg) : Cal P w K mg base 1 "_law_row" (spRow K) [] := by
  refine mk_cal F hm sc_row (fun _ _ _ _ _ _ us hl => match us, hl with | [_, _, _, _, _], _ => rfl) (fun vs H Q E h => ?_) (fun cdv A outer s H vs Q E hr h => ?_)
  · obtain ⟨g, sg, s, ar, many, v, t, rfl, _⟩ := h
    rfl
  obtain ⟨g, sg, s, ar, many, v, t, rfl, hsg, gs, hs, ha, h0, h2, ht, hw, q⟩ := h
  refine ⟨_, (pss_cons (ps_set (i := 5) sc_row.nd rfl (by first | exact Or.inl rfl | exact Or.inr rfl) (pe_ix ix_list (pe_lc (own := [("one", 8), ("own", 9)]) (g := (gTup K 2 (gCons (gName 8) (gCons (gName 9) gNil)))) (tt := (tTest (tOp _ (tVar 9) _))) (te := (tVar 8)) rfl sc_row.nd (pi_tup (pv 0)) (blkOk_by (N := N_row) (sc := defScope s_row) (by decide +kernel)) (fun _ _ _ _ _ => by exact (pg_tup rfl (pgs_cons (pg_name (i := 8) sc_row.nd rfl (Or.inl rfl)) (pgs_cons (pg_name (i := 9) sc_row.nd rfl (Or.inl rfl)) pgs_nil)))) (fun _ _ _ _ _ => by exact (pts_one (pt_cmpR op_eq (pv 9) pe_int (nomark _)))) (fun _ _ _ _ _ => by exact (pv 8))) pe_int (fun _ _ => rfl)))
      (pss_cons (ps_set (i := 6) sc_row.nd rfl (by first | exact Or.inl rfl | exact Or.inr rfl) (pv 4))
      (pss_cons (ps_for PassesOwn.never rfl (pi_range1 (by rfl) Z.range (pa_cons (pv 3) pa_nil)) (pg_name (i := 7) sc_row.nd rfl (by first | exact Or.inl rfl | exact Or.inr rfl)) (pss_one (ps_set (i := 6) sc_row.nd rfl (by first | exact Or.inl rfl | exact Or.inr rfl) (pe_ix ix_list (pe_lst (pa_cons (pe_tup (pa_cons (pv 1) (pa_cons (pv 6) pa_nil))) (pa_cons (pe_tup (pa_cons (pv 1) (pa_cons (pe_tup (pa_cons (pv 5) pa_nil)) (pa_cons (pv 6) pa_nil)))) pa_nil))) (pe_op op_sub (pv 2) pe_int) (fun _ _ => rfl)))))
      (pss_one (ps_ret (pv 6)))))), ?_⟩
  obtain ⟨rs, hS, pr⟩ := hsg.ex
  dsimp only [tSeq, tAsg, tOp]
  refine rd_zero (i := 0) rfl hS pr (by have := gs.len; omega) (fun _ _ => rfl) (fun _ _ => rfl) (fun _ _ => rfl) (fun D H1 zs nD sm hD hl hc hz => ?_)
  obtain ⟨z, zr, rfl⟩ : ∃ z zr, zs = z :: zr := by
    cases zs with
    | nil => exact absurd rfl (hz gs.c0)
    | cons z zr => exact ⟨z, zr, rfl⟩
  have hz0 := hc z (List.mem_cons_self ..)
  refine ⟨D, _, 0, _, rfl, rfl, SqL.mk hD, at0 _ _, _, rfl, ?_⟩
  refine ⟨_, rfl, many, rfl, by omega, by omega, ?_⟩
  refine for_range (lo := 0) (n := many.toNat) (fun i σ H' => ∃ (kv : Option V) (v' : V) (t' : Tr), σ = [some (.ref g), some (.str s), some (.int ar), some (.int many), some v, some (.str z), some v', kv, none, none] ∧ TrAt K H' t' v' ∧ Wf sg [] t' ∧ t'.dep ≤ t.dep + i ∧ t'.size ≤ t.size + 2 * i ∧ Same H H')
    ⟨none, v, t, rfl, TrAt.keep (TK.same sm) ht, hw, Nat.le_refl _, Nat.le_refl _, sm⟩ ?_ ?_
  · rintro i σ H2 hi ⟨kv, v', t', rfl, ht', hw', hd', hz', sm2⟩
    refine ⟨_, rfl, _, rfl, (by show 2 ≤ sizeLine; decide), fun p np => ?_⟩
    refine ⟨_, rfl, _, rfl, (by show 1 ≤ sizeLine; decide), fun p2 np2 => ⟨_, rfl, (by show 3 ≤ sizeLine; decide), fun p3 np3 => ?_⟩⟩
    refine ⟨(by show 2 ≤ sizeLine; decide), fun l nl => ?_⟩
    have ss := (Same.new (o := .tup [.str s, v']) np).trans ((Same.new (o := .tup [.str z]) np2).trans ((Same.new (o := .tup [.str s, .ref p2, v']) np3).trans (Same.new (o := .lst [.ref p, .ref p3]) nl)))
    have hp := ((Same.new (o := .tup [.str z]) np2).trans ((Same.new (o := .tup [.str s, .ref p2, v']) np3).trans (Same.new (o := .lst [.ref p, .ref p3]) nl))) _ _ upd_same
    have hp2 := ((Same.new (o := .tup [.str s, .ref p2, v']) np3).trans (Same.new (o := .lst [.ref p, .ref p3]) nl)) _ _ upd_same
    have hp3 := (Same.new (o := .lst [.ref p, .ref p3]) nl) _ _ upd_same
    have h12 := gs.ar _ hs
    have h12 : ar = 1 ∨ ar = 2 := by
      have : ar ≤ 2 := h12.2
      omega
    have htf := TrAt.keep (TK.same (K := K) ss) ht'
    rcases h12 with rfl | rfl
    · refine ⟨_, rfl, _, _, rfl, rfl, l, _, _, _, rfl, rfl, SqL.mk upd_same, rfl, ?_⟩
      exact ⟨_, _, .c1 s t', rfl, ⟨p, v', rfl, SqT.mk hp, htf⟩, ⟨hs, hw'⟩, by show 1 + t'.dep ≤ _; omega, by show 1 + t'.size ≤ _; omega, sm2.trans ss⟩
    · refine ⟨_, rfl, _, _, rfl, rfl, l, _, _, _, rfl, rfl, SqL.mk upd_same, rfl, ?_⟩
      exact ⟨_, _, .c2 s (.c0 z) t', rfl, ⟨p3, .ref p2, v', rfl, SqT.mk hp3, ⟨p2, rfl, SqT.mk hp2⟩, htf⟩, ⟨hs, hz0, hw'⟩, by have := t'.dep_pos; show 1 + max 1 t'.dep ≤ _; omega, by show 1 + 1 + t'.size ≤ _; omega, sm2.trans ss⟩
  · rintro σ H2 ⟨kv, v', t', rfl, ht', hw', hd', hz', sm2⟩
    exact ⟨_, rfl, q v' t' H2 ht' hw' hd' hz' sm2⟩
end
end K01

set_option Elab.async false
set_option linter.all false
set_option maxRecDepth 100000
set_option maxHeartbeats 4000000
namespace Pg
open PySem PySem.Spec PyProof.Rows L2
theorem TV.or_left {t u : TT} {σ : L2.St} {H : Hp} (h : TV t σ H true) : TV (tOr t u) σ H true := fun Q q => h _ (by rw [if_pos rfl]; exact q)
/-! ### all trees within a tree, from left to right -/
def pre : Tr → List Tr
  | .nm x => [.nm x]
  | .c0 s => [.c0 s]
  | .c1 s t => .c1 s t :: pre t
  | .c2 s t u => .c2 s t u :: (pre t ++ pre u)
theorem pre_eq (t : Tr) : pre t = t :: t.kids.flatMap pre := by
  cases t with
  | nm x => rfl
  | c0 s => rfl
  | c1 s t => show _ :: pre t = _ :: (pre t ++ []); rw [List.append_nil]
  | c2 s t u => show _ :: (pre t ++ pre u) = _ :: (pre t ++ (pre u ++ [])); rw [List.append_nil]
theorem pre_len : ∀ t : Tr, (pre t).length = t.size
  | .nm _ => rfl
  | .c0 _ => rfl
  | .c1 _ t => by show (pre t).length + 1 = 1 + t.size; rw [pre_len t]; omega
  | .c2 _ t u => by show (pre t ++ pre u).length + 1 = 1 + t.size + u.size; rw [List.length_append, pre_len t, pre_len u]; omega
theorem flat_len : ∀ ts : List Tr, (ts.flatMap pre).length = (ts.map Tr.size).sum
  | [] => rfl
  | t :: ts => by rw [List.flatMap_cons, List.length_append, pre_len, flat_len ts]; rfl
theorem len_le_sum : ∀ ts : List Tr, ts.length ≤ (ts.map Tr.size).sum
  | [] => Nat.le_refl _
  | t :: ts => by have := t.size_pos; have := len_le_sum ts; show ts.length + 1 ≤ t.size + (ts.map Tr.size).sum; omega
theorem sum_rev (ts : List Tr) : (ts.reverse.map Tr.size).sum = (ts.map Tr.size).sum := by
  rw [List.map_reverse]
  exact List.sum_reverse _
theorem paired_snoc {α β : Type} {F : α → β → Prop} {y : β} : ∀ {xs : List α} {ys : List β}, Paired F xs (ys ++ [y]) → ∃ xs' x, xs = xs' ++ [x] ∧ Paired F xs' ys ∧ F x y
  | _, [], h => by
    cases h with
    | cons a b => cases b; exact ⟨[], _, rfl, .nil, a⟩
  | _, z :: ys, h => by
    cases h with
    | cons a b =>
      obtain ⟨xs', x, e, p, q⟩ := paired_snoc b
      exact ⟨_ :: xs', x, by rw [e]; rfl, .cons a p, q⟩
theorem paired_rev {α β : Type} {F : α → β → Prop} : ∀ {xs : List α} {ys : List β}, Paired F xs ys → Paired F xs.reverse ys.reverse
  | _, _, .nil => .nil
  | _, _, .cons a t => by rw [List.reverse_cons, List.reverse_cons]; exact paired_app (paired_rev t) (.cons a .nil)
/-- behind the first node: its parts stand ahead of the rest -/
def rest : List Tr → List Tr
  | [] => []
  | t :: ts => t.kids ++ ts
def restN : Nat → List Tr → List Tr
  | 0, ts => ts
  | n + 1, ts => rest (restN n ts)
theorem rest_flat (ts : List Tr) : (rest ts).flatMap pre = (ts.flatMap pre).drop 1 := by
  cases ts with
  | nil => rfl
  | cons t ts =>
    show (t.kids ++ ts).flatMap pre = ((t :: ts).flatMap pre).drop 1
    rw [List.flatMap_append, List.flatMap_cons, pre_eq t]
    rfl
theorem restN_flat : ∀ (n : Nat) (ts : List Tr), (restN n ts).flatMap pre = (ts.flatMap pre).drop n
  | 0, _ => rfl
  | n + 1, ts => by
    show (rest (restN n ts)).flatMap pre = _
    rw [rest_flat, restN_flat n ts, List.drop_drop]
/-- at the j-th node: the forest from there on begins with it -/
theorem restN_at {t k : Tr} {j : Nat} (h : (pre t)[j]? = some k) : ∃ G, restN j [t] = k :: G := by
  have e : (restN j [t]).flatMap pre = (pre t).drop j := by
    rw [restN_flat, List.flatMap_cons]
    simp
  have hlt : j < (pre t).length := (List.getElem?_eq_some_iff.mp h).1
  cases q : restN j [t] with
  | nil =>
    rw [q] at e
    have := congrArg List.length e
    rw [List.length_drop] at this
    simp at this
    omega
  | cons k' G =>
    refine ⟨G, ?_⟩
    rw [q, List.flatMap_cons, pre_eq k'] at e
    have h0 := congrArg (fun l => l[0]?) e
    have h1 : ((pre t).drop j)[0]? = some k := by rw [List.getElem?_drop]; exact h
    have h2 : some k' = some k := by
      rw [h1] at h0
      exact h0
    rw [Option.some.inj h2]
theorem restN_end (t : Tr) : restN t.size [t] = [] := by
  have e : (restN t.size [t]).flatMap pre = (pre t).drop t.size := by
    rw [restN_flat, List.flatMap_cons]
    simp
  rw [← pre_len t, List.drop_length] at e
  rw [← pre_len t]
  cases q : restN (pre t).length [t] with
  | nil => rfl
  | cons k G =>
    rw [q, List.flatMap_cons, pre_eq k] at e
    cases e
theorem Pl.pre : ∀ {t k : Tr}, Pl t → k ∈ pre t → Pl k
  | .nm _, _, h, _ => h.elim
  | .c0 s, k, h, m => by rw [show Pg.pre (.c0 s) = [.c0 s] from rfl, List.mem_singleton] at m; rw [m]; exact h
  | .c1 s t, k, h, m => by
    rcases List.mem_cons.mp (show k ∈ Tr.c1 s t :: Pg.pre t from m) with e | e
    · rw [e]; exact h
    · exact Pl.pre (t := t) h e
  | .c2 s t u, k, h, m => by
    rcases List.mem_cons.mp (show k ∈ Tr.c2 s t u :: (Pg.pre t ++ Pg.pre u) from m) with e | e
    · rw [e]; exact h
    · rcases List.mem_append.mp e with e | e
      · exact Pl.pre (t := t) h.1 e
      · exact Pl.pre (t := u) h.2 e
theorem Wf.pre {sg : Sg} : ∀ {t k : Tr}, Wf sg [] t → k ∈ pre t → Wf sg [] k
  | .nm _, _, h, _ => absurd h List.not_mem_nil
  | .c0 s, k, h, m => by rw [show Pg.pre (.c0 s) = [.c0 s] from rfl, List.mem_singleton] at m; rw [m]; exact h
  | .c1 s t, k, h, m => by
    rcases List.mem_cons.mp (show k ∈ Tr.c1 s t :: Pg.pre t from m) with e | e
    · rw [e]; exact h
    · exact Wf.pre (t := t) h.2 e
  | .c2 s t u, k, h, m => by
    rcases List.mem_cons.mp (show k ∈ Tr.c2 s t u :: (Pg.pre t ++ Pg.pre u) from m) with e | e
    · rw [e]; exact h
    · rcases List.mem_append.mp e with e | e
      · exact Wf.pre (t := t) h.2.1 e
      · exact Wf.pre (t := u) h.2.2 e
/-- the pair that the program makes of a node -/
def pairD (sg : Sg) (k : Tr) : PyData := .tuple [.int k.size, .int (place sg k.sym)]
def spNodes (K : PySem.W.Frag) : Sp := fun vs H Q _ => ∃ (v : V) (t : Tr), vs = [v, .non] ∧ TrAt K H t v ∧ Pl t ∧ t.size ≤ 1000 ∧ ∀ p H' ws, Same H H' → H' p = some (.lst ws) → KidsAt K H' ws (pre t) → Q (.ref p) H'
def spPlace (K : PySem.W.Frag) : Sp := fun vs H Q _ => ∃ (g : Addr) (sg : Sg) (s : Str), vs = [.ref g, .str s] ∧ SgAt K H g sg ∧ GSg sg ∧ s ∈ sg.map (·.1) ∧ ∀ H', Same H H' → Q (.int (place sg s : Nat)) H'
def spOkey (K : PySem.W.Frag) : Sp := fun vs H Q _ => ∃ (g : Addr) (sg : Sg) (v : V) (t : Tr), vs = [.ref g, v] ∧ SgAt K H g sg ∧ GSg sg ∧ TrAt K H t v ∧ Wf sg [] t ∧ t.size ≤ 1000 ∧ ∀ p H', Same H H' → Dp K H' (.ref p) (.list ((pre t).map (pairD sg))) → Q (.ref p) H'
theorem tyX_tup {K : PySem.W.Frag} {H : Hp} {p : Addr} {xs : List V} (h : SqT K H p xs) : TyX K H (.ref p) (.type "tuple") := by
  rcases h with (h | ⟨o, h⟩) | h
  · exact .base (.tup h)
  · exact .fTuple h
  · obtain ⟨o, its, n, e, c, _⟩ := h
    exact .kTuple e c
theorem hu_n {k n : Nat} {A : Around} (r : Room k A) (h : n ≤ 200) : A.units + n < cLine := by have := r.un; omega
theorem hu_n1 {k : Nat} {A : Around} (r : Room k A) : A.units + 70 + 1 < cLine := by have := r.un; omega
/-- a def with one default None, called without it -/
theorem mk_cal1 {P : Program} {w : World} {K : PySem.W.Frag} {mg : Str → Option Value} {base : Heap} {x : Str} {st : Stmt} {f : Addr} {fd : FuncData} {N ps : List Str} {k n : Nat} {sp : Sp} (F : FunD K x x (defArgs st) (defBody st) (defScope st) [.non] [] f fd) (hm : mg x = some (.ref f)) (S : FnScope N ps (defScope st)) (hn : n + 1 = ps.length)
    (hb : ∀ (T : Addr) (kV doc pm : Value) (an : Option Addr) (cdv ct : Value) (us its : List Value), us.length = n → its.length = 1 → ∃ k, bindArgs (PySem.W.fnOf x x (defArgs st) (defBody st) (defScope st) (.ref T) kV doc pm an cdv ct) ⟨us, []⟩ = seqItems? (.ref T) >>= k ∧ k (some its.toArray) = pure (ps.zip (us ++ its.drop 0)))
    (len : ∀ vs H Q E, sp vs H Q E → vs.length = ps.length)
    (body : ∀ (cdv : Value) (A : Around) (outer : List Env) (s : Shared) (H : Hp) (vs : List V) (Q : VK) (E : XK), Room k (A.deeper (envOfC x (defScope st) s.heap.objs.size f cdv)) → sp vs H Q E →
      ∃ t, PSs (cxOf CX0 P w K mg base N x (defScope st) f cdv A outer s H E).nox (defBody st) t ∧ t { nx := fun _ H' => Q .non H', rt := Q } (start N vs) H) : Cal P w K mg base (k + 1) x sp [.non] := by
  obtain ⟨ds, hv, hbn⟩ := F.binds1 (ps := ps) n 0 (by simp) (by simpa using hn) (fun T kV doc pm an cdv ct us its h1 h2 => hb T kV doc pm an cdv ct us its h1 (by simpa using h2))
  exact ⟨f, fd, ps, ds, F.ok S len (fun cdv A outer s H vs Q E hr h => let ⟨t, a, b⟩ := body cdv A outer s H vs Q E hr h; ⟨t, a.nox, b⟩), hm, F.kp, hbn, hv⟩
end Pg

set_option Elab.async false
set_option linter.all false
set_option maxRecDepth 100000
set_option maxHeartbeats 4000000
namespace K01
open PySem PySem.Spec PyProof.Rows L2 Pg
section
variable {P : Program} {w : World} {K : PySem.W.Frag} {mg : Str → Option Value} {base : Heap} {f : Addr} {fd : FuncData}
theorem if_turn {F G : Hp → Prop} {H : Hp} (h : F H) : (fun (b : Bool) (H1 : Hp) => if b = true then F H1 else G H1) true H := (if_pos rfl : (if true = true then F H else G H) = F H).mpr h
abbrev s_nodes : Stmt := top 1
abbrev N_nodes : List Str := ["value", "most", "nodes", "waiting", "node"]
abbrev P_nodes : List Str := ["value", "most"]
theorem sc_nodes : FnScope N_nodes P_nodes (defScope s_nodes) := ⟨rfl, rfl, rfl, by decide +kernel, rfl, by decide +kernel, by decide +kernel⟩

theorem ok_nodes (F : FunD K "nodes_of" "nodes_of" (defArgs s_nodes) (defBody s_nodes) (defScope s_nodes) [.non] [] f fd) (hm : mg "nodes_of" = some (.ref f)) (Z : Zs mg) : Cal P w K mg base 1 "nodes_of" (spNodes K) [.non] := by
  refine mk_cal1 (n := 1) F hm sc_nodes rfl (fun _ _ _ _ _ _ _ us its h1 h2 => match us, its, h1, h2 with | [_], [_], _, _ => ⟨_, rfl, rfl⟩) (fun vs H Q E h => ?_) (fun cdv A outer s H vs Q E hr h => ?_)
  · obtain ⟨v, t, rfl, _⟩ := h
    rfl
  obtain ⟨v, t, rfl, ht, hp, hz, q⟩ := h
  refine ⟨_, (pss_cons (ps_set (i := 2) sc_nodes.nd rfl (by first | exact Or.inl rfl | exact Or.inr rfl) (pe_lst pa_nil))
      (pss_cons (ps_set (i := 3) sc_nodes.nd rfl (by first | exact Or.inl rfl | exact Or.inr rfl) (pe_lst (pa_cons (pv 0) pa_nil)))
      (pss_cons (ps_while PassesOwn.never (PW.pt (pw_and (pt_truth (pv 3) (fun _ => rfl)) (pw_and1 (PW.pt (pw_or (pt_cmpR op_isN (pv 1) pe_non (nomark _)) (pw_or1 (pt_cmpR op_lt (pe_callB call_len_seq (by rfl) Z.len (by decide +kernel) (pa_cons (pv 2) pa_nil)) (pv 1) (nomark _)))))))) (pss_cons (ps_set (i := 4) sc_nodes.nd rfl (by first | exact Or.inl rfl | exact Or.inr rfl) (pe_bm0 PySem.F.plainAttrs_list PySem.F.slot_list_pop PySem.F.type_list_pop mt_pop (pv 3)))
      (pss_cons (ps_expr (pe_bm PySem.F.plainAttrs_list PySem.F.slot_list_append PySem.F.type_list_append mt_append (pv 2) (pa_cons (pv 4) pa_nil)))
      (pss_one (ps_if (pt_val (pe_callB call_isi (by rfl) Z.isinstance (by decide +kernel) (pa_cons (pv 4) (pa_cons (pe_bltn (v := .ty "tuple") rfl Z.tuple (by decide +kernel) rfl) pa_nil)))) (pss_one (ps_expr (pe_bm PySem.F.plainAttrs_list PySem.F.slot_list_extend PySem.F.type_list_extend mt_extT (pv 3) (pa_cons (pe_down (pv 4)) pa_nil)))) pss_nil)))))
      (pss_one (ps_ret (pv 2)))))), ?_⟩
  refine ⟨by decide, fun fl nfl => ?_⟩
  refine ⟨_, rfl, (by show 1 ≤ sizeLine; decide), fun wl nwl => ?_⟩
  have nwf : wl ≠ fl := (ne_of_none upd_same nwl).symm
  have nwl0 : H wl = none := same_free (Same.new nfl) nwl
  dsimp only [tSeq, gName]
  refine while_tv (fun m σ H' => ∃ (nv : Option V) (ds ws : List V) (dt wt : List Tr), σ = [some v, some .non, some (.ref fl), some (.ref wl), nv] ∧ H' fl = some (.lst ds) ∧ H' wl = some (.lst ws) ∧ KidsAt K H' ds dt ∧ KidsAt K H' ws wt ∧ (∀ k ∈ wt, Pl k) ∧ dt ++ wt.reverse.flatMap pre = pre t ∧ m = (wt.map Tr.size).sum ∧ Same H H')
    ⟨_, none, [], [v], [], [t], rfl, by rw [upd_ne nwf.symm]; exact upd_same, upd_same, .nil, .cons (TrAt.keep ((TK.new nfl).trans (TK.new nwl)) ht) .nil, (fun k hk => by rw [List.mem_singleton] at hk; rw [hk]; exact hp), by simp, rfl, (Same.new nfl).trans (Same.new nwl)⟩ ?_
  rintro m σ H1 ⟨nv, ds, ws, dt, wt, rfl, hf, hwl, hds, hws, hpl, heq, rfl, sm⟩
  refine ⟨!ws.isEmpty && true, TV.and (fun Q q => ⟨_, rfl, !ws.isEmpty, .inl ⟨ws, SqL.mk hwl, rfl⟩, q⟩) (TV.or_left (fun Q q => ⟨_, rfl, rfl, _, rfl, q⟩)), fun e => ?_, fun e => ?_⟩
  · have hlen := congrArg List.length heq
    rw [List.length_append, flat_len, sum_rev, pre_len] at hlen
    rcases List.eq_nil_or_concat wt with rfl | ⟨wt', k, ewt⟩
    · cases hws
      cases e
    · rw [List.concat_eq_append] at ewt
      subst ewt
      obtain ⟨ws', y, rfl, hws', hy⟩ := paired_snoc hws
      have hpk := hpl k (List.mem_append_right _ (List.mem_singleton.mpr rfl))
      have hsum : ((wt' ++ [k]).map Tr.size).sum = (wt'.map Tr.size).sum + k.size := by rw [List.map_append, List.sum_append]; simp
      have hwlen := len_le_sum wt'
      have hks := size_nat hpk
      have hkl := len_le_sum k.kids
      refine ⟨_, rfl, .inl ⟨rfl, _, SqL.mk hwl⟩, wl, _, y, rfl, rfl, hwl, ?_, ?_⟩
      · rw [List.length_append, List.length_singleton, Nat.add_sub_cancel, List.getElem?_append_right (Nat.le_refl _), Nat.sub_self]; rfl
      rw [List.dropLast_concat]
      have tkw : TK K H1 (upd H1 wl (.lst ws')) := TK.put hwl
      have hf1 : (upd H1 wl (.lst ws')) fl = some (.lst ds) := by rw [upd_ne nwf.symm]; exact hf
      refine ⟨_, rfl, .inl ⟨rfl, _, SqL.mk hf1⟩, _, rfl, fl, _, _, rfl, rfl, hf1, by rw [paired_len hds]; exact small1000 (by omega), ?_⟩
      have tkf : TK K (upd H1 wl (.lst ws')) (upd (upd H1 wl (.lst ws')) fl (.lst (ds ++ [y]))) := TK.put hf1
      have hwl2 : (upd (upd H1 wl (.lst ws')) fl (.lst (ds ++ [y]))) wl = some (.lst ws') := by rw [upd_ne nwf]; exact upd_same
      obtain ⟨p, us, rfl, hS, hk⟩ := hy.open_ hpk
      have hS2 := tkf _ _ (tkw _ _ hS)
      have hk2 := hk.keep (tkw.trans tkf)
      have hul := paired_len hk
      refine ⟨_, rfl, _, _, .type "tuple", .type "tuple", true, rfl, .ty "tuple", tyX_tup hS2, kit_ty (by decide +kernel), _, rfl, ?_⟩
      refine if_turn ?_
      refine ⟨_, rfl, .inl ⟨rfl, _, SqL.mk hwl2⟩, _, rfl, p, _, rfl, hS2, fun r nr => ?_⟩
      have hwl3 : (upd (upd (upd H1 wl (.lst ws')) fl (.lst (ds ++ [V.ref p]))) r (.tup ((V.str k.sym :: us).drop 1).reverse)) wl = some (.lst ws') := by rw [upd_ne (ne_of_none hwl2 nr)]; exact hwl2
      have tkr := TK.new (K := K) (o := .tup ((V.str k.sym :: us).drop 1).reverse) nr
      refine ⟨wl, r, _, _, rfl, rfl, hwl3, SqT.mk upd_same, ?_, ?_⟩
      · show ws'.length + (us.reverse).length ≤ sizeLine
        rw [List.length_reverse, paired_len hws', hul]
        exact Nat.le_of_lt (small1000 (by omega))
      have tk4 := tkw.trans (tkf.trans (tkr.trans (TK.put (o := .lst (ws' ++ ((V.str k.sym :: us).drop 1).reverse)) hwl3)))
      have hf2 : (upd (upd (upd H1 wl (.lst ws')) fl (.lst (ds ++ [V.ref p]))) r (.tup ((V.str k.sym :: us).drop 1).reverse)) fl = some (.lst (ds ++ [V.ref p])) := by rw [upd_ne (ne_of_none upd_same nr)]; exact upd_same
      refine ⟨(wt'.map Tr.size).sum + (k.kids.map Tr.size).sum, by omega, _, ds ++ [V.ref p], ws' ++ us.reverse, dt ++ [k], wt' ++ k.kids.reverse, rfl, by rw [upd_ne nwf.symm]; exact hf2, upd_same, ?_, ?_, fun c hc => ?_, ?_, ?_, ?_⟩
      · exact paired_app (hds.keep tk4) (.cons (TrAt.keep tk4 hy) .nil)
      · exact paired_app ((show KidsAt K H1 ws' wt' from hws').keep tk4) (paired_rev (hk.keep tk4))
      · rcases List.mem_append.mp hc with h | h
        · exact hpl c (List.mem_append_left _ h)
        · exact hpk.kid (List.mem_reverse.mp h)
      · rw [List.reverse_append, List.reverse_singleton, List.flatMap_append] at heq
        rw [List.reverse_append, List.reverse_reverse, List.flatMap_append, ← heq]
        have : [k].flatMap pre = k :: k.kids.flatMap pre := by rw [List.flatMap_cons, pre_eq k]; simp
        rw [this]
        simp
      · rw [List.map_append, List.sum_append, sum_rev]
      · exact Same.mut nwl0 ((Same.mut nfl (Same.mut nwl0 sm)).trans (Same.new nr))
  · have : ws = [] := by
      cases ws with
      | nil => rfl
      | cons a b => cases e
    subst this
    cases hws
    rw [List.reverse_nil, List.flatMap_nil, List.append_nil] at heq
    rw [heq] at hds
    exact ⟨_, rfl, q fl H1 ds sm hf hds⟩
end
end K01

set_option Elab.async false
set_option linter.all false
set_option maxRecDepth 100000
set_option maxHeartbeats 4000000
namespace Pg
open PySem PySem.Spec PyProof.Rows L2
/-! ### enumerate(tuple) -/
set_option maxHeartbeats 4000000 in
theorem meets_enumerate_newT (l : Addr) (items : Array Value) (n : Nat) (dct : Option Addr) (sl : Array (Option Value)) :
    Meets (Builtin.«enumerate.__new__» ⟨[.type "enumerate", .ref l], []⟩) (fun _ R s => s.heap.get? l = some { cls := .type "tuple", dict := dct, data := .seq items n, slots := sl } ∧
      R (.ok (.ret (.ref (s.heap.push { cls := .type "tuple_iterator", data := .fields #[.ref l, .int 0 0] }).objs.size)))
        { s with heap := (s.heap.push { cls := .type "tuple_iterator", data := .fields #[.ref l, .int 0 0] }).push { cls := .type "enumerate", data := .fields #[.none, .bool false, .ref s.heap.objs.size, rawInt 0, .none, .none] } }) :=
  .of_wp fun prog w A R s h => by
    obtain ⟨hp, g, d, tk, os⟩ := s; obtain ⟨hl, h⟩ := h
    have hsub := sub_enumerate
    have hL : Heap.IsTuple (Shared.heap ⟨hp, g, d, tk, os⟩) l items := ⟨_, hl, rfl, n, rfl⟩
    wp_walk using AutoSeq1.wpAny_loadPart' hl
    refine wpAny_stack_any fun st => wpAny_pure ?_
    split
    · rename_i c _ _ _ _ _
      cases (c == Value.type "enumerate")
      · wp_walk using AutoSeq1.wpAny_loadPart' hl, wpAny_pyIter_tuple hL
        exact ⟨_, rfl, h⟩
      · wp_walk using AutoSeq1.wpAny_loadPart' hl, wpAny_pyIter_tuple hL
        exact ⟨_, rfl, h⟩
    · wp_walk using AutoSeq1.wpAny_loadPart' hl, wpAny_pyIter_tuple hL
      exact ⟨_, rfl, h⟩
theorem call_enumerate_tup {prog : Program} {w : World} {A : Around} {E : Value → Shared → Prop} {s : Shared} {l : Addr} {items : Array Value} {Q : Value → Shared → Prop} (hL : s.heap.IsTuple l items)
    (h : ∀ h', IsEnum h' (s.heap.objs.size + 1) s.heap.objs.size 0 .none → h'.IsTupleIter s.heap.objs.size l 0 → h'.objs.size = s.heap.objs.size + 2 →
      (∀ b o, s.heap.get? b = some o → h'.get? b = some o) → Q (.ref (s.heap.objs.size + 1)) { s with heap := h' }) :
    wpAny (model prog w) A (call (.type "enumerate") [.ref l]) Q E s := by
  obtain ⟨⟨c, dct, dt, sl⟩, hl, hc, n, hd⟩ := hL
  replace hc : c = .type "tuple" := hc
  replace hd : dt = .seq items n := hd
  subst hc hd
  refine callType_new F.called_enumerate (by decide) (F.typeCall_enumerate_1 _) (F.newCall_enumerate_1 _) (fun obj => F.args_object_init_2 obj _) F.entry_enumerate_new
    (meets_enumerate_newT l items n dct sl) ⟨hl, ?_⟩
  have hz : (s.heap.push { cls := .type "tuple_iterator", data := .fields #[.ref l, .int 0 0] }).objs.size = s.heap.objs.size + 1 := Heap.size_push ..
  show _ ∧ _
  rw [hz]
  have he : IsEnum ((s.heap.push { cls := .type "tuple_iterator", data := .fields #[.ref l, .int 0 0] }).push
      { cls := .type "enumerate", data := .fields #[.none, .bool false, .ref s.heap.objs.size, rawInt 0, .none, .none] }) (s.heap.objs.size + 1) s.heap.objs.size 0 .none := by
    have := Heap.get?_push_size (s.heap.push { cls := .type "tuple_iterator", data := .fields #[.ref l, .int 0 0] })
      (o := { cls := .type "enumerate", data := .fields #[.none, .bool false, .ref s.heap.objs.size, rawInt 0, .none, .none] }) rfl
    rw [hz] at this; exact this
  refine ⟨⟨_, he, rfl⟩, h _ he ⟨_, Heap.get?_push_of_some _ (Heap.get?_push_size _ rfl), rfl, rfl⟩ (by rw [Heap.size_push, hz]) fun b o x => Heap.get?_push_of_some _ (Heap.get?_push_of_some _ x)⟩
/-- the tuple at a, each item in a new pair -/
def IteT (K : PySem.W.Frag) (a : Addr) : It :=
  ⟨fun i H => ∃ (xs : List V) (x : V), SqT K H a xs ∧ xs[i]? = some x, fun i H v H' => ∃ T x, v = .ref T ∧ H T = none ∧ H' = upd H T (.tup [.int (i : Nat), x]) ∧ ∀ xs, SqT K H a xs → xs[i]? = some x, fun i H => ∃ xs : List V, SqT K H a xs ∧ xs.length = i⟩
theorem turn_enumT {P : Program} {w : World} {K : PySem.W.Frag} {elts : List Expr} {kk : Nat} {tpos : Pos} (a e it : Addr) :
    Turn P w K (.Tuple elts kk tpos) (IteT K a) [e, it] e (fun i h => (∃ old, IsEnum h e it ((i : Nat) : Int) old) ∧ h.IsTupleIter it a i ∧ e ≠ it ∧ a ≠ e ∧ a ≠ it) where
  mem := by simp
  obj := fun i h st b hb => by
    obtain ⟨⟨old, he⟩, ⟨o, ho, hc, hd⟩, _⟩ := st
    have e' : b = e ∨ b = it := by simpa using hb
    rcases e' with z | z
    · rw [z]; exact ⟨_, he, fun v q => nomatch q⟩
    · rw [z]; exact ⟨o, ho, fun v q => by rw [hd] at q; cases q⟩
  keep := fun i h h' st k => let ⟨⟨old, he⟩, hi, hne⟩ := st; ⟨⟨old, k e (by simp) _ he⟩, hi.at fun o q => k it (by simp) o q, hne⟩
  item := by
    intro X hP hw hK hc i pins s σ H E I hf st hg
    subst hP hw hK
    obtain ⟨⟨old, he⟩, hit, hne, hae, hai⟩ := st
    obtain ⟨xs, x, hq, hx⟩ := hg
    obtain ⟨its, rv, p, hz⟩ := I.tuple hq
    obtain ⟨u, hu, ru⟩ := rv.get hx
    have hel : e < s.heap.objs.size := Heap.lt_size he
    have hil : it < s.heap.objs.size := by obtain ⟨_, q, _⟩ := hit; exact Heap.lt_size q
    have hlt : i < its.toArray.size := by
      have := (List.getElem?_eq_some_iff.mp hu).1
      simpa using this
    have D := Draws.tuple (prog := X.prog) (w := X.w) (A := X.A.in1) (I.ok.hd hc) it a hai its.toArray
    refine wpAny_pyNext_enum_itemD D he ⟨hit, p⟩ hlt hne (by simp [hne, Ne.symm hae]) fun x' h' tk hPx ho hst' hT hsz hk => ?_
    have ex' : x' = u := by
      have h1 : its[i]? = some x' := by simpa using hPx
      rw [hu] at h1
      exact (Option.some.inj h1).symm
    subst ex'
    have hit' := hst'.1
    refine ⟨_, rfl, wpAny_letOwnedTupleGo_enum (s := { s with heap := h', toks := tk + 1 }) ho fun h'' he' sb => ?_⟩
    have hT2 : h''.get? s.heap.objs.size = some { cls := .type "tuple", data := .seq #[.int i tk, x'] } := (sb.2 _ (Nat.ne_of_gt hel)).trans hT
    have new : ObjOk X.prog X.w (upd H s.heap.objs.size (.tup [.int (i : Nat), x])) h'' s.heap.objs.size (.tup [.int (i : Nat), x]) :=
      ⟨by show 2 ≤ sizeLine; decide, [.int i tk, x'], .cons ⟨_, rfl⟩ (.cons ru .nil), ⟨_, hT2, rfl, _, rfl⟩⟩
    have I1 : Inv X pins σ (upd H s.heap.objs.size (.tup [.int (i : Nat), x])) { s with heap := h'', toks := tk + 1 } :=
      I.turnedNew (ch := [e, it]) (fun b ob hb q => (sb.2 b (fun z => hb (by simp [z]))).trans (hk b ob (fun z => hb (by simp [z])) (fun z => hb (by simp [z])) q)) hf (Nat.le_refl _) new
    refine ⟨.ref s.heap.objs.size, _, I1, rfl, ⟨_, x, rfl, I.hok.fresh (Nat.le_refl _), rfl, fun ys hy => by rw [I.tuple_inj hy hq]; exact hx⟩, ⟨⟨x', ?_⟩, hit'.at fun o q => (sb.2 it (Ne.symm hne)).trans q, hne, hae, hai⟩, fun b hb => ?_⟩
    · have e1 : ((i + 1 : Nat) : Int) = (i : Int) + 1 := by omega
      rw [e1]; exact he'
    · have hb' : b < s.heap.objs.size := by
        have e' : b = e ∨ b = it := by simpa using hb
        rcases e' with z | z
        · rw [z]; exact hel
        · rw [z]; exact hil
      rw [upd_ne (Nat.ne_of_lt hb')]
      exact (hf b hb).1
  done := by
    intro X hP hw hK hc i pins s σ H E I hf st hg
    subst hP hw hK
    obtain ⟨⟨old, he⟩, hit, hne, hae, hai⟩ := st
    obtain ⟨xs, hq, hx⟩ := hg
    obtain ⟨its, rv, p, hz⟩ := I.tuple hq
    obtain ⟨f0, f1, f2, f3, f4, f5⟩ := hf it (by simp)
    have hl := rv.length
    have D := Draws.tuple (prog := X.prog) (w := X.w) (A := X.A.in1) (I.ok.hd hc) it a hai its.toArray
    have hi : i = its.toArray.size := by simp; omega
    exact wpAny_pyNext_enum_endD D he (by rw [← hi]; exact ⟨hit, p⟩) fun h' eb => ⟨rfl, I.turned (t' := s.toks) (fun b o hb q => eb b o hb q) f0 f1 f3 f4 f5⟩
  self := fun A i s Q E st h => let ⟨⟨_, he⟩, _⟩ := st; wpAny_pyIter_enum he h
def iEnumT (K : PySem.W.Frag) (ta : TA) : TI := fun σ H R => ta σ H fun vs H1 => ∃ a xs, vs = [.ref a] ∧ SqT K H1 a xs ∧ R (IteT K a) H1
theorem pi_enumT {X : Cx} {e : Expr} {ta : TA} {p pos tpos : Pos} {elts : List Expr} {kk : Nat} (hg : Gl X "enumerate") (hm : X.mg "enumerate" = none) (ha : PA X [e] ta) (hs : starEach [e] X.env = [(false, eval e X.env)] := by rfl) :
    PI X (.Tuple elts kk tpos) (.Call (.Name "enumerate" p) [e] [] pos) (iEnumT X.K ta) := by
  refine ⟨fun pins s σ H R I h => ?_⟩
  refine Call_ (ld_blt I hg hm boot_enumerate (PyProof.Rows.callWith_type1 (thn (ha.run pos pins s σ H _ I h) fun us s1 ⟨vs, H1, I1, r1, q1⟩ => ?_) hs rfl))
  obtain ⟨a, xs, ex, hq, q⟩ := q1
  subst ex
  cases r1 with
  | cons r rr =>
    cases rr
    cases r
    obtain ⟨its, rv, p', hz⟩ := I1.tuple hq
    have hal : a < s1.heap.objs.size := by obtain ⟨_, q, _⟩ := p'; exact Heap.lt_size q
    refine call_enumerate_tup p' fun h' he hit hsz hk => wpAny_pyIter_enum he ?_
    have I2 : Inv X pins σ H1 { s1 with heap := h' } := I1.kept (t' := s1.toks) hk
    refine ⟨s1.heap.objs.size + 1, [s1.heap.objs.size + 1, s1.heap.objs.size], _, _, H1, rfl, I2, turn_enumT a (s1.heap.objs.size + 1) s1.heap.objs.size, ⟨⟨.none, he⟩, hit, Nat.succ_ne_self _, Nat.ne_of_lt (Nat.lt_succ_of_lt hal), Nat.ne_of_lt hal⟩, fun b hb => ?_, q⟩
    have e' : b = s1.heap.objs.size + 1 ∨ b = s1.heap.objs.size := by simpa using hb
    have hle : s1.heap.objs.size ≤ b := by
      rcases e' with z | z
      · rw [z]; exact Nat.le_add_right _ _
      · rw [z]; exact Nat.le_refl _
    exact I1.fpOk hle (I1.hok.fresh hle)
section
variable {X : Cx}
/-- name = {..} on one line, the name a local -/
theorem ps_setDc {i : Nat} {y : Str} {py : Pos} {kx vx tg iter : Expr} {ifs : List Expr} {scope : Scope} {own : List (Str × Nat)} {pos spos : Pos} {wi : TI} {g : TG} {tt : TT} {tk tv : TE} (hc : X.calm = true) (hN : X.N.Nodup) (hy : X.N[i]? = some y) (hyl : X.env.scope.names.lookup y = some .local)
    (hsw : swapsWith (.DictComp kx vx [⟨tg, iter, ifs, 0⟩] scope pos) (some (.Name y py)) spos.line X.env = pure true) (hi : PI X tg iter wi) (ok : BlkOk X.N X.env.scope scope own)
    (hg : ∀ (s : Shared) (H : Hp) (C : Addr) (cl : List (Str × Addr)) (fp : List Addr), PG (X.blk s H scope (compEnvC scope cl C X.env) fp) tg g) (ht : ∀ (s : Shared) (H : Hp) (C : Addr) (cl : List (Str × Addr)) (fp : List Addr), PTs (X.blk s H scope (compEnvC scope cl C X.env) fp) ifs tt)
    (hk : ∀ (s : Shared) (H : Hp) (C : Addr) (cl : List (Str × Addr)) (fp : List Addr), PE (X.blk s H scope (compEnvC scope cl C X.env) fp) kx tk)
    (he : ∀ (s : Shared) (H : Hp) (C : Addr) (cl : List (Str × Addr)) (fp : List Addr), PE (X.blk s H scope (compEnvC scope cl C X.env) fp) vx tv) (hs : ∀ x, foldedSetIterable iter X.env x = pure x := by intro _; rfl) :
    PS X (.Assign [.Name y py] (.DictComp kx vx [⟨tg, iter, ifs, 0⟩] scope pos) spos) (tAsg (tDc wi g tt tk tv (own.map (·.2))) (gName i)) := by
  refine ⟨fun pins s σ H D I h => ?_⟩
  rw [exec_Assign_Name_used _ _ _ _ hsw]
  refine wpAny_bind (wpAny_standAt (wpAny_bind ?_))
  show wpAny _ X.A (do let _ ← comprehension (.DictComp kx vx [⟨tg, iter, ifs, 0⟩] scope pos) scope X.env (firstIterPos [⟨tg, iter, ifs, 0⟩] pos) newDict false (eval iter X.env) (some (assign (.Name y py) X.env))) _ _ s
  have h : tDc wi g tt tk tv (own.map (·.2)) σ H (fun x H1 => gName i x σ H1 D.nx) := h
  refine wpAny_bind (thn (dc_core (Qf := fun _ s' => SP X pins D .next s') hc hN I hi ok hg ht hk he hs h fun L C s' m H' I' q hn f => ?_) fun _ s' hq => wpAny_pure (wpAny_pure hq))
  show wpAny _ _ (assign (.Name y py) X.env (.ref L)) _ _ _
  refine wpAny_assign_Name (store_ok2 (v := V.ref L) I' hN hy (.inl hyl) rfl (fun s2 I2 ⟨a, sb, ha⟩ => ?_) (.inr hyl))
  obtain ⟨f0, f1, f2, f3, f4, f5⟩ := f
  have haC : C ≠ a := by
    rcases ha with z | z
    · rw [z]; exact f1
    · exact fun e => f4 y a z e.symm
  refine ⟨m, hn.sameBut sb haC, fun h3 sb3 => ?_⟩
  exact ⟨_, H', I2.turned (t' := s2.toks) (fun b o hb e => (sb3.2 b hb).trans e) f0 f1 f3 f4 f5, q⟩
theorem swD_true {kx vx : Expr} {gs : List Comprehension} {scope : Scope} {pos py : Pos} {y : Str} {l : Nat} {env : Env} (hk : env.scope.kind = .function) (hy : env.scope.names.lookup y = some .local) (hl : (py.line == pos.line) = true)
    (ha : (scope.names.any fun (n, k) => n == y && (k == .local || k == .cell)) = false) : swapsWith (.DictComp kx vx gs scope pos) (some (.Name y py)) l env = pure true := by
  have ky : env.kindOf y = some .local := hy
  have hb : env.blockKind = .function := by unfold Env.blockKind; rw [hk]; rfl
  unfold swapsWith
  simp only [hb, ky, ha, Expr.pos, hl]
  rfl
end
/-! ### dict comprehensions over any walk -/
/-- a dict comprehension over a walk: Pv by the turn and the heap (the new dict at D within) -/
theorem dc_any {J : It} {n : Nat} {g : TG} {tt : TT} {tk tv : TE} {vs : List Nat} {σ : L2.St} {H1 : Hp} {D : Addr} {Qd : Hp → Prop} (Pv : Nat → Hp → Prop) (h0 : Pv 0 (upd H1 D (.dK [])))
    (hgo : ∀ i H, i < n → Pv i H → J.go i H) (hstop : ∀ H, Pv n H → J.stop n H)
    (hs : ∀ i x H H', i < n → Pv i H → J.yld i H x H' → g x (wipe σ vs) H' fun σ2 H2 => wipe σ2 vs = wipe σ vs ∧ tt σ2 H2 fun b H3 =>
      if b = true then tk σ2 H3 fun y H4 => tv σ2 H4 fun z H5 => ∃ kvs k, y = kV k ∧ H5 D = some (.dK kvs) ∧ kvs.length < sizeLine ∧ Pv (i + 1) (upd H5 D (.dK (putK kvs k z))) else Pv (i + 1) H3) (hd : ∀ H, Pv n H → Qd H) :
    ∃ W : Nat → Nat → Hp → Prop, (∃ m, W 0 m (upd H1 D (.dK []))) ∧ ∀ i m H, W i m H →
      (J.stop i H ∧ Qd H) ∨ (J.go i H ∧ ∃ Nx : Hp → Prop, (∀ H', Nx H' → ∃ m', m' < m ∧ W (i + 1) m' H') ∧ ∀ x H', J.yld i H x H' → g x (wipe σ vs) H' fun σ2 H2 => wipe σ2 vs = wipe σ vs ∧ tt σ2 H2 fun b H3 =>
        if b = true then tk σ2 H3 fun y H4 => tv σ2 H4 fun z H5 => ∃ kvs k, y = kV k ∧ H5 D = some (.dK kvs) ∧ kvs.length < sizeLine ∧ Nx (upd H5 D (.dK (putK kvs k z))) else Nx H3) := by
  refine ⟨fun i m H => m = n - i ∧ i ≤ n ∧ Pv i H, ⟨n, by simp, Nat.zero_le _, h0⟩, ?_⟩
  rintro i m H ⟨rfl, hi, p⟩
  by_cases hlt : i < n
  · exact .inr ⟨hgo i H hlt p, Pv (i + 1), fun H' p' => ⟨n - (i + 1), by omega, rfl, hlt, p'⟩, fun x H' y => hs i x H H' hlt p y⟩
  · have e : i = n := by omega
    subst e
    exact .inl ⟨hstop H p, hd H p⟩
/-- pairs of keys that are all different, put one after the other -/
theorem putK_new {kvs : List (Key × V)} {k : Key} {v : V} (h : k ∉ kvs.map (·.1)) : putK kvs k v = kvs ++ [(k, v)] := by
  unfold putK
  rw [if_neg]
  intro e
  obtain ⟨p, hp, e2⟩ := List.any_eq_true.mp e
  exact h (List.mem_map.mpr ⟨p, hp, of_decide_eq_true e2⟩)
end Pg

set_option Elab.async false
set_option linter.all false
set_option maxRecDepth 100000
set_option maxHeartbeats 4000000
namespace Pg
open PySem PySem.Spec PyProof.Rows L2 PySem.W
abbrev Tk := Int ⊕ List Nat
/-- the first difference of two rows of signs is that of two numbers -/
def Dif (a b : List Tk) (p q : Int) : Prop := ∃ l x y, a = l ++ Sum.inl p :: x ∧ b = l ++ Sum.inl q :: y
theorem Dif.pre {a b : List Tk} {p q : Int} (c : List Tk) (h : Dif a b p q) : Dif (c ++ a) (c ++ b) p q := by
  obtain ⟨l, x, y, rfl, rfl⟩ := h
  exact ⟨c ++ l, x, y, by rw [List.append_assoc], by rw [List.append_assoc]⟩
theorem Dif.app {a b : List Tk} {p q : Int} (c d : List Tk) (h : Dif a b p q) : Dif (a ++ c) (b ++ d) p q := by
  obtain ⟨l, x, y, rfl, rfl⟩ := h
  exact ⟨l, x ++ c, y ++ d, by simp, by simp⟩
theorem Dif.lt {a b : List Tk} {p q : Int} (h : Dif a b p q) (hne : p ≠ q) : lexLt itemOrd a b = decide (p < q) := by
  obtain ⟨l, x, y, rfl, rfl⟩ := h
  rw [lex_pre]
  exact lex_diff (O := itemOrd) (fun e => hne (Sum.inl.inj e))
theorem Dif.swap {a b : List Tk} {p q : Int} (h : Dif a b p q) : Dif b a q p := by
  obtain ⟨l, x, y, e, f⟩ := h
  exact ⟨l, y, x, f, e⟩
theorem Dif.ne {a b : List Tk} {p q : Int} (h : Dif a b p q) (hne : p ≠ q) : a ≠ b := by
  obtain ⟨l, x, y, rfl, rfl⟩ := h
  intro e
  have := List.append_cancel_left e
  injection this with h1 h2
  exact hne (Sum.inl.inj h1)
/-- the signs of the nodes of a tree, from left to right -/
def nt (sg : Sg) (k : Tr) : List Tk := [.inl 1, .inl 1, .inl k.size, .inl 1, .inl (place sg k.sym), .inl 0]
def pt (sg : Sg) (t : Tr) : List Tk := (pre t).flatMap (nt sg)
theorem toks_pair (sg : Sg) (k : Tr) : Sum.inl 1 :: keyToks (pairD sg k) = nt sg k := rfl
theorem toks_pairs (sg : Sg) : ∀ ks : List Tr, keyToksAll (ks.map (pairD sg)) = ks.flatMap (nt sg) ++ [.inl 0]
  | [] => rfl
  | k :: ks => by
    rw [List.map_cons, keyToksAll, toks_pairs sg ks, List.flatMap_cons, List.append_assoc]
    rfl
theorem toks_ok (sg : Sg) (t : Tr) : keyToks (.list ((pre t).map (pairD sg))) = pt sg t ++ [.inl 0] := by
  rw [keyToks]
  exact toks_pairs sg _
theorem pt_eq (sg : Sg) (t : Tr) : pt sg t = nt sg t ++ t.kids.flatMap (pt sg) := by
  show (pre t).flatMap (nt sg) = _
  rw [pre_eq, List.flatMap_cons]
  congr 1
  induction t.kids with
  | nil => rfl
  | cons k ks ih => rw [List.flatMap_cons, List.flatMap_append, ih]; rfl
theorem toks_key (sg : Sg) {t : Tr} (h : Pl t) : keyToks (keyD sg t) = [.inl 1, .inl t.size, .inl 1, .inl (place sg t.sym)] ++ keyToksAll (t.kids.map (keyD sg)) := by
  rw [keyD_eq sg h, keyToks, keyToksAll, keyToksAll, keyToks, keyToks]
  rfl
def Df (sg : Sg) (t u : Tr) : Prop := ∃ p q : Int, p ≠ q ∧ Dif (keyToks (keyD sg t)) (keyToks (keyD sg u)) p q ∧ Dif (pt sg t) (pt sg u) p q
theorem Wf.mem {sg : Sg} {t : Tr} (h : Wf sg [] t) : t.sym ∈ sg.map (·.1) := List.mem_map.mpr ⟨_, h.sym, rfl⟩
theorem place_inj {sg : Sg} {x y : Str} (hx : x ∈ sg.map (·.1)) (hy : y ∈ sg.map (·.1)) (e : place sg x = place sg y) : x = y := by
  have h1 := (place_at hx).2.1
  have h2 := (place_at hy).2.1
  rw [e, h2] at h1
  cases h1
  rfl
theorem ar_eq' {x : Str} {i j : Int} : ∀ {sg : Sg}, (sg.map (·.1)).Nodup → (x, i) ∈ sg → (x, j) ∈ sg → i = j
  | [], _, h, _ => absurd h List.not_mem_nil
  | s :: sg, nd, h1, h2 => by
    rw [List.map_cons, List.nodup_cons] at nd
    rcases List.mem_cons.mp h1 with e1 | e1
    · rcases List.mem_cons.mp h2 with e2 | e2
      · rw [← e2] at e1
        exact (Prod.mk.inj e1).2
      · exact absurd (List.mem_map.mpr ⟨_, e2, by rw [← e1]⟩) nd.1
    · rcases List.mem_cons.mp h2 with e2 | e2
      · exact absurd (List.mem_map.mpr ⟨_, e1, by rw [← e2]⟩) nd.1
      · exact ar_eq' nd.2 e1 e2
theorem ar_eq {sg : Sg} (g : GSg sg) {x : Str} {i j : Int} (h1 : (x, i) ∈ sg) (h2 : (x, j) ∈ sg) : i = j := ar_eq' g.nd h1 h2
/-- size and sign are the same, or they tell the two apart -/
theorem hd_cases {sg : Sg} (g : GSg sg) {t u : Tr} (ht : Wf sg [] t) (hu : Wf sg [] u) : (t.size = u.size ∧ t.sym = u.sym ∧ t.kids.length = u.kids.length) ∨ Df sg t u := by
  have kt := toks_key sg ht.pl
  have ku := toks_key sg hu.pl
  have qt := pt_eq sg t
  have qu := pt_eq sg u
  by_cases h1 : t.size = u.size
  · by_cases h2 : place sg t.sym = place sg u.sym
    · have e := place_inj ht.mem hu.mem h2
      refine .inl ⟨h1, e, ?_⟩
      have a := ht.sym
      have b := hu.sym
      rw [e] at a
      have := ar_eq g a b
      omega
    · refine .inr ⟨place sg t.sym, place sg u.sym, fun z => h2 (by omega), ?_, ?_⟩
      · rw [kt, ku, h1]
        exact ⟨[.inl 1, .inl u.size, .inl 1], _, _, rfl, rfl⟩
      · rw [qt, qu]
        unfold nt
        rw [h1]
        exact ⟨[.inl 1, .inl 1, .inl u.size, .inl 1], _, _, rfl, rfl⟩
  · refine .inr ⟨t.size, u.size, fun z => h1 (by omega), ?_, ?_⟩
    · rw [kt, ku]
      exact ⟨[.inl 1], _, _, rfl, rfl⟩
    · rw [qt, qu]
      exact ⟨[.inl 1, .inl 1], _, _, rfl, rfl⟩
theorem dif {sg : Sg} (g : GSg sg) : ∀ {t u : Tr}, Wf sg [] t → Wf sg [] u → t = u ∨ Df sg t u
  | .nm _, _, h, _ => absurd h List.not_mem_nil
  | .c0 s, u, ht, hu => by
    rcases hd_cases g ht hu with ⟨h1, h2, h3⟩ | h
    · cases u with
      | nm x => exact absurd hu List.not_mem_nil
      | c0 s' => exact .inl (by rw [show s = s' from h2])
      | c1 s' t' => cases h3
      | c2 s' t' u' => cases h3
    · exact .inr h
  | .c1 s t, u, ht, hu => by
    rcases hd_cases g ht hu with ⟨h1, h2, h3⟩ | h
    · cases u with
      | nm x => exact absurd hu List.not_mem_nil
      | c0 s' => cases h3
      | c1 s' t' =>
        obtain rfl : s = s' := h2
        rcases dif g (t := t) (u := t') ht.2 hu.2 with e | ⟨p, q, hne, d1, d2⟩
        · exact .inl (by rw [e])
        · refine .inr ⟨p, q, hne, ?_, ?_⟩
          · rw [toks_key sg ht.pl, toks_key sg hu.pl, h1]
            exact ((d1.app [.inl 0] [.inl 0]).pre [.inl 1]).pre _
          · rw [pt_eq sg (.c1 s t), pt_eq sg (.c1 s t')]
            unfold nt
            rw [h1]
            exact (d2.app [] []).pre _
      | c2 s' t' u' => cases h3
    · exact .inr h
  | .c2 s t v, u, ht, hu => by
    rcases hd_cases g ht hu with ⟨h1, h2, h3⟩ | h
    · cases u with
      | nm x => exact absurd hu List.not_mem_nil
      | c0 s' => cases h3
      | c1 s' t' => cases h3
      | c2 s' t' v' =>
        obtain rfl : s = s' := h2
        rcases dif g (t := t) (u := t') ht.2.1 hu.2.1 with e | ⟨p, q, hne, d1, d2⟩
        · subst e
          rcases dif g (t := v) (u := v') ht.2.2 hu.2.2 with e | ⟨p, q, hne, d1, d2⟩
          · exact .inl (by rw [e])
          · refine .inr ⟨p, q, hne, ?_, ?_⟩
            · rw [toks_key sg ht.pl, toks_key sg hu.pl, h1]
              exact (((((d1.app [.inl 0] [.inl 0]).pre [.inl 1]).pre _).pre [.inl 1])).pre _
            · rw [pt_eq sg (.c2 s t v), pt_eq sg (.c2 s t v')]
              unfold nt
              rw [h1]
              exact ((d2.app [] []).pre _).pre _
        · refine .inr ⟨p, q, hne, ?_, ?_⟩
          · rw [toks_key sg ht.pl, toks_key sg hu.pl, h1]
            exact ((d1.app _ _).pre [.inl 1]).pre _
          · rw [pt_eq sg (.c2 s t v), pt_eq sg (.c2 s t' v')]
            unfold nt
            rw [h1]
            exact (d2.app _ _).pre _
    · exact .inr h
theorem key_dep (sg : Sg) : ∀ t : Tr, Pl t → (keyD sg t).depth ≤ t.dep
  | .nm _, h => h.elim
  | .c0 s, _ => by show (PyData.tuple [.int 1, .int (place sg s)]).depth ≤ 1; simp [PyData.depth, PyData.depthAll]
  | .c1 s t, h => by
    have := key_dep sg t h
    show (PyData.tuple [.int (Tr.c1 s t).size, .int (place sg s), keyD sg t]).depth ≤ 1 + t.dep
    simp only [PyData.depth, PyData.depthAll]
    omega
  | .c2 s t u, h => by
    have := key_dep sg t h.1
    have := key_dep sg u h.2
    show (PyData.tuple [.int (Tr.c2 s t u).size, .int (place sg s), keyD sg t, keyD sg u]).depth ≤ 1 + max t.dep u.dep
    simp only [PyData.depth, PyData.depthAll]
    omega
theorem alike_tup {a b : Int} {c d : Int} {ks ls : List PyData} (h : alikeAll ks ls = true) : alike (.tuple (.int a :: .int b :: ks)) (.tuple (.int c :: .int d :: ls)) = true := by
  rw [alike, alikeAll, alikeAll, h]
  rfl
theorem key_alike (sg : Sg) : ∀ t u : Tr, Pl t → Pl u → alike (keyD sg t) (keyD sg u) = true
  | .nm _, _, h, _ => h.elim
  | t, .nm _, _, h => h.elim
  | .c0 _, .c0 _, _, _ => alike_tup rfl
  | .c0 _, .c1 _ _, _, _ => alike_tup rfl
  | .c0 _, .c2 _ _ _, _, _ => alike_tup rfl
  | .c1 _ _, .c0 _, _, _ => alike_tup rfl
  | .c2 _ _ _, .c0 _, _, _ => alike_tup rfl
  | .c1 _ t, .c1 _ u, h, h' => alike_tup (by rw [alikeAll, key_alike sg t u h h']; rfl)
  | .c1 _ t, .c2 _ u v, h, h' => alike_tup (by rw [alikeAll, key_alike sg t u h h'.1]; rfl)
  | .c2 _ t v, .c1 _ u, h, h' => alike_tup (by rw [alikeAll, key_alike sg t u h.1 h']; rfl)
  | .c2 _ t v, .c2 _ u x, h, h' => alike_tup (by rw [alikeAll, alikeAll, key_alike sg t u h.1 h'.1, key_alike sg v x h.2 h'.2]; rfl)
theorem key_non (sg : Sg) {t : Tr} (h : Pl t) : keyD sg t ≠ .none := by rw [keyD_eq sg h]; intro e; cases e
end Pg

set_option Elab.async false
set_option linter.all false
set_option maxRecDepth 100000
set_option maxHeartbeats 4000000
namespace Pg
open PySem PySem.Spec PyProof.Rows L2
/-! ### how many trees there are of each size, and the trees, size by size -/
def co1 (C : List Nat) (ar : Int) (m : Nat) : Nat := if ar = 0 then (if m = 1 then 1 else 0) else if ar = 1 then C.getD (m - 1) 0 else ((List.range (m - 2)).map fun i => C.getD (i + 1) 0 * C.getD (m - 2 - i) 0).sum
def co (sg : Sg) (C : List Nat) (m : Nat) : Nat := (sg.map fun s => co1 C s.2 m).sum
def cl (sg : Sg) : Nat → List Nat
  | 0 => [0]
  | n + 1 => cl sg n ++ [co sg (cl sg n) (n + 1)]
def ct (sg : Sg) (n : Nat) : Nat := (cl sg n).getD n 0
def pr (s : Str) (B : List (List Tr)) (m : Nat) : List Tr := (List.range (m - 2)).flatMap fun i => (B.getD (i + 1) []).flatMap fun t => (B.getD (m - 2 - i) []).map fun u => Tr.c2 s t u
def ov1 (s : Str × Int) (B : List (List Tr)) (m : Nat) : List Tr := if s.2 = 0 then (if m = 1 then [.c0 s.1] else []) else if s.2 = 1 then (B.getD (m - 1) []).map (Tr.c1 s.1) else pr s.1 B m
def ov (sg : Sg) (B : List (List Tr)) (m : Nat) : List Tr := sg.flatMap fun s => ov1 s B m
def bl (sg : Sg) : Nat → List (List Tr)
  | 0 => [[]]
  | n + 1 => bl sg n ++ [ov sg (bl sg n) (n + 1)]
def ts (sg : Sg) (n : Nat) : List Tr := (bl sg n).getD n []
theorem cl_len (sg : Sg) : ∀ n, (cl sg n).length = n + 1
  | 0 => rfl
  | n + 1 => by show (cl sg n ++ [_]).length = _; rw [List.length_append, cl_len sg n]; rfl
theorem bl_len (sg : Sg) : ∀ n, (bl sg n).length = n + 1
  | 0 => rfl
  | n + 1 => by show (bl sg n ++ [_]).length = _; rw [List.length_append, bl_len sg n]; rfl
theorem getD_app {α : Type} {l : List α} {x d : α} {k : Nat} (h : k < l.length) : (l ++ [x]).getD k d = l.getD k d := by
  rw [List.getD_eq_getElem?_getD, List.getD_eq_getElem?_getD, List.getElem?_append_left h]
theorem getD_last {α : Type} {l : List α} {x d : α} {k : Nat} (h : k = l.length) : (l ++ [x]).getD k d = x := by
  rw [List.getD_eq_getElem?_getD, List.getElem?_append_right (by omega), h, Nat.sub_self]; rfl
theorem cl_get (sg : Sg) : ∀ {n k : Nat}, k ≤ n → (cl sg n).getD k 0 = ct sg k
  | 0, k, h => by obtain rfl : k = 0 := by omega
                  rfl
  | n + 1, k, h => by
    by_cases e : k = n + 1
    · subst e; rfl
    · show (cl sg n ++ [_]).getD k 0 = _
      rw [getD_app (by rw [cl_len]; omega)]
      exact cl_get sg (by omega)
theorem bl_get (sg : Sg) : ∀ {n k : Nat}, k ≤ n → (bl sg n).getD k [] = ts sg k
  | 0, k, h => by obtain rfl : k = 0 := by omega
                  rfl
  | n + 1, k, h => by
    by_cases e : k = n + 1
    · subst e; rfl
    · show (bl sg n ++ [_]).getD k [] = _
      rw [getD_app (by rw [bl_len]; omega)]
      exact bl_get sg (by omega)
theorem ct_succ (sg : Sg) (n : Nat) : ct sg (n + 1) = co sg (cl sg n) (n + 1) := getD_last (by rw [cl_len])
theorem ts_succ (sg : Sg) (n : Nat) : ts sg (n + 1) = ov sg (bl sg n) (n + 1) := getD_last (by rw [bl_len])
theorem sum_len {α β : Type} (f : α → List β) : ∀ l : List α, (l.flatMap f).length = (l.map fun a => (f a).length).sum
  | [] => rfl
  | a :: l => by rw [List.flatMap_cons, List.length_append, sum_len f l]; rfl
theorem sum_const {α : Type} (c : Nat) : ∀ l : List α, (l.map fun _ => c).sum = l.length * c
  | [] => by simp
  | a :: l => by rw [List.map_cons, List.sum_cons, sum_const c l, List.length_cons, Nat.add_mul]; omega
theorem pr_len (s : Str) (B : List (List Tr)) (m : Nat) (C : List Nat) (h : ∀ k, (B.getD k []).length = C.getD k 0) : (pr s B m).length = ((List.range (m - 2)).map fun i => C.getD (i + 1) 0 * C.getD (m - 2 - i) 0).sum := by
  unfold pr
  rw [sum_len]
  congr 1
  refine List.map_congr_left fun i _ => ?_
  rw [sum_len]
  simp only [List.length_map]
  rw [sum_const, h, h]
theorem ov_len (sg : Sg) (B : List (List Tr)) (m : Nat) (C : List Nat) (h : ∀ k, (B.getD k []).length = C.getD k 0) : (ov sg B m).length = co sg C m := by
  unfold ov co
  rw [sum_len]
  congr 1
  refine List.map_congr_left fun s _ => ?_
  unfold ov1 co1
  by_cases h0 : s.2 = 0
  · rw [if_pos h0, if_pos h0]
    by_cases h1 : m = 1
    · rw [if_pos h1, if_pos h1]; rfl
    · rw [if_neg h1, if_neg h1]; rfl
  · rw [if_neg h0, if_neg h0]
    by_cases h1 : s.2 = 1
    · rw [if_pos h1, if_pos h1, List.length_map, h]
    · rw [if_neg h1, if_neg h1, pr_len _ _ _ _ h]
theorem bl_cl (sg : Sg) : ∀ n k, ((bl sg n).getD k []).length = (cl sg n).getD k 0
  | 0, k => by
    cases k with
    | zero => rfl
    | succ k => rfl
  | n + 1, k => by
    show ((bl sg n ++ [_]).getD k []).length = (cl sg n ++ [_]).getD k 0
    by_cases h : k < n + 1
    · rw [getD_app (by rw [bl_len]; exact h), getD_app (by rw [cl_len]; exact h)]
      exact bl_cl sg n k
    · by_cases e : k = n + 1
      · rw [getD_last (by rw [bl_len]; exact e), getD_last (by rw [cl_len]; exact e)]
        exact ov_len sg _ _ _ (bl_cl sg n)
      · rw [List.getD_eq_getElem?_getD, List.getD_eq_getElem?_getD, List.getElem?_eq_none (by rw [List.length_append, bl_len]; simp; omega), List.getElem?_eq_none (by rw [List.length_append, cl_len]; simp; omega)]
        rfl
theorem ts_len (sg : Sg) (n : Nat) : (ts sg n).length = ct sg n := bl_cl sg n n
/-! #### the numbers grow -/
theorem mem_le_sum : ∀ {l : List Nat} {x : Nat}, x ∈ l → x ≤ l.sum
  | a :: l, x, h => by
    rw [List.sum_cons]
    rcases List.mem_cons.mp h with e | e
    · omega
    · have := mem_le_sum e; omega
theorem co_ge {sg : Sg} {C : List Nat} {m : Nat} {s : Str × Int} (h : s ∈ sg) : co1 C s.2 m ≤ co sg C m := mem_le_sum (List.mem_map.mpr ⟨s, h, rfl⟩)
theorem ct0 (sg : Sg) : ct sg 0 = 0 := rfl
theorem ct1 {sg : Sg} (g : GSg sg) : 1 ≤ ct sg 1 := by
  obtain ⟨s, hs, e⟩ := g.c0
  rw [ct_succ]
  refine Nat.le_trans ?_ (co_ge hs)
  unfold co1
  rw [if_pos e, if_pos rfl]
  exact Nat.le_refl _
theorem ct_up1 {sg : Sg} {s : Str × Int} (hs : s ∈ sg) (e : s.2 = 1) (n : Nat) : ct sg n ≤ ct sg (n + 1) := by
  rw [ct_succ]
  refine Nat.le_trans ?_ (co_ge hs)
  unfold co1
  rw [if_neg (by rw [e]; decide), if_pos e, Nat.add_sub_cancel, cl_get sg (Nat.le_refl _)]
  exact Nat.le_refl _
theorem ct_up2 {sg : Sg} (g : GSg sg) {s : Str × Int} (hs : s ∈ sg) (e : s.2 = 2) (n : Nat) : ct sg n ≤ ct sg (n + 2) := by
  cases n with
  | zero => rw [ct0]; exact Nat.zero_le _
  | succ n =>
    rw [ct_succ sg (n + 2)]
    refine Nat.le_trans ?_ (co_ge hs)
    unfold co1
    rw [if_neg (by rw [e]; decide), if_neg (by rw [e]; decide)]
    refine Nat.le_trans ?_ (mem_le_sum (List.mem_map.mpr ⟨0, List.mem_range.mpr (by omega), rfl⟩))
    rw [cl_get sg (by omega), cl_get sg (by omega)]
    have := ct1 g
    show ct sg (n + 1) ≤ ct sg 1 * ct sg (n + 1)
    exact Nat.le_trans (by omega) (Nat.mul_le_mul_right _ this)
theorem sum_zero : ∀ {l : List Nat}, (∀ x ∈ l, x = 0) → l.sum = 0
  | [], _ => rfl
  | a :: l, h => by rw [List.sum_cons, h a List.mem_cons_self, sum_zero fun x hx => h x (List.mem_cons_of_mem _ hx)]
theorem co_zero {sg : Sg} {C : List Nat} {m : Nat} (h : ∀ s ∈ sg, co1 C s.2 m = 0) : co sg C m = 0 := sum_zero fun x hx => by
  obtain ⟨s, hs, rfl⟩ := List.mem_map.mp hx
  exact h s hs
theorem ct_even {sg : Sg} (h : ∀ s ∈ sg, s.2 ≠ 1) : ∀ n, n % 2 = 0 → ct sg n = 0 := by
  intro n
  induction n using Nat.strongRecOn with
  | ind n ih =>
    intro hn
    cases n with
    | zero => rfl
    | succ n =>
      rw [ct_succ]
      refine co_zero fun s hs => ?_
      unfold co1
      by_cases h0 : s.2 = 0
      · rw [if_pos h0, if_neg (by omega)]
      · rw [if_neg h0, if_neg (h s hs)]
        refine sum_zero fun x hx => ?_
        obtain ⟨i, hi, rfl⟩ := List.mem_map.mp hx
        have hi := List.mem_range.mp hi
        rw [cl_get sg (by omega), cl_get sg (by omega)]
        by_cases hp : (i + 1) % 2 = 0
        · rw [ih (i + 1) (by omega) hp, Nat.zero_mul]
        · rw [ih (n + 1 - 2 - i) (by omega) (by omega), Nat.mul_zero]
theorem ct_none {sg : Sg} (h : ∀ s ∈ sg, s.2 = 0) (n : Nat) (hn : 2 ≤ n) : ct sg n = 0 := by
  obtain ⟨m, rfl⟩ : ∃ m, n = m + 1 := ⟨n - 1, by omega⟩
  rw [ct_succ]
  refine co_zero fun s hs => ?_
  unfold co1
  rw [if_pos (h s hs), if_neg (by omega)]
/-- fewer trees of a lesser size -/
theorem ct_mono {sg : Sg} (g : GSg sg) {n : Nat} (hn : ct sg n ≠ 0) : ∀ {k : Nat}, k ≤ n → ct sg k ≤ ct sg n := by
  intro k hk
  by_cases h1 : ∃ s ∈ sg, s.2 = 1
  · obtain ⟨s, hs, e⟩ := h1
    have : ∀ j, ct sg k ≤ ct sg (k + j) := fun j => by
      induction j with
      | zero => exact Nat.le_refl _
      | succ j ih => exact Nat.le_trans ih (ct_up1 hs e _)
    have := this (n - k)
    rw [show k + (n - k) = n by omega] at this
    exact this
  · have h1' : ∀ s ∈ sg, s.2 ≠ 1 := fun s hs e => h1 ⟨s, hs, e⟩
    by_cases hk2 : k % 2 = 0
    · rw [ct_even h1' k hk2]; exact Nat.zero_le _
    · have hn2 : n % 2 ≠ 0 := fun z => hn (ct_even h1' n z)
      by_cases h2 : ∃ s ∈ sg, s.2 = 2
      · obtain ⟨s, hs, e⟩ := h2
        have : ∀ j, ct sg k ≤ ct sg (k + 2 * j) := fun j => by
          induction j with
          | zero => exact Nat.le_refl _
          | succ j ih => exact Nat.le_trans ih (ct_up2 g hs e _)
        have := this ((n - k) / 2)
        rw [show k + 2 * ((n - k) / 2) = n by omega] at this
        exact this
      · have h0 : ∀ s ∈ sg, s.2 = 0 := fun s hs => by
          have := g.ar s hs
          have := h1' s hs
          have : s.2 ≠ 2 := fun e => h2 ⟨s, hs, e⟩
          omega
        by_cases hn1 : n ≤ 1
        · rw [show k = n by omega]; exact Nat.le_refl _
        · exact absurd (ct_none h0 n (by omega)) hn
end Pg

set_option Elab.async false
set_option linter.all false
set_option maxRecDepth 100000
set_option maxHeartbeats 4000000
namespace Pg
open PySem PySem.Spec PyProof.Rows L2 PySem.W
/-! ### the trees of a size: what they are, and that they stand in order -/
theorem mem_bl {sg : Sg} {n k : Nat} {t : Tr} (hk : k ≤ n) (h : t ∈ (bl sg n).getD k []) : t ∈ ts sg k := by rw [← bl_get sg hk]; exact h
theorem mem_ov1 {sg : Sg} {n : Nat} {s : Str × Int} {t : Tr} (ha : 0 ≤ s.2 ∧ s.2 ≤ 2) (h : t ∈ ov1 s (bl sg n) (n + 1)) :
    (s.2 = 0 ∧ n = 0 ∧ t = .c0 s.1) ∨ (s.2 = 1 ∧ ∃ u ∈ ts sg n, t = .c1 s.1 u) ∨ (s.2 = 2 ∧ ∃ i, i + 1 < n ∧ ∃ u ∈ ts sg (i + 1), ∃ v ∈ ts sg (n - 1 - i), t = .c2 s.1 u v) := by
  unfold ov1 at h
  by_cases h0 : s.2 = 0
  · rw [if_pos h0] at h
    by_cases h1 : n + 1 = 1
    · rw [if_pos h1, List.mem_singleton] at h
      exact .inl ⟨h0, by omega, h⟩
    · rw [if_neg h1] at h
      cases h
  · rw [if_neg h0] at h
    by_cases h1 : s.2 = 1
    · rw [if_pos h1] at h
      obtain ⟨u, hu, e⟩ := List.mem_map.mp h
      exact .inr (.inl ⟨h1, u, mem_bl (Nat.le_refl _) hu, e.symm⟩)
    · rw [if_neg h1] at h
      obtain ⟨i, hi, h⟩ := List.mem_flatMap.mp h
      obtain ⟨u, hu, h⟩ := List.mem_flatMap.mp h
      obtain ⟨v, hv, e⟩ := List.mem_map.mp h
      have hi := List.mem_range.mp hi
      refine .inr (.inr ⟨by omega, i, by omega, u, mem_bl (by omega) hu, v, ?_, e.symm⟩)
      have := mem_bl (by omega) hv
      rw [show n + 1 - 2 - i = n - 1 - i by omega] at this
      exact this
theorem ts_wf {sg : Sg} (g : GSg sg) : ∀ n t, t ∈ ts sg n → Wf sg [] t ∧ t.size = n := by
  intro n
  induction n using Nat.strongRecOn with
  | ind n ih =>
    intro t h
    cases n with
    | zero => cases h
    | succ n =>
      rw [ts_succ] at h
      obtain ⟨s, hs, h⟩ := List.mem_flatMap.mp h
      rcases mem_ov1 (g.ar s hs) h with ⟨e, rfl, rfl⟩ | ⟨e, u, hu, rfl⟩ | ⟨e, i, hi, u, hu, v, hv, rfl⟩
      · exact ⟨mem_ar hs e, rfl⟩
      · obtain ⟨a, b⟩ := ih n (by omega) u hu
        exact ⟨⟨mem_ar hs e, a⟩, by show 1 + u.size = _; omega⟩
      · obtain ⟨a, b⟩ := ih (i + 1) (by omega) u hu
        obtain ⟨c, d⟩ := ih (n - 1 - i) (by omega) v hv
        exact ⟨⟨mem_ar hs e, a, c⟩, by show 1 + u.size + v.size = _; omega⟩
def LtK (sg : Sg) (t u : Tr) : Prop := ∃ p q : Int, p < q ∧ Dif (keyToks (keyD sg t)) (keyToks (keyD sg u)) p q
theorem LtK.lt {sg : Sg} {t u : Tr} (h : LtK sg t u) : dataLt (keyD sg t) (keyD sg u) = true := by
  obtain ⟨p, q, hpq, d⟩ := h
  exact (d.lt (by omega)).trans (decide_eq_true hpq)
theorem LtK.size {sg : Sg} {t u : Tr} (ht : Pl t) (hu : Pl u) (h : t.size < u.size) : LtK sg t u := by
  refine ⟨t.size, u.size, by omega, ?_⟩
  rw [toks_key sg ht, toks_key sg hu]
  exact ⟨[.inl 1], _, _, rfl, rfl⟩
theorem LtK.sym {sg : Sg} {t u : Tr} (ht : Pl t) (hu : Pl u) (h : t.size = u.size) (hp : place sg t.sym < place sg u.sym) : LtK sg t u := by
  refine ⟨place sg t.sym, place sg u.sym, by omega, ?_⟩
  rw [toks_key sg ht, toks_key sg hu, h]
  exact ⟨[.inl 1, .inl u.size, .inl 1], _, _, rfl, rfl⟩
theorem LtK.c1 {sg : Sg} {s : Str} {t u : Tr} (ht : Pl t) (hu : Pl u) (e : t.size = u.size) (h : LtK sg t u) : LtK sg (.c1 s t) (.c1 s u) := by
  obtain ⟨p, q, hpq, d⟩ := h
  refine ⟨p, q, hpq, ?_⟩
  rw [toks_key sg (t := .c1 s t) ht, toks_key sg (t := .c1 s u) hu, show (Tr.c1 s t).size = (Tr.c1 s u).size by show 1 + _ = 1 + _; rw [e]]
  exact ((d.app [.inl 0] [.inl 0]).pre [.inl 1]).pre _
theorem LtK.c2a {sg : Sg} {s : Str} {t u v x : Tr} (ht : Pl t) (hu : Pl u) (hv : Pl v) (hx : Pl x) (e : t.size = u.size) (e2 : v.size = x.size) (h : LtK sg t u) : LtK sg (.c2 s t v) (.c2 s u x) := by
  obtain ⟨p, q, hpq, d⟩ := h
  refine ⟨p, q, hpq, ?_⟩
  rw [toks_key sg (t := .c2 s t v) ⟨ht, hv⟩, toks_key sg (t := .c2 s u x) ⟨hu, hx⟩, show (Tr.c2 s t v).size = (Tr.c2 s u x).size by show 1 + _ + _ = 1 + _ + _; rw [e, e2]]
  exact ((d.app _ _).pre [.inl 1]).pre _
theorem LtK.c2s {sg : Sg} {s : Str} {t u v x : Tr} (ht : Pl t) (hu : Pl u) (hv : Pl v) (hx : Pl x) (e : (Tr.c2 s t v).size = (Tr.c2 s u x).size) (h : t.size < u.size) : LtK sg (.c2 s t v) (.c2 s u x) := by
  obtain ⟨p, q, hpq, d⟩ := LtK.size (sg := sg) ht hu h
  refine ⟨p, q, hpq, ?_⟩
  rw [toks_key sg (t := .c2 s t v) ⟨ht, hv⟩, toks_key sg (t := .c2 s u x) ⟨hu, hx⟩, e]
  exact ((d.app _ _).pre [.inl 1]).pre _
theorem LtK.c2b {sg : Sg} {s : Str} {t v x : Tr} (ht : Pl t) (hv : Pl v) (hx : Pl x) (e2 : v.size = x.size) (h : LtK sg v x) : LtK sg (.c2 s t v) (.c2 s t x) := by
  obtain ⟨p, q, hpq, d⟩ := h
  refine ⟨p, q, hpq, ?_⟩
  rw [toks_key sg (t := .c2 s t v) ⟨ht, hv⟩, toks_key sg (t := .c2 s t x) ⟨ht, hx⟩, show (Tr.c2 s t v).size = (Tr.c2 s t x).size by show 1 + _ + _ = 1 + _ + _; rw [e2]]
  exact (((((d.app [.inl 0] [.inl 0]).pre [.inl 1]).pre _).pre [.inl 1])).pre _
theorem places_up {sg : Sg} (g : GSg sg) : sg.Pairwise fun s s' => place sg s.1 < place sg s'.1 := by
  have key : ∀ i (hi : i < sg.length), place sg (sg[i]).1 = i := fun i hi => by
    have hm : (sg[i]).1 ∈ sg.map (·.1) := List.mem_map.mpr ⟨_, List.getElem_mem hi, rfl⟩
    obtain ⟨h1, h2, _⟩ := place_at hm
    rw [List.getElem?_map, List.getElem?_map, List.getElem?_eq_getElem h1] at h2
    have h3 : (sg[place sg (sg[i]).1]).1 = (sg[i]).1 := V.str.inj (Option.some.inj h2)
    have nd := List.pairwise_iff_getElem.mp g.nd
    rcases Nat.lt_trichotomy (place sg (sg[i]).1) i with h | h | h
    · exact absurd (by rw [List.getElem_map, List.getElem_map]; exact h3) (nd _ _ (by rw [List.length_map]; exact h1) (by rw [List.length_map]; exact hi) h)
    · exact h
    · exact absurd (by rw [List.getElem_map, List.getElem_map]; exact h3.symm) (nd _ _ (by rw [List.length_map]; exact hi) (by rw [List.length_map]; exact h1) h)
  refine List.pairwise_iff_getElem.mpr fun i j hi hj hij => ?_
  rw [key i hi, key j hj]
  exact hij
theorem pairwise_mem {α : Type} {R S : α → α → Prop} {l : List α} (h : l.Pairwise R) (f : ∀ a ∈ l, ∀ b ∈ l, R a b → S a b) : l.Pairwise S := by
  refine List.pairwise_iff_getElem.mpr fun i j hi hj hij => f _ (List.getElem_mem hi) _ (List.getElem_mem hj) (List.pairwise_iff_getElem.mp h i j hi hj hij)
theorem ts_asc {sg : Sg} (g : GSg sg) : ∀ n, (ts sg n).Pairwise (LtK sg) := by
  intro n
  induction n using Nat.strongRecOn with
  | ind n ih =>
    cases n with
    | zero => exact List.Pairwise.nil
    | succ n =>
      have W := ts_wf g
      rw [ts_succ]
      unfold ov
      rw [List.pairwise_flatMap]
      constructor
      · intro s hs
        unfold ov1
        by_cases h0 : s.2 = 0
        · rw [if_pos h0]
          by_cases h1 : n + 1 = 1
          · rw [if_pos h1]; exact List.pairwise_singleton _ _
          · rw [if_neg h1]; exact List.Pairwise.nil
        · rw [if_neg h0]
          by_cases h1 : s.2 = 1
          · rw [if_pos h1, Nat.add_sub_cancel, bl_get sg (Nat.le_refl _), List.pairwise_map]
            refine pairwise_mem (ih n (by omega)) fun a ha b hb h => ?_
            obtain ⟨wa, ea⟩ := W n a ha
            obtain ⟨wb, eb⟩ := W n b hb
            exact LtK.c1 wa.pl wb.pl (by omega) h
          · rw [if_neg h1]
            unfold pr
            rw [List.pairwise_flatMap]
            constructor
            · intro i hi
              have hi := List.mem_range.mp hi
              rw [bl_get sg (by omega), bl_get sg (by omega), List.pairwise_flatMap]
              constructor
              · intro t ht
                rw [List.pairwise_map]
                refine pairwise_mem (ih _ (by omega)) fun a ha b hb h => ?_
                obtain ⟨wa, ea⟩ := W _ a ha
                obtain ⟨wb, eb⟩ := W _ b hb
                exact LtK.c2b (W _ t ht).1.pl wa.pl wb.pl (by omega) h
              · refine pairwise_mem (ih (i + 1) (by omega)) fun a ha b hb h x hx y hy => ?_
                obtain ⟨u, hu, rfl⟩ := List.mem_map.mp hx
                obtain ⟨v, hv, rfl⟩ := List.mem_map.mp hy
                obtain ⟨wa, ea⟩ := W _ a ha
                obtain ⟨wb, eb⟩ := W _ b hb
                obtain ⟨wu, eu⟩ := W _ u hu
                obtain ⟨wv, ev⟩ := W _ v hv
                exact LtK.c2a wa.pl wb.pl wu.pl wv.pl (by omega) (by omega) h
            · refine pairwise_mem List.pairwise_lt_range fun i hi j hj hij x hx y hy => ?_
              have hi := List.mem_range.mp hi
              have hj := List.mem_range.mp hj
              rw [bl_get sg (by omega), bl_get sg (by omega)] at hx hy
              obtain ⟨a, ha, hx⟩ := List.mem_flatMap.mp hx
              obtain ⟨u, hu, rfl⟩ := List.mem_map.mp hx
              obtain ⟨b, hb, hy⟩ := List.mem_flatMap.mp hy
              obtain ⟨v, hv, rfl⟩ := List.mem_map.mp hy
              obtain ⟨wa, ea⟩ := W _ a ha
              obtain ⟨wb, eb⟩ := W _ b hb
              obtain ⟨wu, eu⟩ := W _ u hu
              obtain ⟨wv, ev⟩ := W _ v hv
              exact LtK.c2s wa.pl wb.pl wu.pl wv.pl (by show 1 + _ + _ = 1 + _ + _; omega) (by omega)
      · refine pairwise_mem (places_up g) fun s hs s' hs' h x hx y hy => ?_
        have sx : x.sym = s.1 := by
          rcases mem_ov1 (g.ar s hs) hx with ⟨_, _, rfl⟩ | ⟨_, u, _, rfl⟩ | ⟨_, i, _, u, _, v, _, rfl⟩ <;> rfl
        have sy : y.sym = s'.1 := by
          rcases mem_ov1 (g.ar s' hs') hy with ⟨_, _, rfl⟩ | ⟨_, u, _, rfl⟩ | ⟨_, i, _, u, _, v, _, rfl⟩ <;> rfl
        have hx' := W (n + 1) x (by rw [ts_succ]; exact List.mem_flatMap.mpr ⟨s, hs, hx⟩)
        have hy' := W (n + 1) y (by rw [ts_succ]; exact List.mem_flatMap.mpr ⟨s', hs', hy⟩)
        exact LtK.sym hx'.1.pl hy'.1.pl (by omega) (by rw [sx, sy]; exact h)
/-! ### the numbers are below some bound -/
theorem sum_le {c : Nat} : ∀ {l : List Nat}, (∀ x ∈ l, x ≤ c) → l.sum ≤ l.length * c
  | [], _ => by simp
  | a :: l, h => by
    have h1 := h a List.mem_cons_self
    have h2 := sum_le fun x hx => h x (List.mem_cons_of_mem _ hx)
    rw [List.sum_cons, List.length_cons, Nat.add_mul]
    omega
theorem ct_small {sg : Sg} (g : GSg sg) : ∀ n, n ≤ 60 → ct sg n ≤ 2 ^ (20 * n) := by
  intro n
  induction n using Nat.strongRecOn with
  | ind n ih =>
    intro hn
    cases n with
    | zero => exact Nat.zero_le _
    | succ n =>
      rw [ct_succ]
      have each : ∀ s ∈ sg, co1 (cl sg n) s.2 (n + 1) ≤ 60 * 2 ^ (20 * n) := fun s hs => by
        have hp : 1 ≤ 2 ^ (20 * n) := Nat.one_le_two_pow
        unfold co1
        by_cases h0 : s.2 = 0
        · rw [if_pos h0]
          split <;> omega
        · rw [if_neg h0]
          by_cases h1 : s.2 = 1
          · rw [if_pos h1, Nat.add_sub_cancel, cl_get sg (Nat.le_refl _)]
            have := ih n (by omega) (by omega)
            omega
          · rw [if_neg h1]
            refine Nat.le_trans (sum_le (c := 2 ^ (20 * n)) fun x hx => ?_) ?_
            · obtain ⟨i, hi, rfl⟩ := List.mem_map.mp hx
              have hi := List.mem_range.mp hi
              rw [cl_get sg (by omega), cl_get sg (by omega)]
              refine Nat.le_trans (Nat.mul_le_mul (ih (i + 1) (by omega) (by omega)) (ih (n + 1 - 2 - i) (by omega) (by omega))) ?_
              rw [← Nat.pow_add]
              exact Nat.pow_le_pow_right (by decide) (by omega)
            · rw [List.length_map, List.length_range]
              exact Nat.mul_le_mul_right _ (by omega)
      have h4 : co sg (cl sg n) (n + 1) ≤ sg.length * (60 * 2 ^ (20 * n)) := by
        have := sum_le (l := sg.map fun s => co1 (cl sg n) s.2 (n + 1)) (c := 60 * 2 ^ (20 * n)) fun x hx => by
          obtain ⟨s, hs, rfl⟩ := List.mem_map.mp hx
          exact each s hs
        rw [List.length_map] at this
        exact this
      refine Nat.le_trans h4 ?_
      have hl := g.len.2
      have e : 2 ^ (20 * (n + 1)) = 2 ^ 20 * 2 ^ (20 * n) := by rw [← Nat.pow_add]; congr 1; omega
      rw [e]
      refine Nat.le_trans (Nat.mul_le_mul_right _ hl) ?_
      rw [← Nat.mul_assoc]
      exact Nat.mul_le_mul_right _ (by decide)
/-- the law's own way to add up -/
theorem conv {C : List Nat} (h0 : C.getD 0 0 = 0) {m : Nat} (hm : 2 ≤ m) : ((List.range m).map fun k => C.getD k 0 * C.getD (m - 1 - k) 0).sum = ((List.range (m - 2)).map fun i => C.getD (i + 1) 0 * C.getD (m - 2 - i) 0).sum := by
  obtain ⟨j, rfl⟩ : ∃ j, m = j + 2 := ⟨m - 2, by omega⟩
  rw [List.range_succ_eq_map, List.map_cons, List.sum_cons, h0, Nat.zero_mul, Nat.zero_add, List.map_map, List.range_succ, List.map_append, List.sum_append, Nat.add_sub_cancel]
  have e1 : (List.map ((fun k => C.getD k 0 * C.getD (j + 2 - 1 - k) 0) ∘ Nat.succ) [j]).sum = 0 := by
    show C.getD (j + 1) 0 * C.getD (j + 2 - 1 - (j + 1)) 0 + 0 = 0
    rw [show j + 2 - 1 - (j + 1) = 0 by omega, h0, Nat.mul_zero]
  rw [e1, Nat.add_zero]
  congr 1
  refine List.map_congr_left fun i hi => ?_
  show C.getD (i + 1) 0 * C.getD (j + 2 - 1 - (i + 1)) 0 = _
  rw [show j + 2 - 1 - (i + 1) = j - i by omega]
end Pg

set_option Elab.async false
set_option linter.all false
set_option maxRecDepth 100000
set_option maxHeartbeats 4000000
namespace Pg
open PySem PySem.Spec PyProof.Rows L2
/-! ### lists of numbers; comprehensions whose step changes nothing that stands -/
def cv (C : List Nat) : List V := C.map fun n => V.int (n : Nat)
theorem cv_int (C : List Nat) : cv C = (C.map fun n : Nat => (n : Int)).map V.int := by unfold cv; rw [List.map_map]; rfl
theorem sum_int : ∀ l : List Nat, (l.map fun n : Nat => (n : Int)).sum = ((l.sum : Nat) : Int)
  | [] => rfl
  | a :: l => by rw [List.map_cons, List.sum_cons, sum_int l, List.sum_cons]; omega
theorem getD_at {α : Type} {l : List α} {d : α} {k : Nat} (h : k < l.length) : l[k]? = some (l.getD k d) := by
  rw [List.getD_eq_getElem?_getD, List.getElem?_eq_getElem h]; rfl
theorem at_cv {C : List Nat} {i : Int} {k : Nat} (e : i = (k : Int)) (h : k < C.length) : atI (cv C) i = some (.int (C.getD k 0 : Nat)) := by
  subst e
  refine atI_nat ?_
  show (C.map _)[k]? = _
  rw [List.getElem?_map, getD_at (d := 0) h]
  rfl
section
variable {K : PySem.W.Frag} {σ : L2.St} {H : Hp} {Q : VK} {p : Addr} {rs : List Addr} {sg : Sg} {j j1 j2 : Nat} {te : TE}
theorem rd_rng {lo : Int} {n : Nat} {wi : TI} (f : Nat → V) (hwi : ∀ R, R (Itr lo n) H → wi σ H R) (hn : n ≤ 100000) (hw : ∀ x, wipe ((wipe σ [j]).set j (some x)) [j] = wipe σ [j])
    (ht : ∀ i H', i < n → Same H H' → ∀ Q', (∀ H2, Same H' H2 → Q' (f i) H2) → te ((wipe σ [j]).set j (some (.int (lo + i)))) H' Q')
    (h : ∀ D H', H D = none → Same H H' → H' D = some (.lst ((List.range n).map f)) → Q (.ref D) H') : tLc wi (gName j) tYes te [j] σ H Q := by
  refine hwi _ (fun D nD => lc_range (fun i H' => Same H H' ∧ H' D = some (.lst ((List.range i).map f))) ⟨Same.new nD, upd_same⟩ (fun i H' hi iv => ?_) (fun H' iv => h D H' nD iv.1 iv.2))
  obtain ⟨sm, hd⟩ := iv
  refine ⟨hw _, yes_turn ?_⟩
  refine ht i H' hi sm _ (fun H2 s2 => ?_)
  refine ⟨_, s2 _ _ hd, by rw [List.length_map, List.length_range, sizeLine_eq]; omega, Same.mut nD (sm.trans s2), ?_⟩
  rw [upd_same, List.range_succ, List.map_append]
  rfl
theorem rd_prs {i : Nat} (f : Str × Int → V) (hi : σ[i]? = some (some (.ref p))) (hS : SgAt K H p sg) (h4 : sg.length ≤ 1000) (hw : ∀ x y, wipe (((wipe σ [j1, j2]).set j1 (some x)).set j2 (some y)) [j1, j2] = wipe σ [j1, j2])
    (ht : ∀ s H', s ∈ sg → Same H H' → ∀ Q', (∀ H2, Same H' H2 → Q' (f s) H2) → te (((wipe σ [j1, j2]).set j1 (some (.str s.1))).set j2 (some (.int s.2))) H' Q')
    (h : ∀ D H', H D = none → Same H H' → H' D = some (.lst (sg.map f)) → Q (.ref D) H') :
    tLc (iTup K (tVar i)) (gTup K 2 (gCons (gName j1) (gCons (gName j2) gNil))) tYes te [j1, j2] σ H Q := by
  obtain ⟨rs, hT, pr⟩ := hS.ex
  refine ⟨_, hi, p, rfl, ⟨_, hT⟩, fun D nD => lc_tup (K := K) (xs := rs.map V.ref) (fun i H' => Same H H' ∧ H' D = some (.lst ((sg.take i).map f))) ⟨Same.new nD, upd_same⟩ (fun i H' _ iv => TK.same iv.1 _ _ hT) (fun i x H' hx iv => ?_) (fun H' iv => ?_)⟩
  · rw [List.getElem?_map] at hx
    obtain ⟨r, e, rfl⟩ : ∃ r, rs[i]? = some r ∧ V.ref r = x := by
      cases e : rs[i]? with
      | none => rw [e] at hx; cases hx
      | some z => rw [e] at hx; exact ⟨z, rfl, Option.some.inj hx⟩
    obtain ⟨s, es, hr⟩ := Pg.paired_get pr e
    obtain ⟨sm, hd⟩ := iv
    refine ⟨r, _, rfl, TK.same sm _ _ hr, rfl, _, _, rfl, _, _, rfl, rfl, hw _ _, ?_⟩
    refine yes_turn (ht s H' (List.mem_of_getElem? es) sm _ fun H2 s2 => ⟨_, s2 _ _ hd, ?_, Same.mut nD (sm.trans s2), ?_⟩)
    · rw [List.length_map, List.length_take]
      exact small1000 (by omega)
    · rw [upd_same, take_snoc es, List.map_append]
      rfl
  · obtain ⟨sm, hd⟩ := iv
    rw [List.length_map, paired_len pr, List.take_length] at hd
    exact h D H' nD sm hd
end
theorem log2_small {n : Nat} (h : n ≤ 2 ^ 1200) : n.log2 ≤ 1200 := by
  by_cases e : n = 0
  · subst e; decide
  · have := (Nat.log2_lt e).mpr (show n < 2 ^ 1201 from Nat.lt_of_le_of_lt h (Nat.pow_lt_pow_right (by decide) (by decide)))
    omega
theorem mulW {a b : Nat} (ha : a ≤ 2 ^ 1200) (hb : b ≤ 2 ^ 1200) : CMulW (a : Int) (b : Int) := by
  have h1 := log2_small ha
  have h2 := log2_small hb
  show (a : Int).natAbs.log2 + (b : Int).natAbs.log2 < 1000000
  rw [Int.natAbs_natCast, Int.natAbs_natCast]
  omega
theorem cl_small {sg : Sg} (g : GSg sg) {n : Nat} (hn : n ≤ 60) (k : Nat) : (cl sg n).getD k 0 ≤ 2 ^ 1200 := by
  by_cases hk : k ≤ n
  · rw [cl_get sg hk]
    exact Nat.le_trans (ct_small g k (by omega)) (Nat.pow_le_pow_right (by decide) (by omega))
  · rw [List.getD_eq_getElem?_getD, List.getElem?_eq_none (by rw [cl_len]; omega)]
    exact Nat.zero_le _
def spCov (K : PySem.W.Frag) : Sp := fun vs H Q _ => ∃ (c : Addr) (C : List Nat) (ar m : Int) (m' : Nat), vs = [.ref c, .int ar, .int m] ∧ SqL K H c (cv C) ∧ m = (m' : Int) ∧ C.length = m' ∧ (∀ k, C.getD k 0 ≤ 2 ^ 1200) ∧ 1 ≤ m' ∧ m' ≤ 60 ∧ 0 ≤ ar ∧ ar ≤ 2 ∧ ∀ H', Same H H' → Q (.int (co1 C ar m' : Nat)) H'
def spCto (K : PySem.W.Frag) : Sp := fun vs H Q _ => ∃ (g : Addr) (sg : Sg) (n : Nat), vs = [.ref g, .int (n : Nat)] ∧ SgAt K H g sg ∧ GSg sg ∧ n ≤ 60 ∧ ∀ p H', H p = none → Same H H' → H' p = some (.lst (cv (cl sg n))) → Q (.ref p) H'
end Pg

set_option Elab.async false
set_option linter.all false
set_option maxRecDepth 100000
set_option maxHeartbeats 4000000
namespace Pg
open PySem PySem.Spec PyProof.Rows L2
theorem smallN {n : Nat} (h : n ≤ 100000) : n < sizeLine := by rw [sizeLine_eq]; omega
/-- lists of trees, by size -/
def BLat (K : PySem.W.Frag) (H : Hp) (b : Addr) (B : List (List Tr)) : Prop := ∃ rs : List Addr, SqL K H b (rs.map V.ref) ∧ Paired (fun r (ks : List Tr) => ∃ us, H r = some (.lst us) ∧ KidsAt K H us ks) rs B
section
variable {K : PySem.W.Frag} {H H' : Hp} {b : Addr} {B : List (List Tr)}
theorem BLat.same (s : Same H H') (h : BLat K H b B) : BLat K H' b B := by
  obtain ⟨rs, a, p⟩ := h
  exact ⟨rs, s.seq a, Paired.imp2 (fun _ _ ⟨us, e, k⟩ => ⟨us, s _ _ e, k.keep (TK.same s)⟩) p⟩
theorem BLat.at {k : Nat} {i : Int} (h : BLat K H b B) (e : i = (k : Int)) (hk : k < B.length) : ∃ xs r us, SqL K H b xs ∧ atI xs i = some (.ref r) ∧ H r = some (.lst us) ∧ KidsAt K H us (B.getD k []) := by
  obtain ⟨rs, a, p⟩ := h
  obtain ⟨r, er, us, h1, h2⟩ := Pg.paired_get2 p (getD_at (d := []) hk)
  exact ⟨_, r, us, a, by rw [e]; exact atI_nat (by rw [List.getElem?_map, er]; rfl), h1, h2⟩
end
section
variable {K : PySem.W.Frag} {σ : L2.St} {H : Hp} {Q : VK} {r : Addr} {us : List V} {ks : List Tr} {j : Nat} {te : TE}
/-- [f(tree) for tree in xs] over a list of trees -/
theorem rd_kidsL {wi : TI} (hwi : ∀ R, R (Itl K r) H → wi σ H R) (hS : SqL K H r us) (R : Hp → V → Tr → Prop) (mono : ∀ H H' v k, k ∈ ks → TK K H H' → R H v k → R H' v k) (pr : KidsAt K H us ks) (hlen : ks.length ≤ 100000)
    (hw : ∀ x, wipe ((wipe σ [j]).set j (some x)) [j] = wipe σ [j])
    (ht : ∀ u k H', k ∈ ks → Same H H' → TrAt K H' k u → ∀ Q', (∀ v H2, Same H' H2 → R H2 v k → Q' v H2) → te ((wipe σ [j]).set j (some u)) H' Q')
    (h : ∀ D H' ws, H D = none → Same H H' → H' D = some (.lst ws) → Paired (R H') ws ks → Q (.ref D) H') : tLc wi (gName j) tYes te [j] σ H Q := by
  refine hwi _ (fun D nD => ?_)
  have step : ∀ {H1 H2 : Hp} {ws : List V} {l : List Tr}, (∀ k ∈ l, k ∈ ks) → TK K H1 H2 → Paired (R H1) ws l → Paired (R H2) ws l := by
    intro H1 H2 ws l hl tk hp
    induction hp with
    | nil => exact .nil
    | cons a b ih => exact .cons (mono _ _ _ _ (hl _ List.mem_cons_self) tk a) (ih fun k hk => hl k (List.mem_cons_of_mem _ hk))
  refine lc_list (K := K) (xs := us) (fun i H' => Same H H' ∧ ∃ ws, H' D = some (.lst ws) ∧ Paired (R H') ws (ks.take i)) ⟨Same.new nD, [], upd_same, .nil⟩ (fun i H' _ iv => iv.1.seq hS) (fun i x H' hx iv => ?_) (fun H' iv => ?_)
  · obtain ⟨sm, ws, hd, hr⟩ := iv
    obtain ⟨k, ek, hk⟩ := Pg.paired_get pr hx
    have hlt : i < ks.length := (List.getElem?_eq_some_iff.mp ek).1
    refine ⟨hw _, yes_turn ?_⟩
    refine ht x k H' (List.mem_of_getElem? ek) sm (TrAt.keep (TK.same sm) hk) _ (fun v H2 s2 r2 => ?_)
    have hd2 := s2 _ _ hd
    refine ⟨ws, hd2, by rw [paired_len hr, List.length_take]; exact smallN (by omega), Same.mut nD (sm.trans s2), ws ++ [v], upd_same, ?_⟩
    rw [take_snoc ek]
    exact paired_app (step (fun k hk => List.mem_of_mem_take hk) ((TK.same s2).trans (TK.put hd2)) hr) (.cons (mono _ _ _ _ (List.mem_of_getElem? ek) (TK.put hd2) r2) .nil)
  · obtain ⟨sm, ws, hd, hr⟩ := iv
    rw [paired_len pr, List.take_length] at hr
    exact h D H' ws nD sm hd hr
end
theorem flat_take {α β : Type} (f : α → List β) (l : List α) (i : Nat) : ((l.take i).flatMap f).length ≤ (l.flatMap f).length := by
  have e : l.flatMap f = (l.take i).flatMap f ++ (l.drop i).flatMap f := by rw [← List.flatMap_append, List.take_append_drop]
  rw [e, List.length_append]
  omega
theorem range_take (n i : Nat) (h : i ≤ n) : (List.range n).take i = List.range i := by rw [List.take_range, Nat.min_eq_left h]
def spPov (K : PySem.W.Frag) : Sp := fun vs H Q _ => ∃ (s : Str) (b : Addr) (B : List (List Tr)) (m : Nat), vs = [.str s, .ref b, .int (m : Nat)] ∧ BLat K H b B ∧ B.length = m ∧ m ≤ 60 ∧ (∀ k, (B.getD k []).length ≤ 2000) ∧ (pr s B m).length ≤ 2000 ∧ (∀ k, ∀ t ∈ B.getD k [], Pl t) ∧
  ∀ p vs H', H p = none → Same H H' → H' p = some (.lst vs) → KidsAt K H' vs (pr s B m) → Q (.ref p) H'
def spTov (K : PySem.W.Frag) : Sp := fun vs H Q _ => ∃ (g b : Addr) (sg : Sg) (B : List (List Tr)) (m : Nat), vs = [.ref g, .ref b, .int (m : Nat)] ∧ SgAt K H g sg ∧ GSg sg ∧ BLat K H b B ∧ B.length = m ∧ 1 ≤ m ∧ m ≤ 60 ∧ (∀ k, (B.getD k []).length ≤ 2000) ∧ (ov sg B m).length ≤ 2000 ∧ (∀ k, ∀ t ∈ B.getD k [], Pl t) ∧
  ∀ p vs H', H p = none → Same H H' → H' p = some (.lst vs) → KidsAt K H' vs (ov sg B m) → Q (.ref p) H'
end Pg

set_option Elab.async false
set_option linter.all false
set_option maxRecDepth 100000
set_option maxHeartbeats 4000000
namespace Pg
open PySem PySem.Spec PyProof.Rows L2
/-! ### defs that may raise -/
structure CalX (P : Program) (w : World) (K : PySem.W.Frag) (mg : Str → Option Value) (base : Heap) (k : Nat) (x : Str) (sp : Sp) : Prop where
  ex : ∃ (f : Addr) (fd : FuncData) (ps : List Str), FnOk P w K mg base (L2.CX P w) k f fd ps sp ∧ mg x = some (.ref f) ∧ PySem.W.keepIn K (.ref f) = true ∧ Binds K fd ps []
theorem mk_calX {P : Program} {w : World} {K : PySem.W.Frag} {mg : Str → Option Value} {base : Heap} {x : Str} {st : Stmt} {f : Addr} {fd : FuncData} {N ps : List Str} {k : Nat} {sp : Sp} (F : FnP K x st f fd) (hm : mg x = some (.ref f)) (S : FnScope N ps (defScope st))
    (hb : ∀ (kV doc pm : Value) (an : Option Addr) (cdv ct : Value) (us : List Value), us.length = ps.length → bindArgs (PySem.W.fnOf x x (defArgs st) (defBody st) (defScope st) .none kV doc pm an cdv ct) ⟨us, []⟩ = pure (ps.zip us))
    (len : ∀ vs H Q E, sp vs H Q E → vs.length = ps.length)
    (body : ∀ (cdv : Value) (A : Around) (outer : List Env) (s : Shared) (H : Hp) (vs : List V) (Q : VK) (E : XK), Room k (A.deeper (envOfC x (defScope st) s.heap.objs.size f cdv)) → sp vs H Q E →
      ∃ t, PSs (cxOf (L2.CX P w) P w K mg base N x (defScope st) f cdv A outer s H E) (defBody st) t ∧ t { nx := fun _ H' => Q .non H', rt := Q } (start N vs) H) : CalX P w K mg base (k + 1) x sp :=
  ⟨f, fd, ps, F.ok S len body, hm, F.kp, F.bindsN hb⟩
section
variable {X : Cx} {k j : Nat} {x : Str} {sp : Sp} {W : WX} {p pos : Pos} {e : Expr} {es : List Expr} {t : TA}
theorem pe_cx (c : CalX X.prog X.w X.K X.mg X.base k x sp) (hr : Room j X.A) (hk : k ≤ j) (hg : Gl X x) (tk : Takes X W) (ha : PA X (e :: es) t)
    (hdb : (x == ("__debug__" : Str)) = false := by decide) (he : starEach (e :: es) X.env = (false, eval e X.env) :: starEach es X.env := by rfl) (hpl : (backTo pos (starEach es X.env)).any (·.1) = false := by rfl) :
    PE X (.Call (.Name x p) (e :: es) [] pos) (tCallS sp (WE W) t) := by
  obtain ⟨f, fd, ps, F, hm, kp, b⟩ := c.ex
  exact pe_callS F (hr.mono hk) hg hm kp b (fun σ => passAt tk σ) ha hdb he hpl
end
/-! isinstance of a caught exception whose class the reading tells -/
def rIsE2 (K : PySem.W.Frag) (cls : Value) (d : Option Addr) (D a : Addr) : List V → Hp → VK → Prop := fun xs H Q => cls = .ref D ∧ d = none ∧ rIsE K D a xs H Q
theorem call_isE2 {X : Cx} {a D : Addr} {oe : Obj} {pn : List (Addr × Obj)} {cls : Value} {d : Option Addr} (C : ExcC X.K D) (hz : Zc cls d oe) (hf : ∃ vs, oe.data = .fields vs) : CallR (X.suite a ((a, oe) :: pn)) (.builtin "isinstance") (rIsE2 X.K cls d D a) := by
  intro pins s σ H xs us Q I r ⟨e1, e2, h⟩
  subst e1 e2
  exact call_isE C hz hf pins s σ H xs us Q I r h
def rIsET (K : PySem.W.Frag) (cls : Value) (d : Option Addr) (D a : Addr) : List V → Hp → VK → Prop := fun xs H Q => cls = .ref D ∧ d = none ∧ ∃ (tp : Addr) (as : List Addr) (b : Bool), xs = [.ref a, .ref tp] ∧ H tp = some (.tup (as.map V.ref)) ∧ PySem.W.kitAny K (.ref D) (as.map Value.ref) = some b ∧ Q (.bl b) H
theorem vals_refs : ∀ {as : List Addr} {us : List Value}, Vals (as.map V.ref) us → us = as.map Value.ref
  | [], _, h => by cases h; rfl
  | a :: as, _, h => by
    cases h with
    | cons r t => cases r; rw [vals_refs t]; rfl
theorem call_isET {X : Cx} {a D : Addr} {oe : Obj} {pn : List (Addr × Obj)} {cls : Value} {d : Option Addr} (C : ExcC X.K D) (hz : Zc cls d oe) (hf : ∃ vs, oe.data = .fields vs) : CallR (X.suite a ((a, oe) :: pn)) (.builtin "isinstance") (rIsET X.K cls d D a) := by
  intro pins s σ H xs us Q I r ⟨e1, e2, tp, as, b, ex, ht, e, q⟩
  subst e1 e2 ex
  obtain ⟨u1, u2, rfl, r1, r2⟩ := vals2 r
  cases r1
  cases r2
  obtain ⟨hget, _⟩ := I.pin (a, oe) (List.mem_append.mpr (.inl List.mem_cons_self))
  obtain ⟨vs, hv⟩ := hf
  have J : PySem.W.InstAt s.heap a oe D none := by
    obtain ⟨oc, od, oda, osl⟩ := oe
    obtain ⟨h1, h2⟩ := hz
    dsimp only at h1 h2 hv
    subst h1 h2 hv
    exact ⟨hget, rfl, rfl, trivial⟩
  obtain ⟨hz', its, rv, o⟩ := I.hok tp _ ht
  obtain rfl := vals_refs rv
  obtain ⟨ob, ho, h1, n, h2⟩ := o
  obtain ⟨oc, od, oda, osl⟩ := ob
  dsimp only at h1 h2
  subst h1 h2
  exact PySem.W.kia_tup (PySem.W.handS_kitx_exc C.hg C.hk C.hs C.hd C.ha C.hn C.ht C.hm) I.kIn J ho e (fun z => nomatch z) fun tk => ⟨.bl b, H, I.kept (t' := tk) fun _ _ z => z, rfl, q⟩
structure Ex2 (K : PySem.W.Frag) (mg : Str → Option Value) (N T M Pe : Addr) : Prop where
  mc : ∃ u, mg "MAX_COUNTED" = some u ∧ RelV (.int 60) u
  ml : ∃ u, mg "MAX_LISTED" = some u ∧ RelV (.int 2000) u
  gN : mg "NotAllowed" = some (.ref N)
  gT : mg "TooLarge" = some (.ref T)
  gM : mg "Missing" = some (.ref M)
  gP : mg "PergolaError" = some (.ref Pe)
  xN : PySem.W.excIn K N He.veBase "ValueError.__new__" = true
  xT : PySem.W.excIn K T He.veBase "ValueError.__new__" = true
  kN : PySem.W.keepIn K (.ref N) = true
  kT : PySem.W.keepIn K (.ref T) = true
  bN : PySem.W.subIn K (.ref N) (.type "BaseException") = some true
  bT : PySem.W.subIn K (.ref T) (.type "BaseException") = some true
  tN : PySem.W.typeIn K (.ref N) = some (.type "type")
  tT : PySem.W.typeIn K (.ref T) = some (.type "type")
  eN : PySem.W.exmOne K (.ref N) (.ref N) = some true
  eT : PySem.W.exmOne K (.ref T) (.ref T) = some true
  cN : ExcC K N
  cT : ExcC K T
  iN : PySem.W.kitOne K (.ref N) (.ref Pe) = some true
  iT : PySem.W.kitOne K (.ref T) (.ref Pe) = some true
  aN : PySem.W.kitAny K (.ref N) [.ref T, .ref M] = some false
  aT : PySem.W.kitAny K (.ref T) [.ref N, .ref M] = some false
def spChk (N : Addr) : Sp := fun vs H Q E => ∃ n : Int, vs = [.int n] ∧ ((0 ≤ n ∧ n ≤ 60) → Q .non H) ∧ (¬ (0 ≤ n ∧ n ≤ 60) → E (.ref N) none H)
def spCnt (K : PySem.W.Frag) (N : Addr) : Sp := fun vs H Q E => ∃ (g : Addr) (sg : Sg) (n : Int), vs = [.ref g, .int n] ∧ SgAt K H g sg ∧ GSg sg ∧ ((0 ≤ n ∧ n ≤ 60) → ∀ H', Same H H' → Q (.int (ct sg n.toNat : Nat)) H') ∧ (¬ (0 ≤ n ∧ n ≤ 60) → E (.ref N) none H)
def spTrs (K : PySem.W.Frag) (N T : Addr) : Sp := fun vs H Q E => ∃ (g : Addr) (sg : Sg) (n : Int), vs = [.ref g, .int n] ∧ SgAt K H g sg ∧ GSg sg ∧ ((0 ≤ n ∧ n ≤ 60) → ct sg n.toNat ≤ 2000 → ∀ p vs H', H p = none → Same H H' → H' p = some (.lst vs) → KidsAt K H' vs (ts sg n.toNat) → Q (.ref p) H') ∧
  ((0 ≤ n ∧ n ≤ 60) → 2000 < ct sg n.toNat → ∀ H', Same H H' → E (.ref T) none H') ∧ (¬ (0 ≤ n ∧ n ≤ 60) → E (.ref N) none H)
end Pg

set_option Elab.async false
set_option linter.all false
set_option maxRecDepth 100000
set_option maxHeartbeats 4000000
namespace Pg
open PySem PySem.Spec PyProof.Rows L2
theorem mk_fng {P : Program} {w : World} {K : PySem.W.Frag} {mg : Str → Option Value} {base : Heap} {f : Addr} {fd : FuncData} {x : Str} {st : Stmt} {N ps : List Str} {k : Nat} {sp : Sp} (F : FnP K x st f fd) (S : FnScope N ps (defScope st)) (len : ∀ vs H Q E, sp vs H Q E → vs.length = ps.length)
    (body : ∀ (cdv : Value) (A : Around) (outer : List Env) (s : Shared) (H : Hp) (vs : List V) (Q : VK), (A.deeper (envOfC x (defScope st) s.heap.objs.size f cdv)).guards = some [] → Room k (A.deeper (envOfC x (defScope st) s.heap.objs.size f cdv)) → sp vs H Q E0 →
      ∃ t, PSs (cxOf CX0 P w K mg base N x (defScope st) f cdv A outer s H E0).nox (defBody st) t ∧ t { nx := fun _ H' => Q .non H', rt := Q } (start N vs) H) : FnG P w K mg base (k + 1) f fd ps sp := by
  obtain ⟨oc, od, dV, kV, doc, pm, an, cdv, ct, osl, rfl, lk, hcd, _, _⟩ := F.ex
  exact fng_of lk hcd S len fun A outer s H vs Q hg hr hsp => body cdv A outer s H vs Q hg hr hsp
theorem int_show {n : Int} (h : n.natAbs.log2 < 1920) : PyData.showable (.list [.int n]) = true ∧ PyData.hasDict (.list [.int n]) = false ∧ (PyData.shown (.list [.int n])).length ≤ sizeLine ∧ (PyData.list [.int n]).depth ≤ 70 := by
  refine ⟨?_, rfl, ?_, by simp [PyData.depth, PyData.depthAll]⟩
  · show (decide (n.natAbs.log2 < 1920) && true) = true
    rw [decide_eq_true h]; rfl
  · have e : PyData.shown (.list [.int n]) = (("[" : Str) ++ ("" : Str) ++ PySem.Str.ofString (toString n)) ++ ("]" : Str) := rfl
    rw [e, PySem.Str.length_append, PySem.Str.length_append]
    have h1 := int_text_len_1921 h
    have h2 : (("[" : Str) ++ ("" : Str)).length ≤ 10 := by decide +kernel
    have h3 : ("]" : Str).length ≤ 10 := by decide +kernel
    exact Nat.le_of_lt (smallN (Nat.le_trans (Nat.add_le_add (Nat.add_le_add h2 h1) h3) (by decide)))
def spSame1 : Sp := fun vs H Q _ => ∃ n : Int, vs = [.int n, .int n] ∧ n.natAbs.log2 < 1920 ∧ ∀ H', Same H H' → Q (.bl true) H'
def spRef (K : PySem.W.Frag) : Sp := fun vs H Q _ => ∃ (kd n : Int) (g : Addr) (sg : Sg), vs = [.int kd, .ref g, .int n] ∧ SgAt K H g sg ∧ GSg sg ∧ ¬ (0 ≤ n ∧ n ≤ 60) ∧ ∀ H', Same H H' → Q (.bl true) H'
def spLrg (K : PySem.W.Frag) : Sp := fun vs H Q _ => ∃ (n : Int) (g : Addr) (sg : Sg), vs = [.ref g, .int n] ∧ SgAt K H g sg ∧ GSg sg ∧ (0 ≤ n ∧ n ≤ 60) ∧ 2000 < ct sg n.toNat ∧ ∀ H', Same H H' → Q (.bl true) H'
end Pg

set_option Elab.async false
set_option linter.all false
set_option maxRecDepth 100000
set_option maxHeartbeats 4000000
namespace Pg
open PySem PySem.Spec PyProof.Rows L2
section
variable {K : PySem.W.Frag} {H H' : Hp}
mutual
theorem dp_same (s : Same H H') : ∀ (d : PyData) (v : V), Dp K H v d → Dp K H' v d
  | .none, _, h => by cases h; exact .non
  | .bool _, _, h => by cases h; exact .bl _
  | .int _, _, h => by cases h; exact .int _
  | .str _, _, h => by cases h; exact .str _
  | .list ds, _, h => by
    cases h with
    | lst hq ha => exact .lst (s.seq hq) (dpAll_same s ds _ ha)
  | .tuple ds, _, h => by
    cases h with
    | tup hq ha => exact .tup (TK.same s _ _ hq) (dpAll_same s ds _ ha)
  | .dict _, _, h => by cases h
theorem dpAll_same (s : Same H H') : ∀ (ds : List PyData) (vs : List V), DpAll K H vs ds → DpAll K H' vs ds
  | [], _, h => by cases h; exact .nil
  | d :: ds, _, h => by
    cases h with
    | cons a b => exact .cons (dp_same s d _ a) (dpAll_same s ds _ b)
end
end
section
variable {K : PySem.W.Frag} {σ : L2.St} {H : Hp} {Q : VK} {p r : Addr} {us : List V} {sg : Sg} {j j1 j2 : Nat} {te : TE} {tt : TT}
theorem if_of {b : Bool} {F G : Prop} (h1 : b = true → F) (h2 : b = false → G) : (if b = true then F else G) := by
  cases b with
  | true => rw [if_pos rfl]; exact h1 rfl
  | false => rw [if_neg Bool.false_ne_true]; exact h2 rfl
/-- [f(sign, arity) for sign, arity in signs if ..] -/
theorem rd_prsIf {i : Nat} (f : Str × Int → V) (b : Str × Int → Bool) (hi : σ[i]? = some (some (.ref p))) (hS : SgAt K H p sg) (h4 : sg.length ≤ 1000) (hw : ∀ x y, wipe (((wipe σ [j1, j2]).set j1 (some x)).set j2 (some y)) [j1, j2] = wipe σ [j1, j2])
    (htt : ∀ s H', s ∈ sg → Same H H' → ∀ Q' : Bool → Hp → Prop, Q' (b s) H' → tt (((wipe σ [j1, j2]).set j1 (some (.str s.1))).set j2 (some (.int s.2))) H' Q')
    (ht : ∀ s H', s ∈ sg → Same H H' → ∀ Q', (∀ H2, Same H' H2 → Q' (f s) H2) → te (((wipe σ [j1, j2]).set j1 (some (.str s.1))).set j2 (some (.int s.2))) H' Q')
    (h : ∀ D H', H D = none → Same H H' → H' D = some (.lst ((sg.filter b).map f)) → Q (.ref D) H') :
    tLc (iTup K (tVar i)) (gTup K 2 (gCons (gName j1) (gCons (gName j2) gNil))) tt te [j1, j2] σ H Q := by
  obtain ⟨rs, hT, pr⟩ := hS.ex
  refine ⟨_, hi, p, rfl, ⟨_, hT⟩, fun D nD => lc_tup (K := K) (xs := rs.map V.ref) (fun i H' => Same H H' ∧ H' D = some (.lst (((sg.take i).filter b).map f))) ⟨Same.new nD, upd_same⟩ (fun i H' _ iv => TK.same iv.1 _ _ hT) (fun i x H' hx iv => ?_) (fun H' iv => ?_)⟩
  · rw [List.getElem?_map] at hx
    obtain ⟨r, e, rfl⟩ : ∃ r, rs[i]? = some r ∧ V.ref r = x := by
      cases e : rs[i]? with
      | none => rw [e] at hx; cases hx
      | some z => rw [e] at hx; exact ⟨z, rfl, Option.some.inj hx⟩
    obtain ⟨s, es, hr⟩ := Pg.paired_get pr e
    obtain ⟨sm, hd⟩ := iv
    refine ⟨r, _, rfl, TK.same sm _ _ hr, rfl, _, _, rfl, _, _, rfl, rfl, hw _ _, ?_⟩
    refine htt s H' (List.mem_of_getElem? es) sm _ (if_of (fun e1 => ?_) fun e1 => ?_)
    · refine ht s H' (List.mem_of_getElem? es) sm _ fun H2 s2 => ⟨_, s2 _ _ hd, ?_, Same.mut nD (sm.trans s2), ?_⟩
      · rw [List.length_map]
        have := List.length_filter_le b (sg.take i)
        rw [List.length_take] at this
        exact small1000 (by omega)
      · rw [upd_same, take_snoc es, List.filter_append, List.map_append]
        have : [s].filter b = [s] := by rw [List.filter_cons_of_pos e1]; rfl
        rw [this]
        rfl
    · refine ⟨sm, ?_⟩
      rw [hd, take_snoc es, List.filter_append]
      have : [s].filter b = [] := by rw [List.filter_cons_of_neg (by rw [e1]; decide)]; rfl
      rw [this, List.append_nil]
  · obtain ⟨sm, hd⟩ := iv
    rw [List.length_map, paired_len pr, List.take_length] at hd
    exact h D H' nD sm hd
/-- [f(x) for x in xs] over a list -/
theorem rd_mapL {α : Type} {ks : List α} {wi : TI} (F : V → α → Prop) (f : α → V) (hwi : ∀ R, R (Itl K r) H → wi σ H R) (hS : SqL K H r us) (pr : Paired F us ks) (hlen : ks.length ≤ 100000) (hw : ∀ x, wipe ((wipe σ [j]).set j (some x)) [j] = wipe σ [j])
    (ht : ∀ u k H', k ∈ ks → F u k → Same H H' → ∀ Q', (∀ H2, Same H' H2 → Q' (f k) H2) → te ((wipe σ [j]).set j (some u)) H' Q')
    (h : ∀ D H', H D = none → Same H H' → H' D = some (.lst (ks.map f)) → Q (.ref D) H') : tLc wi (gName j) tYes te [j] σ H Q := by
  refine hwi _ (fun D nD => ?_)
  refine lc_list (K := K) (xs := us) (fun i H' => Same H H' ∧ H' D = some (.lst ((ks.take i).map f))) ⟨Same.new nD, upd_same⟩ (fun i H' _ iv => iv.1.seq hS) (fun i x H' hx iv => ?_) (fun H' iv => ?_)
  · obtain ⟨sm, hd⟩ := iv
    obtain ⟨k, ek, hk⟩ := Pg.paired_get pr hx
    refine ⟨hw _, yes_turn ?_⟩
    refine ht x k H' (List.mem_of_getElem? ek) hk sm _ (fun H2 s2 => ?_)
    refine ⟨_, s2 _ _ hd, ?_, Same.mut nD (sm.trans s2), ?_⟩
    · have := (List.getElem?_eq_some_iff.mp ek).1
      rw [List.length_map, List.length_take]; exact smallN (by omega)
    · rw [upd_same, take_snoc ek, List.map_append]; rfl
  · obtain ⟨sm, hd⟩ := iv
    rw [paired_len pr, List.take_length] at hd
    exact h D H' nD sm hd
end
/-! ### numbers of constants; the one pair of a word -/
theorem c0_len : ∀ l : Sg, (l.map fun s => co1 [0] s.2 1).sum = (l.filter fun s => decide (V.int s.2 = V.int 0)).length
  | [] => rfl
  | s :: l => by
    rw [List.map_cons, List.sum_cons, c0_len l]
    by_cases h : s.2 = 0
    · rw [List.filter_cons_of_pos (p := fun s : Str × Int => decide (V.int s.2 = V.int 0)) (show decide (V.int s.2 = V.int 0) = true from decide_eq_true (by rw [h])), List.length_cons]
      unfold co1
      rw [if_pos h, if_pos rfl]
      omega
    · rw [List.filter_cons_of_neg (by simp [h])]
      unfold co1
      rw [if_neg h]
      by_cases h1 : s.2 = 1
      · rw [if_pos h1]; show 0 + _ = _; omega
      · rw [if_neg h1]; show 0 + _ = _; omega
theorem cl_one (sg : Sg) : cl sg 1 = [0, (sg.filter fun s => decide (V.int s.2 = V.int 0)).length] := by
  show [0] ++ [co sg [0] 1] = _
  unfold co
  rw [c0_len]
  rfl
theorem filter_one {x : Str} {a : Int} : ∀ {sg : Sg}, (sg.map (·.1)).Nodup → (x, a) ∈ sg → (sg.filter fun s => decide (V.str s.1 = V.str x)) = [(x, a)]
  | [], _, h => absurd h List.not_mem_nil
  | s :: sg, nd, h => by
    rw [List.map_cons, List.nodup_cons] at nd
    rcases List.mem_cons.mp h with e | e
    · subst e
      rw [List.filter_cons_of_pos (p := fun s : Str × Int => decide (V.str s.1 = V.str x)) (a := (x, a)) (decide_eq_true rfl)]
      have : (sg.filter fun s => decide (V.str s.1 = V.str x)) = [] := List.filter_eq_nil_iff.mpr fun s hs z => nd.1 (List.mem_map.mpr ⟨s, hs, V.str.inj (of_decide_eq_true z)⟩)
      rw [this]
    · have : s.1 ≠ x := fun z => nd.1 (List.mem_map.mpr ⟨_, e, z.symm⟩)
      rw [List.filter_cons_of_neg (by simp [this])]
      exact filter_one nd.2 e
def spLcs (K : PySem.W.Frag) : Sp := fun vs H Q _ => ∃ (g : Addr) (sg : Sg), vs = [.ref g] ∧ SgAt K H g sg ∧ GSg sg ∧ ∀ p H', H p = none → Same H H' → H' p = some (.lst (cv (cl sg 60))) → Q (.ref p) H'
def spIst (K : PySem.W.Frag) (d : Nat) : Sp := fun vs H Q _ => ∃ (g : Addr) (sg : Sg) (v : V) (t : Tr), vs = [.ref g, v] ∧ SgAt K H g sg ∧ GSg sg ∧ TrAt K H t v ∧ Wf sg [] t ∧ t.dep ≤ d ∧ ∀ H', Same H H' → Q (.bl true) H'
end Pg

set_option Elab.async false
set_option linter.all false
set_option maxRecDepth 100000
set_option maxHeartbeats 4000000
namespace Pg
open PySem PySem.Spec PyProof.Rows L2
/-- a tree as data -/
def trD : Tr → PyData
  | .nm x => .str x
  | .c0 s => .tuple [.str s]
  | .c1 s t => .tuple [.str s, trD t]
  | .c2 s t u => .tuple [.str s, trD t, trD u]
theorem tr_dp {K : PySem.W.Frag} {H : Hp} : ∀ {t : Tr} {v : V}, TrAt K H t v → Dp K H v (trD t)
  | .nm _, _, h => by rw [show _ = _ from h]; exact .str _
  | .c0 _, _, ⟨p, e, q⟩ => by rw [e]; exact .tup q (.cons (.str _) .nil)
  | .c1 _ _, _, ⟨p, u, e, q, r⟩ => by rw [e]; exact .tup q (.cons (.str _) (.cons (tr_dp r) .nil))
  | .c2 _ _ _, _, ⟨p, u, u', e, q, r, r'⟩ => by rw [e]; exact .tup q (.cons (.str _) (.cons (tr_dp r) (.cons (tr_dp r') .nil)))
theorem kids_dp {K : PySem.W.Frag} {H : Hp} : ∀ {us : List V} {ks : List Tr}, KidsAt K H us ks → DpAll K H us (ks.map trD)
  | _, _, .nil => .nil
  | _, _, .cons a b => .cons (tr_dp a) (kids_dp b)
theorem Wd.ok {i : Nat} {w : Str} (h : Wd i w) : PyData.strOk w = true := by
  have hc : ∀ c ∈ cs w, c < 0x110000 := fun c hc => by
    rcases h with h | ⟨h1, h2⟩
    · rcases h.2.2 c hc with e | e | e | e <;> omega
    · rw [h2] at hc
      rcases List.mem_cons.mp hc with e | e
      · omega
      · rw [List.mem_singleton] at e
        omega
  show w.cps.all (· < 0x110000) = true
  rw [← Array.all_toList]
  exact List.all_eq_true.mpr fun c h => decide_eq_true (hc c h)
theorem GSg.ok {sg : Sg} (g : GSg sg) {x : Str} {a : Int} (h : (x, a) ∈ sg) : PyData.strOk x = true := let ⟨_, w⟩ := g.wd _ h; w.ok
theorem tr_lay {sg : Sg} (g : GSg sg) : ∀ {t : Tr}, Wf sg [] t → (trD t).canLay0 = true
  | .nm _, h => absurd h List.not_mem_nil
  | .c0 s, h => by simp only [trD, PyData.canLay0, PyData.canLayAll0, g.ok (show (s, 0) ∈ sg from h), Bool.and_self]
  | .c1 s t, h => by simp only [trD, PyData.canLay0, PyData.canLayAll0, g.ok h.1, tr_lay g (t := t) h.2, Bool.and_self]
  | .c2 s t u, h => by simp only [trD, PyData.canLay0, PyData.canLayAll0, g.ok h.1, tr_lay g (t := t) h.2.1, tr_lay g (t := u) h.2.2, Bool.and_self]
theorem tr_depth : ∀ t : Tr, (trD t).depth ≤ t.dep
  | .nm _ => Nat.zero_le _
  | .c0 s => by simp [trD, PyData.depth, PyData.depthAll, Tr.dep]
  | .c1 s t => by
    have := tr_depth t
    simp only [trD, PyData.depth, PyData.depthAll, Tr.dep]
    omega
  | .c2 s t u => by
    have := tr_depth t
    have := tr_depth u
    simp only [trD, PyData.depth, PyData.depthAll, Tr.dep]
    omega
theorem tr_alike : ∀ t : Tr, PySem.W.alike (trD t) (trD t) = true
  | .nm _ => rfl
  | .c0 s => rfl
  | .c1 s t => by simp only [trD, PySem.W.alike, PySem.W.alikeAll, tr_alike t, Bool.and_self]
  | .c2 s t u => by simp only [trD, PySem.W.alike, PySem.W.alikeAll, tr_alike t, tr_alike u, Bool.and_self]
theorem trs_alike : ∀ ts : List Tr, PySem.W.alikeAll (ts.map trD) (ts.map trD) = true
  | [] => rfl
  | t :: ts => by rw [List.map_cons, PySem.W.alikeAll, tr_alike t, trs_alike ts]; rfl
theorem trs_lay {sg : Sg} (g : GSg sg) : ∀ {ts : List Tr}, (∀ t ∈ ts, Wf sg [] t) → PyData.canLayAll0 (ts.map trD) = true
  | [], _ => rfl
  | t :: ts, h => by
    rw [List.map_cons, PyData.canLayAll0, tr_lay g (h t List.mem_cons_self), trs_lay g fun k hk => h k (List.mem_cons_of_mem _ hk)]
    rfl
theorem trs_depth : ∀ {ts : List Tr}, (∀ t ∈ ts, t.dep ≤ 60) → PyData.depthAll (ts.map trD) ≤ 60
  | [], _ => by show PyData.depthAll [] ≤ 60; decide
  | t :: ts, h => by
    have h1 := h t List.mem_cons_self
    have h2 := tr_depth t
    have h3 := trs_depth fun k hk => h k (List.mem_cons_of_mem _ hk)
    rw [List.map_cons, PyData.depthAll]
    omega
theorem trs_shaped {sg : Sg} (g : GSg sg) {ts : List Tr} (h : ∀ t ∈ ts, Wf sg [] t) (hd : ∀ t ∈ ts, t.dep ≤ 60) : SeqAt.shaped (.list (ts.map trD)) = true := by
  have h1 := trs_depth hd
  have h2 : (PyData.list (ts.map trD)).canLay0 = true := by rw [PyData.canLay0]; exact trs_lay g h
  have h3 : (PyData.list (ts.map trD)).depth ≤ 64 := by rw [PyData.depth]; omega
  unfold SeqAt.shaped
  rw [h2, decide_eq_true h3]
  rfl
theorem trs_eqv (ts : List Tr) : PyData.eqv (.list (ts.map trD)) (.list (ts.map trD)) = true := PySem.W.eqv_refl_alike _ (by rw [PySem.W.alike]; exact trs_alike ts)
theorem ts_next {sg : Sg} (g : GSg sg) {n k : Nat} (h : k + 1 < (ts sg n).length) : PySem.W.dataLt (keyD sg ((ts sg n)[k]'(by omega))) (keyD sg ((ts sg n)[k + 1])) = true :=
  LtK.lt (List.pairwise_iff_getElem.mp (ts_asc g n) k (k + 1) (by omega) h (by omega))
theorem tyX_lst {K : PySem.W.Frag} {H : Hp} {p : Addr} {xs : List V} (h : H p = some (.lst xs)) : TyX K H (.ref p) (.type "list") := .base (.lst h)
theorem all_true {α : Type} (l : List α) : (l.map fun _ => true).all id = true := by rw [List.all_map]; exact List.all_eq_true.mpr fun _ _ => rfl
def spLst (K : PySem.W.Frag) : Sp := fun vs H Q _ => ∃ (g : Addr) (sg : Sg) (n : Nat), vs = [.ref g, .int (n : Nat), .int (ct sg n : Nat)] ∧ SgAt K H g sg ∧ GSg sg ∧ n ≤ 60 ∧ ct sg n ≤ 2000 ∧ ∀ H', Same H H' → Q (.bl true) H'
end Pg

set_option Elab.async false
set_option linter.all false
set_option maxRecDepth 100000
set_option maxHeartbeats 4000000
namespace Pg
open PySem PySem.Spec PyProof.Rows L2
theorem at_ct {sg : Sg} {i : Int} {k : Nat} (e : i = (k : Int)) (h : k ≤ 60) : atI (cv (cl sg 60)) i = some (.int (ct sg k : Nat)) := by
  rw [at_cv e (by rw [cl_len]; omega), cl_get sg h]
section
variable {K : PySem.W.Frag} {σ : L2.St} {H : Hp} {Q : VK} {j : Nat} {tt : TT} {te : TE}
theorem rd_rngIf {n : Nat} {wi : TI} (b : Nat → Bool) (hwi : ∀ R, R (Itr 0 n) H → wi σ H R) (hn : n ≤ 1000) (hw : ∀ x, wipe ((wipe σ [j]).set j (some x)) [j] = wipe σ [j])
    (hv : ∀ x, ((wipe σ [j]).set j (some x))[j]? = some (some x))
    (ht : ∀ i H', i < n → Same H H' → ∀ Q' : Bool → Hp → Prop, Q' (b i) H' → tt ((wipe σ [j]).set j (some (.int (i : Nat)))) H' Q')
    (h : ∀ D H', H D = none → Same H H' → H' D = some (.lst (cv ((List.range n).filter b))) → Q (.ref D) H') : tLc wi (gName j) tt (tVar j) [j] σ H Q := by
  refine hwi _ (fun D nD => lc_range (lo := 0) (fun i H' => Same H H' ∧ H' D = some (.lst (cv ((List.range i).filter b)))) ⟨Same.new nD, upd_same⟩ (fun i H' hi iv => ?_) (fun H' iv => h D H' nD iv.1 iv.2))
  obtain ⟨sm, hd⟩ := iv
  rw [Int.zero_add]
  refine ⟨hw _, ht i H' hi sm _ (if_of (fun e => ?_) fun e => ?_)⟩
  · refine ⟨_, hv _, _, hd, ?_, Same.mut nD sm, ?_⟩
    · show (List.map _ _).length < sizeLine
      have := List.length_filter_le b (List.range i)
      rw [List.length_range] at this
      rw [List.length_map]
      exact smallN (by omega)
    · rw [upd_same, List.range_succ, List.filter_append]
      have : [i].filter b = [i] := by rw [List.filter_cons_of_pos e]; rfl
      rw [this]
      show _ = some (HO.lst ((_ ++ [i]).map _))
      rw [List.map_append]
      rfl
  · refine ⟨sm, ?_⟩
    rw [hd, List.range_succ, List.filter_append]
    have : [i].filter b = [] := by rw [List.filter_cons_of_neg (by rw [e]; decide)]; rfl
    rw [this, List.append_nil]
end
/-- the sizes that the law chooses from -/
structure FitI (sg : Sg) (i : Nat) (F : List Nat) : Prop where
  len : F.length ≤ i
  ok : ∀ k ∈ F, k < i ∧ ct sg k ≤ 2000
  ne : 0 < i → F ≠ []
theorem FitI.snoc {sg : Sg} {i : Nat} {F : List Nat} (f : FitI sg i F) (h : ct sg i ≤ 2000) : FitI sg (i + 1) (F ++ [i]) :=
  ⟨by rw [List.length_append, List.length_singleton]; have := f.len; omega, fun k hk => by
    rcases List.mem_append.mp hk with e | e
    · have := f.ok k e; omega
    · rw [List.mem_singleton] at e; rw [e]; exact ⟨by omega, h⟩, fun _ => by simp⟩
theorem FitI.skip {sg : Sg} {i : Nat} {F : List Nat} (f : FitI sg i F) (h : i ≠ 0) : FitI sg (i + 1) F := ⟨by have := f.len; omega, fun k hk => by have := f.ok k hk; omega, fun _ => f.ne (by omega)⟩
def spLaw (K : PySem.W.Frag) : Sp := fun vs H Q _ => ∃ (a : Addr) (ns : List Int), vs = [.ref a] ∧ SqL K H a (ns.map V.int) ∧ ns.length ≤ 63 ∧ ∀ H', Q (.bl true) H'
end Pg

set_option Elab.async false
set_option linter.all false
set_option maxRecDepth 100000
set_option maxHeartbeats 4000000
namespace Pg
open PySem PySem.Spec PyProof.Rows L2
/-! ### words of the program -/
def lowC (c : Nat) : Bool := decide (97 ≤ c) && decide (c ≤ 122)
def rsv : List Str := ["sign", "mark", "if", "not", "all", "some", "and", "or", "end"]
def isW (x : Str) : Bool := (decide (1 ≤ x.length) && decide (x.length ≤ 8)) && (!decide (x ∈ rsv) && (cs x).all lowC)
/-- the number beside a word, or -1 -/
def numB : Sg → Str → Int
  | [], _ => -1
  | s :: sg, x => if s.1 = x then s.2 else numB sg x
def spLow : Sp := fun vs H Q _ => ∃ c : Nat, vs = [.str ⟨#[c]⟩] ∧ ∀ H', Same H H' → Q (.bl (lowC c)) H'
def spIsw : Sp := fun vs H Q _ => ∃ x : Str, vs = [.str x] ∧ x.length ≤ 100000 ∧ ∀ H', Same H H' → Q (.bl (isW x)) H'
def spNub (K : PySem.W.Frag) : Sp := fun vs H Q _ => ∃ (g : Addr) (sg : Sg) (x : Str), vs = [.ref g, .str x] ∧ SgAt K H g sg ∧ sg.length ≤ 1000 ∧ ∀ H', Same H H' → Q (.int (numB sg x)) H'
def spIsn (K : PySem.W.Frag) : Sp := fun vs H Q _ => ∃ (g : Addr) (sg : Sg) (x : Str), vs = [.ref g, .str x] ∧ SgAt K H g sg ∧ sg.length ≤ 1000 ∧ x.length ≤ 100000 ∧ ∀ H', Same H H' → Q (.bl (isW x && decide (numB sg x = -1))) H'
theorem numB_cons {s : Str × Int} {sg : Sg} {x : Str} : numB (s :: sg) x = if s.1 = x then s.2 else numB sg x := rfl
/-- facts of the words' constants -/
structure Wo (K : PySem.W.Frag) (mg : Str → Option Value) (rsa : Addr) : Prop where
  mw : ∃ u, mg "MAX_WORD" = some u ∧ RelV (.int 8) u
  rs : mg "RESERVED" = some (.ref rsa)
  rt : ∀ H, SqT K H rsa (rsv.map V.str)
theorem one_lt (a b : Nat) : ([a] < [b]) ↔ a < b := by
  rw [List.cons_lt_cons_iff]
  exact ⟨fun h => h.elim id fun h => absurd h.2 (List.not_lt_nil _), .inl⟩
theorem le_a (c : Nat) : (!decide (cs (⟨#[c]⟩ : Str) < cs (PySem.Str.ofString "a"))) = decide (97 ≤ c) := by
  have e : cs (PySem.Str.ofString "a") = [97] := by decide +kernel
  rw [e, cs_one, Bool.eq_iff_iff, Bool.not_eq_true', decide_eq_false_iff_not, decide_eq_true_iff, one_lt]
  omega
theorem le_z (c : Nat) : (!decide (cs (PySem.Str.ofString "z") < cs (⟨#[c]⟩ : Str))) = decide (c ≤ 122) := by
  have e : cs (PySem.Str.ofString "z") = [122] := by decide +kernel
  rw [e, cs_one, Bool.eq_iff_iff, Bool.not_eq_true', decide_eq_false_iff_not, decide_eq_true_iff, one_lt]
  omega
/-- [f(char) for char in text] -/
theorem rd_str {σ : L2.St} {H : Hp} {Q : VK} {j : Nat} {te : TE} {wi : TI} {x : Str} (f : Nat → V) (hwi : ∀ R, R (Its x) H → wi σ H R) (hn : x.length ≤ 100000) (hw : ∀ x, wipe ((wipe σ [j]).set j (some x)) [j] = wipe σ [j])
    (ht : ∀ c H', c ∈ cs x → Same H H' → ∀ Q', (∀ H2, Same H' H2 → Q' (f c) H2) → te ((wipe σ [j]).set j (some (.str ⟨#[c]⟩))) H' Q')
    (h : ∀ D H', H D = none → Same H H' → H' D = some (.lst ((cs x).map f)) → Q (.ref D) H') : tLc wi (gName j) tYes te [j] σ H Q := by
  have hsz : x.cps.size = (cs x).length := by simp [cs]
  have hxl : x.length = (cs x).length := cs_len x
  refine hwi _ (fun D nD => lc_it (walk_str (z := x)) (fun i H' => Same H H' ∧ H' D = some (.lst (((cs x).take i).map f))) ⟨Same.new nD, upd_same⟩ (fun _ _ _ _ => True.intro) (fun i y H' H'' hi iv yv => ?_) (fun H' iv => ?_))
  · obtain ⟨rfl, c, hc, rfl⟩ := yv
    obtain ⟨sm, hd⟩ := iv
    have ec : (cs x)[i]? = some c := by rw [← hc]; simp [cs]
    refine ⟨hw _, yes_turn ?_⟩
    refine ht c _ (List.mem_of_getElem? ec) sm _ fun H2 s2 => ⟨_, s2 _ _ hd, ?_, Same.mut nD (sm.trans s2), ?_⟩
    · rw [List.length_map, List.length_take]; exact smallN (by omega)
    · rw [upd_same, take_snoc ec, List.map_append]; rfl
  · obtain ⟨sm, hd⟩ := iv
    rw [hsz, List.take_length] at hd
    exact h D H' nD sm hd
end Pg

set_option Elab.async false
set_option linter.all false
set_option maxRecDepth 100000
set_option maxHeartbeats 4000000
namespace Pg
open PySem PySem.Spec PyProof.Rows L2
/-! ### any nest of tuples and texts: its nodes, from left to right -/
mutual
def preD : PyData → List PyData
  | .tuple ds => .tuple ds :: preT ds
  | d => [d]
def preT : List PyData → List PyData
  | [] => []
  | _ :: ds => preDs ds
def preDs : List PyData → List PyData
  | [] => []
  | d :: ds => preD d ++ preDs ds
end
mutual
def nest : PyData → Bool
  | .str _ => true
  | .tuple ds => nestAll ds
  | _ => false
def nestAll : List PyData → Bool
  | [] => true
  | d :: ds => nest d && nestAll ds
end
theorem preDs_flat : ∀ ds : List PyData, preDs ds = ds.flatMap preD
  | [] => rfl
  | d :: ds => by rw [preDs, preDs_flat ds, List.flatMap_cons]
theorem preD_tup (ds : List PyData) : preD (.tuple ds) = .tuple ds :: (ds.drop 1).flatMap preD := by
  cases ds with
  | nil => rfl
  | cons d ds => rw [preD, preT, preDs_flat]; rfl
theorem preD_str (x : Str) : preD (.str x) = [.str x] := rfl
theorem preD_pos (d : PyData) : 1 ≤ (preD d).length := by cases d <;> first | exact Nat.le_refl _ | (rw [preD_tup]; show 1 ≤ _ + 1; omega)
theorem nestAll_mem : ∀ {ds : List PyData}, nestAll ds = true → ∀ d ∈ ds, nest d = true
  | [], _, d, h => absurd h List.not_mem_nil
  | e :: ds, h, d, m => by
    rw [nestAll, Bool.and_eq_true] at h
    rcases List.mem_cons.mp m with e1 | e1
    · rw [e1]; exact h.1
    · exact nestAll_mem h.2 d e1
section
variable {K : PySem.W.Frag} {H H' : Hp}
mutual
theorem dp_tk (k : TK K H H') : ∀ (d : PyData) (v : V), nest d = true → Dp K H v d → Dp K H' v d
  | .str _, _, _, h => by cases h; exact .str _
  | .tuple ds, _, n, h => by
    cases h with
    | tup hq ha => exact .tup (k _ _ hq) (dpAll_tk k ds _ n ha)
  | .none, _, n, _ => by cases n
  | .bool _, _, n, _ => by cases n
  | .int _, _, n, _ => by cases n
  | .list _, _, n, _ => by cases n
  | .dict _, _, n, _ => by cases n
theorem dpAll_tk (k : TK K H H') : ∀ (ds : List PyData) (vs : List V), nestAll ds = true → DpAll K H vs ds → DpAll K H' vs ds
  | [], _, _, h => by cases h; exact .nil
  | d :: ds, _, n, h => by
    have n' : (nest d && nestAll ds) = true := n
    rw [Bool.and_eq_true] at n'
    cases h with
    | cons a b => exact .cons (dp_tk k d _ n'.1 a) (dpAll_tk k ds _ n'.2 b)
end
theorem dpAll_paired : ∀ {vs : List V} {ds : List PyData}, DpAll K H vs ds → Paired (Dp K H) vs ds
  | _, [], h => by cases h; exact .nil
  | _, d :: ds, h => by cases h with | cons a b => exact .cons a (dpAll_paired b)
theorem paired_dpAll : ∀ {vs : List V} {ds : List PyData}, Paired (Dp K H) vs ds → DpAll K H vs ds
  | _, _, .nil => .nil
  | _, _, .cons a b => .cons a (paired_dpAll b)
/-- values that are nests -/
abbrev NsAt (K : PySem.W.Frag) (H : Hp) (vs : List V) (ds : List PyData) : Prop := Paired (fun v d => Dp K H v d ∧ nest d = true) vs ds
theorem NsAt.keep {vs : List V} {ds : List PyData} (k : TK K H H') (h : NsAt K H vs ds) : NsAt K H' vs ds := Paired.imp2 (fun _ _ ⟨a, b⟩ => ⟨dp_tk k _ _ b a, b⟩) h
theorem ns_of : ∀ {vs : List V} {ds : List PyData}, DpAll K H vs ds → nestAll ds = true → NsAt K H vs ds
  | _, [], h, _ => by cases h; exact .nil
  | _, d :: ds, h, n => by
    rw [nestAll, Bool.and_eq_true] at n
    cases h with
    | cons a b => exact .cons ⟨a, n.1⟩ (ns_of b n.2)
theorem NsAt.drop1 {vs : List V} {ds : List PyData} (h : NsAt K H vs ds) : NsAt K H (vs.drop 1) (ds.drop 1) := by
  cases h with
  | nil => exact .nil
  | cons a b => exact b
end
def most (d : PyData) : Option Nat → List PyData
  | none => preD d
  | some m => (preD d).take m
def mostV : Option Nat → V
  | none => .non
  | some m => .int (m : Nat)
def spNds (K : PySem.W.Frag) : Sp := fun vs H Q _ => ∃ (v : V) (d : PyData) (o : Option Nat), vs = [v, mostV o] ∧ Dp K H v d ∧ nest d = true ∧ (preD d).length ≤ 100000 ∧ ∀ p H' ws, H p = none → Same H H' → H' p = some (.lst ws) → NsAt K H' ws (most d o) → Q (.ref p) H'
theorem mul_len_le : ∀ {ds : List PyData}, ds.length ≤ (ds.map fun d => (preD d).length).sum
  | [] => Nat.le_refl _
  | d :: ds => by have := preD_pos d; have := mul_len_le (ds := ds); rw [List.length_cons, List.map_cons, List.sum_cons]; omega
theorem flat_lenD : ∀ ds : List PyData, (ds.flatMap preD).length = (ds.map fun d => (preD d).length).sum
  | [] => rfl
  | d :: ds => by rw [List.flatMap_cons, List.length_append, flat_lenD ds]; rfl
theorem sum_revD (ds : List PyData) : (ds.reverse.map fun d => (preD d).length).sum = (ds.map fun d => (preD d).length).sum := by
  rw [List.map_reverse]
  exact List.sum_reverse _
/-- a def with one default None, called with all its arguments -/
theorem mk_cal2 {P : Program} {w : World} {K : PySem.W.Frag} {mg : Str → Option Value} {base : Heap} {x : Str} {st : Stmt} {f : Addr} {fd : FuncData} {N ps : List Str} {k n : Nat} {sp : Sp} (F : FunD K x x (defArgs st) (defBody st) (defScope st) [.non] [] f fd) (hm : mg x = some (.ref f)) (S : FnScope N ps (defScope st)) (hn : n = ps.length)
    (hb : ∀ (T : Addr) (kV doc pm : Value) (an : Option Addr) (cdv ct : Value) (us its : List Value), us.length = n → its.length = 1 → ∃ k, bindArgs (PySem.W.fnOf x x (defArgs st) (defBody st) (defScope st) (.ref T) kV doc pm an cdv ct) ⟨us, []⟩ = seqItems? (.ref T) >>= k ∧ k (some its.toArray) = pure (ps.zip (us ++ its.drop 1)))
    (len : ∀ vs H Q E, sp vs H Q E → vs.length = ps.length)
    (body : ∀ (cdv : Value) (A : Around) (outer : List Env) (s : Shared) (H : Hp) (vs : List V) (Q : VK) (E : XK), Room k (A.deeper (envOfC x (defScope st) s.heap.objs.size f cdv)) → sp vs H Q E →
      ∃ t, PSs (cxOf CX0 P w K mg base N x (defScope st) f cdv A outer s H E).nox (defBody st) t ∧ t { nx := fun _ H' => Q .non H', rt := Q } (start N vs) H) : Cal P w K mg base (k + 1) x sp [] := by
  obtain ⟨ds, hv, hbn⟩ := F.binds1 (ps := ps) n 1 (by simp) (by simpa using hn) (fun T kV doc pm an cdv ct us its h1 h2 => hb T kV doc pm an cdv ct us its h1 (by simpa using h2))
  exact ⟨f, fd, ps, ds, F.ok S len (fun cdv A outer s H vs Q E hr h => let ⟨t, a, b⟩ := body cdv A outer s H vs Q E hr h; ⟨t, a.nox, b⟩), hm, F.kp, hbn, hv⟩
end Pg

set_option Elab.async false
set_option linter.all false
set_option maxRecDepth 100000
set_option maxHeartbeats 4000000
namespace Pg
open PySem PySem.Spec PyProof.Rows L2 LamX
/-! ### lambdas without captured names, as values -/
/-- the object at f is the lambda -/
def LamO (f : Addr) (q : Str) (params : Arguments) (body : Expr) (scope : Scope) (c' : Addr) : HO := .ext fun h => ∃ pm ctv : Value, h.get? f = some (PySem.W.kla_obj "<lambda>" q params body scope [] pm c' ctv)
/-- all but the table at P -/
def ButP (P : Addr) (H H' : Hp) : Prop := ∀ b o, b ≠ P → H b = some o → H' b = some o
def tLamV (P : Addr) (q : Str) (params : Arguments) (body : Expr) (scope : Scope) : TE := fun _ H Q => TabS H P q ∧ ∀ (f c' : Addr) (H1 : Hp), ButP P H H1 → TabS H1 P q → H f = none → H1 f = some (LamO f q params body scope c') → H1 c' = some (CodeO c' q) → Q (.ref f) H1
theorem lamO_ok {Pr : Program} {w : World} {H : Hp} {h : Heap} {f c' : Addr} {q : Str} {params : Arguments} {body : Expr} {scope : Scope} {pm ctv : Value} (e : h.get? f = some (PySem.W.kla_obj "<lambda>" q params body scope [] pm c' ctv)) : ObjOk Pr w H h f (LamO f q params body scope c') :=
  ⟨⟨pm, ctv, e⟩, ⟨_, e⟩, fun h1 h2 ⟨p, t, z⟩ st => ⟨p, t, st _ z⟩⟩
section
variable {X : Cx}
theorem pe_lamV {c P : Addr} {params : Arguments} {body : Expr} {scope : Scope} {pos : Pos} (TB : TabB X.base X.mg c P) (hcode : X.env.code = .ref c) (hdef : defaultsOf params X.env = ([], [])) (hcl : closureFor scope X.env = pure []) :
    PE X (.Lambda params body scope pos) (tLamV P (X.env.qual ++ "<lambda>") params body scope) := by
  refine ⟨fun pins s σ H Q I h => ?_⟩
  obtain ⟨⟨ps, hP, ht, ha⟩, k⟩ := h
  refine PySem.W.kla_eval hdef ?_
  have tabAt : s.heap.get? P = some { cls := .none, data := .fields ps } := I.hok P _ hP
  cases hc : codeAmong pos ps.toList with
  | none =>
    refine PySem.W.kla_makeFunction (mg := X.mg) (c := c) (P := P) (ps := ps) hcl I.ok.glob (I.mod.glob.keeps I.bk) hcode (TB.code.keeps I.bk) tabAt ht hc TB.gP (TB.bm.keeps I.bk) fun c' ctv h' tk hx hge hlt hrec htb => ?_
    obtain ⟨c2, oc, vs, t, e2, hoc, hd, hv⟩ := hrec
    cases e2
    have freeC : H c' = none := I.hok.fresh hge
    have J := inv_table (t' := tk) (more := #[rawInt pos.line, rawInt pos.col, .ref c']) (h' := h') (q := X.env.qual ++ "<lambda>") I hP (fun b o hb e => hx b o hb e) htb hge ⟨oc, vs, t, hoc, hd, hv⟩
    have nPc : P ≠ c' := ne_of_none hP freeC
    have freeF := J.hok.fresh (Nat.le_refl h'.objs.size)
    have J2 := J.laid (t' := tk) (a := h'.objs.size) (h' := h'.push (PySem.W.kla_obj "<lambda>" (X.env.qual ++ "<lambda>") params body scope [] ((X.mg "__name__").getD .none) c' ctv)) (fun b u e => Heap.get?_push_of_some _ e) (Nat.le_refl _) (lamO_ok (f := h'.objs.size) (q := X.env.qual ++ "<lambda>") (Heap.get?_push_size _ rfl))
    have kept : ButP P H (upd (upd (upd H P (.tbl (ps ++ #[rawInt pos.line, rawInt pos.col, .ref c']))) c' (CodeO c' (X.env.qual ++ "<lambda>"))) h'.objs.size (LamO h'.objs.size (X.env.qual ++ "<lambda>") params body scope c')) := fun b o nb e => by
      have e1 : upd (upd H P (.tbl (ps ++ #[rawInt pos.line, rawInt pos.col, .ref c']))) c' (CodeO c' (X.env.qual ++ "<lambda>")) b = some o := by rw [upd_ne (ne_of_none e freeC), upd_ne nb]; exact e
      rw [upd_ne (ne_of_none e1 freeF)]
      exact e1
    have hPF : P ≠ h'.objs.size := ne_of_none (show upd (upd H P (.tbl (ps ++ #[rawInt pos.line, rawInt pos.col, .ref c']))) c' (CodeO c' (X.env.qual ++ "<lambda>")) P = some (.tbl (ps ++ #[rawInt pos.line, rawInt pos.col, .ref c'])) by rw [upd_ne nPc]; exact upd_same) freeF
    have hcF : c' ≠ h'.objs.size := Nat.ne_of_lt hlt
    refine ⟨.ref h'.objs.size, _, J2, rfl, k _ c' _ kept ⟨ps ++ #[rawInt pos.line, rawInt pos.col, .ref c'], by rw [upd_ne hPF, upd_ne nPc]; exact upd_same, ?_, fun p' cv hcv => ?_⟩ (I.hok.fresh (Nat.le_trans hge (Nat.le_of_lt hlt))) upd_same (by rw [upd_ne hcF]; exact upd_same)⟩
    · rw [show (ps ++ #[rawInt pos.line, rawInt pos.col, Value.ref c']).toList = ps.toList ++ [rawInt pos.line, rawInt pos.col, .ref c'] by simp]
      exact PySem.TriplesOk_snoc _ _ _ _ ht
    · rw [show (ps ++ #[rawInt pos.line, rawInt pos.col, Value.ref c']).toList = ps.toList ++ [rawInt pos.line, rawInt pos.col, .ref c'] by simp] at hcv
      rcases among_app _ ht hcv with z | z
      · obtain ⟨c0, z1, z2⟩ := ha p' cv z
        have nc0 : c0 ≠ P := fun y => by
          rw [y, hP] at z2
          exact codeO_ne ps (Option.some.inj z2).symm
        exact ⟨c0, z1, kept _ _ nc0 z2⟩
      · exact ⟨c', z, by rw [upd_ne hcF]; exact upd_same⟩
  | some cv =>
    obtain ⟨c', e, hco⟩ := ha pos cv hc
    subst e
    refine PySem.W.kla_makeFunctionHit (mg := X.mg) (c := c) (P := P) (ps := ps) hcl I.ok.glob (I.mod.glob.keeps I.bk) hcode (TB.code.keeps I.bk) tabAt ht hc (TB.bm.keeps I.bk) fun ctv h' tk hx hsz => ?_
    have J : Inv X pins σ H { s with heap := h', toks := tk } := I.kept hx
    have freeF := J.hok.fresh (Nat.le_refl h'.objs.size)
    have J2 := J.laid (t' := tk) (a := h'.objs.size) (h' := h'.push (PySem.W.kla_obj "<lambda>" (X.env.qual ++ "<lambda>") params body scope [] ((X.mg "__name__").getD .none) c' ctv)) (fun b u e => Heap.get?_push_of_some _ e) (Nat.le_refl _) (lamO_ok (f := h'.objs.size) (q := X.env.qual ++ "<lambda>") (Heap.get?_push_size _ rfl))
    have kept : ∀ b o, H b = some o → (upd H h'.objs.size (LamO h'.objs.size (X.env.qual ++ "<lambda>") params body scope c')) b = some o := fun b o e => by
      rw [upd_ne (ne_of_none e freeF)]
      exact e
    exact ⟨.ref h'.objs.size, _, J2, rfl, k _ c' _ (fun b o _ e => kept b o e) ⟨ps, kept _ _ hP, ht, fun p' cv hcv => let ⟨c0, z1, z2⟩ := ha p' cv hcv; ⟨c0, z1, kept _ _ z2⟩⟩ freeF upd_same (kept _ _ hco)⟩
end
end Pg

set_option Elab.async false
set_option linter.all false
set_option maxRecDepth 100000
set_option maxHeartbeats 4000000
namespace Pg
open PySem PySem.Spec PyProof.Rows L2 LamX
/-! ### the promise of a lambda; a slot that holds a def of the program or a lambda -/
structure LamOk (P : Program) (w : World) (K : PySem.W.Frag) (mg : Str → Option Value) (base : Heap) (k : Nat) (q : Str) (params : Arguments) (body : Expr) (scope : Scope) (sp : Sp) : Prop where
  run : ∀ (f c' : Addr) (A : Around) (outer : List Env) (s : Shared) (H : Hp) (us : List Value) (vs : List V) (Q : VK), Room k A → Env0 P w K mg base A outer s H → H f = some (LamO f q params body scope c') → H c' = some (CodeO c' q) → Vals vs us → sp vs H Q E0 →
    codeAny (model P w) A (.call (.ref f) ⟨us, []⟩) (CR CX0 outer P w H s Q E0) s
theorem lam_ok {P : Program} {w : World} {K : PySem.W.Frag} {mg : Str → Option Value} {base : Heap} {k : Nat} {q : Str} {params : Arguments} {body : Expr} {scope : Scope} {N ps : List Str} {sp : Sp} (S : FnScope N ps scope)
    (hb : ∀ (pm cv ctv : Value) (us : List Value), us.length = ps.length → bindArgs (PySem.W.kla_fn "<lambda>" q params body scope [] pm cv ctv) ⟨us, []⟩ = pure (ps.zip us)) (len : ∀ vs H Q E, sp vs H Q E → vs.length = ps.length)
    (hbody : ∀ (f c' : Addr) (A : Around) (outer : List Env) (s : Shared) (H : Hp) (vs : List V) (Q : VK), Room k (A.deeper (envOfC q scope s.heap.objs.size f (.ref c'))) → sp vs H Q E0 →
      ∃ te, PE (cxOf CX0 P w K mg base N q scope f (.ref c') A outer s H E0).nox body te ∧ te (start N vs) H Q) : LamOk P w K mg base (k + 1) q params body scope sp := by
  refine ⟨fun f c' A outer s H us vs Q room env hf hc rv hsp => ?_⟩
  obtain ⟨⟨pm, ctv, hobj⟩, _, _⟩ := env.hok f _ hf
  obtain ⟨⟨oc, fs, t, hoc, hdc, hvc⟩, _, _⟩ := env.hok c' _ hc
  have lim : s.heap.NoLimit := env.mod.nolimit.keeps fun b o e => (env.bs b o e).1
  have hl := len _ _ _ _ hsp
  refine PySem.W.kla_callFunE room.depth hobj rfl S.co S.gen rfl ⟨c', oc, fs, t, rfl, hoc, hdc, hvc⟩ ?_
  rw [hb _ _ _ us (by rw [← rv.length]; exact hl)]
  have kinds : ∀ y ∈ ps.zip us, scope.names.lookup y.1 = some .local ∨ (scope.names.lookup y.1 = some .cell ∧ ((cellsFrom (s.heap.objs.size + 1) scope.names []).lookup y.1).isSome = true) := fun ⟨n, v⟩ hy =>
    (S.par n (List.of_mem_zip hy).1).imp_right fun z => ⟨z, PySem.W.cellsFrom_some _ _ _ (.inl z)⟩
  refine wpAny_pure (wpAny_newFunctionEnv_cells S.kind kinds fun ev he s1 x => ?_)
  subst he
  refine ⟨lim.keeps x.toInCall.keep, ?_⟩
  obtain ⟨te, ht, hq⟩ := hbody f c' A outer s H vs Q (room.deeper _) hsp
  have I := inv_start (CX := CX0) (E := E0) S room.hd env hl rv x
  refine PySem.W.kla_codeExpr (wpAny_mono (ht.nox.run [] s1 (start N vs) H Q I hq) (fun u s' hs => ?_) fun e s' hs => hs)
  obtain ⟨v, H', J, rv, q⟩ := hs
  exact ⟨v, H', J.os, J.bare, J.base, J.hok, rv, q⟩
/-- v may be called with this promise -/
def Calb (P : Program) (w : World) (K : PySem.W.Frag) (mg : Str → Option Value) (base : Heap) (k : Nat) (sp : Sp) (H : Hp) (v : V) : Prop :=
  (∃ (f : Addr) (fd : FuncData) (ps : List Str), v = .ref f ∧ FnOk P w K mg base CX0 k f fd ps sp ∧ PySem.W.keepIn K (.ref f) = true ∧ Binds K fd ps []) ∨
  ∃ (f c' : Addr) (q : Str) (params : Arguments) (body : Expr) (scope : Scope), v = .ref f ∧ LamOk P w K mg base k q params body scope sp ∧ H f = some (LamO f q params body scope c') ∧ H c' = some (CodeO c' q)
theorem lamO_tbl {f c' : Addr} {q : Str} {params : Arguments} {body : Expr} {scope : Scope} (ps : Array Value) : LamO f q params body scope c' ≠ .tbl ps := fun z => by
  unfold LamO at z
  cases z
theorem Calb.keep {P : Program} {w : World} {K : PySem.W.Frag} {mg : Str → Option Value} {base : Heap} {k : Nat} {sp : Sp} {H H' : Hp} {v : V} (s : Same H H') (c : Calb P w K mg base k sp H v) : Calb P w K mg base k sp H' v := by
  rcases c with c | ⟨f, c', q, pa, bo, sc, e, l, h1, h2⟩
  · exact .inl c
  · exact .inr ⟨f, c', q, pa, bo, sc, e, l, s _ _ h1, s _ _ h2⟩
section
variable {X : Cx} {k j i : Nat} {x : Str} {sp : Sp} {p pos : Pos} {e : Expr} {es : List Expr} {t : TA}
/-- what is known by a property of the real heap is known still -/
def ExtK (H H' : Hp) : Prop := ∀ b φ, H b = some (HO.ext φ) → H' b = some (HO.ext φ)
def tCallV (P : Program) (w : World) (K : PySem.W.Frag) (mg : Str → Option Value) (base : Heap) (k i : Nat) (sp : Sp) (t : TA) : TE := fun σ H Q => ∃ v, σ[i]? = some (some v) ∧ Calb P w K mg base k sp H v ∧ t σ H fun vs H1 => ExtK H H1 ∧ sp vs H1 Q E0
theorem pe_callV (hr : Room j X.A) (hk : k ≤ j) (hN : X.N[i]? = some x) (hv : Vis X.env.scope x) (ha : PA X (e :: es) t)
    (hdb : (x == ("__debug__" : Str)) = false := by decide) (hcd : (x == ("__classdict__" : Str)) = false := by decide)
    (he : starEach (e :: es) X.env = (false, eval e X.env) :: starEach es X.env := by rfl) (hpl : (backTo pos (starEach es X.env)).any (·.1) = false := by rfl) :
    PE X (.Call (.Name x p) (e :: es) [] pos) (tCallV X.prog X.w X.K X.mg X.base k i sp t) := by
  refine ⟨fun pins s σ H Q I h => ?_⟩
  obtain ⟨v, hs, hc, ht⟩ := h
  refine wpAny_Call_Name_kw (thn ((pe_var (pos := p) hN hv hdb hcd).run pins s σ H (fun y Hy => y = v ∧ Hy = H) I ⟨v, hs, rfl, rfl⟩) fun u s1 ⟨y, Hy, I1, ry, ey, eH⟩ => ?_)
  rw [ey] at ry
  rw [eH] at I1
  rcases hc with ⟨f, fd, ps, rfl, F, hkp, hbd⟩ | ⟨f, c', q, pa, bo, sc, rfl, L, hf, hcode⟩
  · obtain rfl : u = Value.ref f := ry
    refine PySem.W.callWith_K (h₀ := X.base) I.ok.mod.kin hkp (thn (ha.run pos pins s1 σ H _ I1 ht) fun us s2 ⟨vs, H2, I2, r, z⟩ => ⟨I2.kIn, ?_⟩) he hpl
    exact run_fn F (hr.mono hk) hbd .nil pass0 I2 r (by rw [List.append_nil]; exact z.2)
  · obtain rfl : u = Value.ref f := ry
    have here : ∀ {s' : Shared} {H' : Hp}, Inv X pins σ H' s' → H' f = some (LamO f q pa bo sc c') → PySem.W.FnAt f s'.heap := fun J hf' => by
      obtain ⟨⟨pm, ctv, ho⟩, _, _⟩ := J.hok f _ hf'
      exact ⟨_, _, _, _, ho⟩
    refine PySem.W.callWith_F (first := []) (here I1 hf) (thn (ha.run pos pins s1 σ H _ I1 ht) fun us s2 ⟨vs, H2, I2, r, z1, z2⟩ => ⟨here I2 (z1 f _ hf), ?_⟩) he hpl
    show wpAny _ _ (call (.ref f) us) _ _ _
    refine wpAny_call (codeAny_mono (L.run f c' X.A X.stack s2 H2 us vs Q (hr.mono hk) I2.env0 (z1 f _ hf) (z1 c' _ hcode) r z2) fun r s' hq => ?_)
    cases r with
    | error e => exact (show False from hq).elim
    | ok fl =>
      cases fl with
      | ret u => exact I2.after hq
      | next => exact False.elim hq
      | brk => exact False.elim hq
      | cont => exact False.elim hq
end
end Pg

set_option Elab.async false
set_option linter.all false
set_option maxRecDepth 100000
set_option maxHeartbeats 4000000
namespace Pg
open PySem PySem.Spec PyProof.Rows L2
/-! ### terms as nests -/
theorem dp_tr {K : PySem.W.Frag} {H : Hp} : ∀ {t : Tr} {v : V}, Dp K H v (trD t) → TrAt K H t v
  | .nm x, v, h => by
    cases (show Dp K H v (.str x) from h)
    rfl
  | .c0 s, v, h => by
    cases (show Dp K H v (.tuple [.str s]) from h) with
    | tup hq ha =>
      cases ha with
      | cons a b => cases a; cases b; exact ⟨_, rfl, hq⟩
  | .c1 s t, v, h => by
    cases (show Dp K H v (.tuple [.str s, trD t]) from h) with
    | tup hq ha =>
      cases ha with
      | cons a b => cases a; cases b with
        | cons c d => cases d; exact ⟨_, _, rfl, hq, dp_tr c⟩
  | .c2 s t u, v, h => by
    cases (show Dp K H v (.tuple [.str s, trD t, trD u]) from h) with
    | tup hq ha =>
      cases ha with
      | cons a b => cases a; cases b with
        | cons c d => cases d with
          | cons e f => cases f; exact ⟨_, _, _, rfl, hq, dp_tr c, dp_tr e⟩
theorem nest_tr : ∀ t : Tr, nest (trD t) = true
  | .nm _ => rfl
  | .c0 _ => rfl
  | .c1 _ t => by simp only [trD, nest, nestAll, nest_tr t, Bool.and_self]
  | .c2 _ t u => by simp only [trD, nest, nestAll, nest_tr t, nest_tr u, Bool.and_self]
theorem preD_tr : ∀ t : Tr, preD (trD t) = (pre t).map trD
  | .nm _ => rfl
  | .c0 _ => rfl
  | .c1 s t => by
    show preD (.tuple [.str s, trD t]) = _
    rw [preD_tup]
    show _ :: [trD t].flatMap preD = trD (.c1 s t) :: (pre t).map trD
    rw [List.flatMap_cons, List.flatMap_nil, List.append_nil, preD_tr t]
    rfl
  | .c2 s t u => by
    show preD (.tuple [.str s, trD t, trD u]) = _
    rw [preD_tup]
    show _ :: [trD t, trD u].flatMap preD = trD (.c2 s t u) :: (pre t ++ pre u).map trD
    rw [List.flatMap_cons, List.flatMap_cons, List.flatMap_nil, List.append_nil, preD_tr t, preD_tr u, List.map_append]
    rfl
theorem ns_kids {K : PySem.W.Frag} {H : Hp} : ∀ {ws : List V} {ts : List Tr}, NsAt K H ws (ts.map trD) → KidsAt K H ws ts
  | _, [], h => by cases h; exact .nil
  | _, t :: ts, h => by
    cases h with
    | cons a b => exact .cons (dp_tr a.1) (ns_kids b)
/-- what a term's tuple is -/
theorem TrAt.split {K : PySem.W.Frag} {H : Hp} {t : Tr} {v : V} (h : TrAt K H t v) : (∃ x, t = .nm x ∧ v = .str x) ∨ ((∀ x, t ≠ .nm x) ∧ ∃ p us, v = .ref p ∧ SqT K H p (.str t.sym :: us) ∧ KidsAt K H us t.kids) := by
  cases t with
  | nm x => exact .inl ⟨x, rfl, h⟩
  | c0 s => obtain ⟨p, e, q⟩ := h; exact .inr ⟨(fun x z => by cases z), p, [], e, q, .nil⟩
  | c1 s t => obtain ⟨p, u, e, q, r⟩ := h; exact .inr ⟨(fun x z => by cases z), p, [u], e, q, .cons r .nil⟩
  | c2 s t t' => obtain ⟨p, u, u', e, q, r, r'⟩ := h; exact .inr ⟨(fun x z => by cases z), p, [u, u'], e, q, .cons r (.cons r' .nil)⟩
/-! ### fold: R tells of each term the value that is made of it -/
/-- of_name's promise -/
def spOn (Ok : Tr → Prop) (R : Hp → Tr → V → Prop) : Sp := fun vs H Q _ => ∃ x : Str, vs = [.str x] ∧ Ok (.nm x) ∧ ∀ r H', Same H H' → R H' (.nm x) r → Q r H'
/-- of_sign's promise: what was made of the parts stands in a list -/
def spOs (Ok : Tr → Prop) (R : Hp → Tr → V → Prop) : Sp := fun vs H Q _ => ∃ (t : Tr) (p : Addr) (rs : List V), vs = [.str t.sym, .ref p] ∧ (∀ x, t ≠ .nm x) ∧ Ok t ∧ H p = some (.lst rs) ∧ Paired (fun r k => R H k r) rs t.kids ∧ ∀ r H', Same H H' → R H' t r → Q r H'
def spFold (P : Program) (w : World) (K : PySem.W.Frag) (mg : Str → Option Value) (base : Heap) (k : Nat) (Ok : Tr → Prop) (R : Hp → Tr → V → Prop) : Sp := fun vs H Q _ => ∃ (v fn fs : V) (t : Tr), vs = [v, fn, fs] ∧ TrAt K H t v ∧ t.size ≤ 100000 ∧ (∀ k ∈ pre t, Ok k) ∧ Calb P w K mg base k (spOn Ok R) H fn ∧ Calb P w K mg base k (spOs Ok R) H fs ∧
  ∀ r H', Same H H' → R H' t r → Q r H'
end Pg

set_option Elab.async false
set_option linter.all false
set_option maxRecDepth 100000
set_option maxHeartbeats 4000000
namespace Pg
open PySem PySem.Spec PyProof.Rows L2 LamX NdefX
/-! ### lambdas with captured names; promises told of the very state -/
def LamOC (f : Addr) (F : NF) (body : Expr) : HO := .ext fun h => ∃ pm ctv : Value, h.get? f = some (PySem.W.kla_obj "<lambda>" F.qual F.params body F.scope F.cl pm F.c ctv)
theorem lamOC_ok {Pr : Program} {w : World} {H : Hp} {h : Heap} {f : Addr} {F : NF} {body : Expr} {pm ctv : Value} (e : h.get? f = some (PySem.W.kla_obj "<lambda>" F.qual F.params body F.scope F.cl pm F.c ctv)) : ObjOk Pr w H h f (LamOC f F body) :=
  ⟨⟨pm, ctv, e⟩, ⟨_, e⟩, fun h1 h2 ⟨p, t, z⟩ st => ⟨p, t, st _ z⟩⟩
def lamF (X : Cx) (params : Arguments) (scope : Scope) (c' : Addr) : NF := ⟨"<lambda>", X.env.qual ++ "<lambda>", params, [], scope, cloFrom X.env.cells scope.names [], c'⟩
def tLamC (X : Cx) (P : Addr) (params : Arguments) (body : Expr) (scope : Scope) : TE := fun _ H Q => TabS H P (X.env.qual ++ "<lambda>") ∧ ∀ (f c' : Addr) (H1 : Hp), ButP P H H1 → TabS H1 P (X.env.qual ++ "<lambda>") → H f = none → H1 f = some (LamOC f (lamF X params scope c') body) → H1 c' = some (CodeO c' (X.env.qual ++ "<lambda>")) → Q (.ref f) H1
section
variable {X : Cx}
theorem pe_lamC {c P : Addr} {params : Arguments} {body : Expr} {scope : Scope} {pos : Pos} (TB : TabB X.base X.mg c P) (hcode : X.env.code = .ref c) (hdef : defaultsOf params X.env = ([], [])) (hk : ∀ y ∈ scope.names, y.2 = .free → X.env.scope.names.lookup y.1 = some .cell ∨ X.env.scope.names.lookup y.1 = some .free) :
    PE X (.Lambda params body scope pos) (tLamC X P params body scope) := by
  refine ⟨fun pins s σ H Q I h => ?_⟩
  have hfree : ∀ y ∈ scope.names, y.2 = .free → ∃ c, X.env.cells.lookup y.1 = some c := fun y hy e => (hk y hy e).elim (fun z => I.ok.has _ (.inl z)) fun z => I.ok.has _ (.inr z)
  obtain ⟨⟨ps, hP, ht, ha⟩, k⟩ := h
  refine PySem.W.kla_eval hdef ?_
  have tabAt : s.heap.get? P = some { cls := .none, data := .fields ps } := I.hok P _ hP
  cases hc : codeAmong pos ps.toList with
  | none =>
    refine PySem.W.kla_makeFunction (mg := X.mg) (c := c) (P := P) (ps := ps) (closure_ok hfree) I.ok.glob (I.mod.glob.keeps I.bk) hcode (TB.code.keeps I.bk) tabAt ht hc TB.gP (TB.bm.keeps I.bk) fun c' ctv h' tk hx hge hlt hrec htb => ?_
    obtain ⟨c2, oc, vs, t, e2, hoc, hd, hv⟩ := hrec
    cases e2
    have freeC : H c' = none := I.hok.fresh hge
    have J := inv_table (t' := tk) (more := #[rawInt pos.line, rawInt pos.col, .ref c']) (h' := h') (q := X.env.qual ++ "<lambda>") I hP (fun b o hb e => hx b o hb e) htb hge ⟨oc, vs, t, hoc, hd, hv⟩
    have nPc : P ≠ c' := ne_of_none hP freeC
    have freeF := J.hok.fresh (Nat.le_refl h'.objs.size)
    have J2 := J.laid (t' := tk) (a := h'.objs.size) (h' := h'.push (PySem.W.kla_obj "<lambda>" (X.env.qual ++ "<lambda>") params body scope (cloFrom X.env.cells scope.names []) ((X.mg "__name__").getD .none) c' ctv)) (fun b u e => Heap.get?_push_of_some _ e) (Nat.le_refl _) (lamOC_ok (f := h'.objs.size) (F := lamF X params scope c') (Heap.get?_push_size _ rfl))
    have kept : ButP P H (upd (upd (upd H P (.tbl (ps ++ #[rawInt pos.line, rawInt pos.col, .ref c']))) c' (CodeO c' (X.env.qual ++ "<lambda>"))) h'.objs.size (LamOC h'.objs.size (lamF X params scope c') body)) := fun b o nb e => by
      have e1 : upd (upd H P (.tbl (ps ++ #[rawInt pos.line, rawInt pos.col, .ref c']))) c' (CodeO c' (X.env.qual ++ "<lambda>")) b = some o := by rw [upd_ne (ne_of_none e freeC), upd_ne nb]; exact e
      rw [upd_ne (ne_of_none e1 freeF)]
      exact e1
    have hPF : P ≠ h'.objs.size := ne_of_none (show upd (upd H P (.tbl (ps ++ #[rawInt pos.line, rawInt pos.col, .ref c']))) c' (CodeO c' (X.env.qual ++ "<lambda>")) P = some (.tbl (ps ++ #[rawInt pos.line, rawInt pos.col, .ref c'])) by rw [upd_ne nPc]; exact upd_same) freeF
    have hcF : c' ≠ h'.objs.size := Nat.ne_of_lt hlt
    refine ⟨.ref h'.objs.size, _, J2, rfl, k _ c' _ kept ⟨ps ++ #[rawInt pos.line, rawInt pos.col, .ref c'], by rw [upd_ne hPF, upd_ne nPc]; exact upd_same, ?_, fun p' cv hcv => ?_⟩ (I.hok.fresh (Nat.le_trans hge (Nat.le_of_lt hlt))) upd_same (by rw [upd_ne hcF]; exact upd_same)⟩
    · rw [show (ps ++ #[rawInt pos.line, rawInt pos.col, Value.ref c']).toList = ps.toList ++ [rawInt pos.line, rawInt pos.col, .ref c'] by simp]
      exact PySem.TriplesOk_snoc _ _ _ _ ht
    · rw [show (ps ++ #[rawInt pos.line, rawInt pos.col, Value.ref c']).toList = ps.toList ++ [rawInt pos.line, rawInt pos.col, .ref c'] by simp] at hcv
      rcases among_app _ ht hcv with z | z
      · obtain ⟨c0, z1, z2⟩ := ha p' cv z
        have nc0 : c0 ≠ P := fun y => by
          rw [y, hP] at z2
          exact codeO_ne ps (Option.some.inj z2).symm
        exact ⟨c0, z1, kept _ _ nc0 z2⟩
      · exact ⟨c', z, by rw [upd_ne hcF]; exact upd_same⟩
  | some cv =>
    obtain ⟨c', e, hco⟩ := ha pos cv hc
    subst e
    refine PySem.W.kla_makeFunctionHit (mg := X.mg) (c := c) (P := P) (ps := ps) (closure_ok hfree) I.ok.glob (I.mod.glob.keeps I.bk) hcode (TB.code.keeps I.bk) tabAt ht hc (TB.bm.keeps I.bk) fun ctv h' tk hx hsz => ?_
    have J : Inv X pins σ H { s with heap := h', toks := tk } := I.kept hx
    have freeF := J.hok.fresh (Nat.le_refl h'.objs.size)
    have J2 := J.laid (t' := tk) (a := h'.objs.size) (h' := h'.push (PySem.W.kla_obj "<lambda>" (X.env.qual ++ "<lambda>") params body scope (cloFrom X.env.cells scope.names []) ((X.mg "__name__").getD .none) c' ctv)) (fun b u e => Heap.get?_push_of_some _ e) (Nat.le_refl _) (lamOC_ok (f := h'.objs.size) (F := lamF X params scope c') (Heap.get?_push_size _ rfl))
    have kept : ∀ b o, H b = some o → (upd H h'.objs.size (LamOC h'.objs.size (lamF X params scope c') body)) b = some o := fun b o e => by
      rw [upd_ne (ne_of_none e freeF)]
      exact e
    exact ⟨.ref h'.objs.size, _, J2, rfl, k _ c' _ (fun b o _ e => kept b o e) ⟨ps, kept _ _ hP, ht, fun p' cv hcv => let ⟨c0, z1, z2⟩ := ha p' cv hcv; ⟨c0, z1, kept _ _ z2⟩⟩ freeF upd_same (kept _ _ hco)⟩
end
/-- the promise of a lambda with captured names -/
structure LamNOk (P : Program) (w : World) (K : PySem.W.Frag) (mg : Str → Option Value) (base : Heap) (k : Nat) (F : NF) (body : Expr) (fr : List Str) (sp : List (Option V) → Sp) : Prop where
  run : ∀ (f : Addr) (A : Around) (outer : List Env) (s : Shared) (H : Hp) (us : List Value) (vs : List V) (ws : List (Option V)) (Q : VK), Room k A → Env0 P w K mg base A outer s H → H f = some (LamOC f F body) → H F.c = some (CodeO F.c F.qual) → CellsAt F.cl fr ws s.heap H → Vals vs us → sp ws vs H Q E0 →
    codeAny (model P w) A (.call (.ref f) ⟨us, []⟩) (CR CX0 outer P w H s Q E0) s
theorem lamn_ok {P : Program} {w : World} {K : PySem.W.Frag} {mg : Str → Option Value} {base : Heap} {k : Nat} {F : NF} {body : Expr} {N ps fr : List Str} {sp : List (Option V) → Sp} (S : NScope N ps fr F.scope)
    (hb : ∀ (pm ctv : Value) (us : List Value), us.length = ps.length → bindArgs (PySem.W.kla_fn "<lambda>" F.qual F.params body F.scope F.cl pm (.ref F.c) ctv) ⟨us, []⟩ = pure (ps.zip us)) (len : ∀ ws vs H Q E, sp ws vs H Q E → vs.length = ps.length)
    (hbody : ∀ (f : Addr) (A : Around) (outer : List Env) (s : Shared) (H : Hp) (vs : List V) (ws : List (Option V)) (Q : VK), Room k (A.deeper (envF F f s.heap.objs.size)) → ws.length = fr.length → sp ws vs H Q E0 →
      ∃ te, PE (ncx CX0 P w K mg base N F f A outer s H E0).nox body te ∧ te (startF N vs ws) H Q) : LamNOk P w K mg base (k + 1) F body fr sp := by
  refine ⟨fun f A outer s H us vs ws Q room env hf hc C rv hsp => ?_⟩
  obtain ⟨⟨pm, ctv, hobj⟩, _, _⟩ := env.hok f _ hf
  obtain ⟨⟨oc, fs, t, hoc, hdc, hvc⟩, _, _⟩ := env.hok F.c _ hc
  have lim : s.heap.NoLimit := env.mod.nolimit.keeps fun b o e => (env.bs b o e).1
  have hl := len _ _ _ _ _ hsp
  refine PySem.W.kla_callFunE room.depth hobj rfl S.co S.gen rfl ⟨F.c, oc, fs, t, rfl, hoc, hdc, hvc⟩ ?_
  rw [hb _ _ us (by rw [← rv.length]; exact hl)]
  refine wpAny_pure (wpAny_newFunctionEnv S.nocell (fun ⟨n, _⟩ hy => S.par n (List.of_mem_zip hy).1) (fun h₁ hns hsb => ⟨lim.fresh _ hsb, ?_⟩) S.kind)
  show codeAny _ _ (.expr body (envF F f s.heap.objs.size)) _ _
  have kp : ∀ b o, s.heap.get? b = some o → h₁.get? b = some o := fun b o e => hsb.extBut b o (Nat.ne_of_lt (Heap.lt_size e)) (Heap.get?_push_of_some _ e)
  obtain ⟨te, ht, hq⟩ := hbody f A outer s H vs ws Q (room.deeper _) C.len hsp
  have I : Inv (ncx CX0 P w K mg base N F f A outer s H E0) [] (startF N vs ws) H { s with heap := h₁, toks := s.toks + (ps.zip us).length } := inv_startN S room.hd env hl rv C hns kp
  refine PySem.W.kla_codeExpr (wpAny_mono (ht.nox.run [] _ (startF N vs ws) H Q I hq) (fun u s' hs => ?_) fun e s' hs => hs)
  obtain ⟨v, H', J, rv, q⟩ := hs
  exact ⟨v, H', J.os, J.bare, J.base, J.hok, rv, q⟩
theorem cells_un {cl : List (Str × Addr)} {fr : List Str} {ws : List (Option V)} {fs : List Addr} {h h1 : Heap} {H H1 : Hp} (c : CellsAt cl fr ws h H) (u : Un fs [] H H1 h h1) : CellsAt cl fr ws h1 H1 := by
  have mv : ∀ {c : Addr} {v : Option Value}, H c = none → h.IsCell c v → h1.IsCell c v := fun {c v} n ⟨o, ho, hd⟩ => by
    obtain ⟨sl, q⟩ := u.any ho n (by simp)
    exact ⟨_, q, hd⟩
  refine ⟨c.len, fun y a e => ?_, c.inj, fun i y e => ?_⟩
  · obtain ⟨n, v, o, ho, hd⟩ := c.all y a e
    exact ⟨u.free a o ho n (by simp), v, mv n ⟨o, ho, hd⟩⟩
  · obtain ⟨a, e1, z⟩ := c.has i y e
    refine ⟨a, e1, fun v hv => ?_⟩
    obtain ⟨x, r, q⟩ := z v hv
    exact ⟨x, r, mv (c.all y a e1).1 q⟩
/-- v may be called with this promise, by any state behind s -/
def CalS (P : Program) (w : World) (K : PySem.W.Frag) (mg : Str → Option Value) (base : Heap) (k : Nat) (sp : Sp) (s : Shared) (H : Hp) (v : V) : Prop :=
  Calb P w K mg base k sp H v ∨
  ∃ (f : Addr) (F : NF) (body : Expr) (fr : List Str) (ws : List (Option V)) (sp' : List (Option V) → Sp), v = .ref f ∧ LamNOk P w K mg base k F body fr sp' ∧ H f = some (LamOC f F body) ∧ H F.c = some (CodeO F.c F.qual) ∧ CellsAt F.cl fr ws s.heap H ∧ ∀ vs H1 Q E, Same H H1 → sp vs H1 Q E → sp' ws vs H1 Q E
theorem Calb.ext {P : Program} {w : World} {K : PySem.W.Frag} {mg : Str → Option Value} {base : Heap} {k : Nat} {sp : Sp} {H H' : Hp} {v : V} (s : ExtK H H') (c : Calb P w K mg base k sp H v) : Calb P w K mg base k sp H' v := by
  rcases c with c | ⟨f, c', q, pa, bo, sc, e, l, h1, h2⟩
  · exact .inl c
  · exact .inr ⟨f, c', q, pa, bo, sc, e, l, s _ _ h1, s _ _ h2⟩
theorem ExtK.of {H H' : Hp} (s : Same H H') : ExtK H H' := fun b φ h => s b _ h
section
variable {X : Cx} {k j i : Nat} {x : Str} {sp : Sp} {p pos : Pos} {e : Expr} {es : List Expr} {t : TA}
def tCallVS (X : Cx) (k i : Nat) (sp : Sp) (t : TA) : TE := fun σ H Q => ∃ v, σ[i]? = some (some v) ∧ CalS X.prog X.w X.K X.mg X.base k sp X.s_0 X.H_0 v ∧ Same X.H_0 H ∧ t σ H fun vs H1 => Same X.H_0 H1 ∧ sp vs H1 Q E0
theorem pe_callVS (hr : Room j X.A) (hk : k ≤ j) (hex : X.ex = []) (hN : X.N[i]? = some x) (hv : Vis X.env.scope x) (ha : PA X (e :: es) t)
    (hdb : (x == ("__debug__" : Str)) = false := by decide) (hcd : (x == ("__classdict__" : Str)) = false := by decide)
    (he : starEach (e :: es) X.env = (false, eval e X.env) :: starEach es X.env := by rfl) (hpl : (backTo pos (starEach es X.env)).any (·.1) = false := by rfl) :
    PE X (.Call (.Name x p) (e :: es) [] pos) (tCallVS X k i sp t) := by
  refine ⟨fun pins s σ H Q I h => ?_⟩
  obtain ⟨v, hs, hc, hx0, ht⟩ := h
  refine wpAny_Call_Name_kw (thn ((pe_var (pos := p) hN hv hdb hcd).run pins s σ H (fun y Hy => y = v ∧ Hy = H) I ⟨v, hs, rfl, rfl⟩) fun u s1 ⟨y, Hy, I1, ry, ey, eH⟩ => ?_)
  rw [ey] at ry
  rw [eH] at I1
  have un : ∀ {s' : Shared} {H' : Hp}, Inv X pins σ H' s' → Un X.fs [] X.H_0 H' X.s_0.heap s'.heap := fun J => by
    have b := J.base
    rw [hex] at b
    exact b
  rcases hc with (⟨f, fd, ps, rfl, F, hkp, hbd⟩ | ⟨f, c', q, pa, bo, sc, rfl, L, hf, hcode⟩) | ⟨f, F, bo, fr, ws, sp', rfl, L, hf, hcode, hcl, himp⟩
  · obtain rfl : u = Value.ref f := ry
    refine PySem.W.callWith_K (h₀ := X.base) I.ok.mod.kin hkp (thn (ha.run pos pins s1 σ H _ I1 ht) fun us s2 ⟨vs, H2, I2, r, z⟩ => ⟨I2.kIn, ?_⟩) he hpl
    exact run_fn F (hr.mono hk) hbd .nil pass0 I2 r (by rw [List.append_nil]; exact z.2)
  · obtain rfl : u = Value.ref f := ry
    have here : ∀ {s' : Shared} {H' : Hp}, Inv X pins σ H' s' → H' f = some (LamO f q pa bo sc c') → PySem.W.FnAt f s'.heap := fun J hf' => by
      obtain ⟨⟨pm, ctv, ho⟩, _, _⟩ := J.hok f _ hf'
      exact ⟨_, _, _, _, ho⟩
    refine PySem.W.callWith_F (first := []) (here I1 (hx0 f _ hf)) (thn (ha.run pos pins s1 σ H _ I1 ht) fun us s2 ⟨vs, H2, I2, r, z1, z2⟩ => ⟨here I2 (z1 f _ hf), ?_⟩) he hpl
    show wpAny _ _ (call (.ref f) us) _ _ _
    refine wpAny_call (codeAny_mono (L.run f c' X.A X.stack s2 H2 us vs Q (hr.mono hk) I2.env0 (z1 f _ hf) (z1 c' _ hcode) r z2) fun r s' hq => ?_)
    cases r with
    | error e => exact (show False from hq).elim
    | ok fl =>
      cases fl with
      | ret u => exact I2.after hq
      | next => exact False.elim hq
      | brk => exact False.elim hq
      | cont => exact False.elim hq
  · obtain rfl : u = Value.ref f := ry
    have here : ∀ {s' : Shared} {H' : Hp}, Inv X pins σ H' s' → H' f = some (LamOC f F bo) → PySem.W.FnAt f s'.heap := fun J hf' => by
      obtain ⟨⟨pm, ctv, ho⟩, _, _⟩ := J.hok f _ hf'
      exact ⟨_, _, _, _, ho⟩
    refine PySem.W.callWith_F (first := []) (here I1 (hx0 f _ hf)) (thn (ha.run pos pins s1 σ H _ I1 ht) fun us s2 ⟨vs, H2, I2, r, z1, z2⟩ => ⟨here I2 (z1 f _ hf), ?_⟩) he hpl
    show wpAny _ _ (call (.ref f) us) _ _ _
    refine wpAny_call (codeAny_mono (L.run f X.A X.stack s2 H2 us vs ws Q (hr.mono hk) I2.env0 (z1 f _ hf) (z1 F.c _ hcode) (cells_un hcl (un I2)) r (himp _ _ _ _ z1 z2)) fun r s' hq => ?_)
    cases r with
    | error e => exact (show False from hq).elim
    | ok fl =>
      cases fl with
      | ret u => exact I2.after hq
      | next => exact False.elim hq
      | brk => exact False.elim hq
      | cont => exact False.elim hq
end
/-- a def that may be called by its name; its promise hangs on the very state -/
structure CalSt (P : Program) (w : World) (K : PySem.W.Frag) (mg : Str → Option Value) (base : Heap) (k : Nat) (x : Str) (sp : Shared → Sp) : Prop where
  ex : ∃ (f : Addr) (fd : FuncData) (ps : List Str), (∀ s vs H Q, sp s vs H Q E0 → vs.length = ps.length) ∧ (∀ (A : Around) (outer : List Env) (s : Shared) (H : Hp) (args : Args) (us : List Value) (vs : List V) (Q : VK), Room k A → Env0 P w K mg base A outer s H → BindsTo s fd args (ps.zip us) → Vals vs us → sp s vs H Q E0 →
    codeAny (model P w) A (.call (.ref f) args) (CR CX0 outer P w H s Q E0) s) ∧ mg x = some (.ref f) ∧ PySem.W.keepIn K (.ref f) = true ∧ Binds K fd ps []
theorem mk_calSt {P : Program} {w : World} {K : PySem.W.Frag} {mg : Str → Option Value} {base : Heap} {x : Str} {st : Stmt} {f : Addr} {fd : FuncData} {N ps : List Str} {k : Nat} {sp : Shared → Sp} (F : FnP K x st f fd) (hm : mg x = some (.ref f)) (S : FnScope N ps (defScope st))
    (hb : ∀ (kV doc pm : Value) (an : Option Addr) (cdv ct : Value) (us : List Value), us.length = ps.length → bindArgs (PySem.W.fnOf x x (defArgs st) (defBody st) (defScope st) .none kV doc pm an cdv ct) ⟨us, []⟩ = pure (ps.zip us))
    (len : ∀ s vs H Q, sp s vs H Q E0 → vs.length = ps.length)
    (body : ∀ (cdv : Value) (A : Around) (outer : List Env) (s : Shared) (H : Hp) (vs : List V) (Q : VK), Room k (A.deeper (envOfC x (defScope st) s.heap.objs.size f cdv)) → sp s vs H Q E0 →
      ∃ t, PSs (cxOf CX0 P w K mg base N x (defScope st) f cdv A outer s H E0).nox (defBody st) t ∧ t { nx := fun _ H' => Q .non H', rt := Q } (start N vs) H) : CalSt P w K mg base (k + 1) x sp := by
  have hbn := F.bindsN hb
  have kp := F.kp
  obtain ⟨oc, od, dV, kV, doc, pm, an, cdv, ct, osl, rfl, lk, hcd, _, _⟩ := F.ex
  refine ⟨f, _, ps, len, fun A outer s H args us vs Q hr e0 hbt r h => ?_, hm, kp, hbn⟩
  exact run_ofS lk hcd S hr e0 hbt r (len _ _ _ _ h) fun hr' => let ⟨t, a, b⟩ := body cdv A outer s H vs Q hr' h; ⟨t, a.nox, b⟩
section
variable {X : Cx} {k j : Nat} {x : Str} {sp : Shared → Sp} {p pos : Pos} {e : Expr} {es : List Expr} {t : TA}
def tCallSt (X : Cx) (sp : Shared → Sp) (t : TA) : TE := fun σ H Q => t σ H fun vs H1 => ∀ pins s, Inv X pins σ H1 s → sp s vs H1 Q E0
theorem pe_cSt (c : CalSt X.prog X.w X.K X.mg X.base k x sp) (hr : Room j X.A) (hk : k ≤ j) (hg : Gl X x) (ha : PA X (e :: es) t) (hdb : (x == ("__debug__" : Str)) = false := by decide)
    (he : starEach (e :: es) X.env = (false, eval e X.env) :: starEach es X.env := by rfl) (hpl : (backTo pos (starEach es X.env)).any (·.1) = false := by rfl) :
    PE X (.Call (.Name x p) (e :: es) [] pos) (tCallSt X sp t) := by
  obtain ⟨f, fd, ps, len, run, hm, hkp, hb⟩ := c.ex
  refine ⟨fun pins s σ H Q I h => ?_⟩
  refine wpAny_Call_Name_kw (ld_glob I hg hm ?_ hdb)
  refine PySem.W.callWith_K (h₀ := X.base) I.ok.mod.kin hkp (thn (ha.run pos pins s σ H _ I h) fun us s1 ⟨vs, H1, I1, r, q⟩ => ⟨I1.kIn, ?_⟩) he hpl
  have q := q pins s1 I1
  have hl : (us ++ []).length = ps.length := by rw [List.append_nil, ← r.length]; exact len _ _ _ _ q
  have hb' := hb s1 us I1.kIn hl
  rw [List.append_nil] at hb'
  show wpAny _ _ (call (Value.ref f) us) _ _ s1
  refine wpAny_call (codeAny_mono (run X.A X.stack s1 H1 ⟨us, []⟩ us vs Q (hr.mono hk) I1.env0 hb' r q) fun r s' hq => ?_)
  cases r with
  | error e => exact (show False from hq).elim
  | ok fl =>
    cases fl with
    | ret u => exact I1.after hq
    | next => exact False.elim hq
    | brk => exact False.elim hq
    | cont => exact False.elim hq
end
def lamFreeB (sc scope : Scope) : Bool := scope.names.all fun y => !decide (y.2 = .free) || (decide (sc.names.lookup y.1 = some .cell) || decide (sc.names.lookup y.1 = some .free))
theorem lamfree_by {sc scope : Scope} (h : lamFreeB sc scope = true) : ∀ y ∈ scope.names, y.2 = .free → sc.names.lookup y.1 = some .cell ∨ sc.names.lookup y.1 = some .free := fun y hy e => by
  unfold lamFreeB at h
  have z := List.all_eq_true.mp h y hy
  simp only [Bool.or_eq_true, Bool.not_eq_true', decide_eq_true_eq, decide_eq_false_iff_not] at z
  rcases z with z | z
  · exact absurd e z
  · exact z
/-- a lambda just made may be called -/
theorem calS_lam {X : Cx} {pins : List (Addr × Obj)} {σ : L2.St} {H : Hp} {s : Shared} {k : Nat} {f c' : Addr} {params : Arguments} {body : Expr} {scope : Scope} {fr : List Str} {js : List Nat} {sp : Sp} {sp' : List (Option V) → Sp} (I : Inv X pins σ H s)
    (hk : ∀ y ∈ scope.names, y.2 = .free → X.env.scope.names.lookup y.1 = some .cell ∨ X.env.scope.names.lookup y.1 = some .free) (hfr : ∀ y ∈ fr, (y, NameKind.free) ∈ scope.names) (hjs : js.map (fun j => X.N[j]?) = fr.map some)
    (L : LamNOk X.prog X.w X.K X.mg X.base k (lamF X params scope c') body fr sp') (hf : H f = some (LamOC f (lamF X params scope c') body)) (hc : H c' = some (CodeO c' (X.env.qual ++ "<lambda>"))) (imp : ∀ vs H1 Q E, Same H H1 → sp vs H1 Q E → sp' (js.map (slotAt σ)) vs H1 Q E) :
    CalS X.prog X.w X.K X.mg X.base k sp s H (.ref f) :=
  .inr ⟨f, _, body, fr, js.map (slotAt σ), sp', rfl, L, hf, hc, cells_of I (Caps.made I.ok hk hfr hjs), imp⟩
def spFoldS (P : Program) (w : World) (K : PySem.W.Frag) (mg : Str → Option Value) (base : Heap) (k : Nat) (Ok : Tr → Prop) (R : Hp → Tr → V → Prop) : Shared → Sp := fun s vs H Q _ => ∃ (v fn fs : V) (t : Tr), vs = [v, fn, fs] ∧ TrAt K H t v ∧ t.size ≤ 100000 ∧ (∀ k ∈ pre t, Ok k) ∧ CalS P w K mg base k (spOn Ok R) s H fn ∧ CalS P w K mg base k (spOs Ok R) s H fs ∧
  ∀ r H', Same H H' → R H' t r → Q r H'
end Pg

set_option Elab.async false
set_option linter.all false
set_option maxRecDepth 100000
set_option maxHeartbeats 4000000
namespace Pg
open PySem PySem.Spec PyProof.Rows L2 LamX
/-! ### entries of tables -/
def walk : PyData → List Int → PyData
  | d, [] => d
  | .tuple ds, r :: rs => walk (ds.getD r.toNat .none) rs
  | _, _ :: _ => .none
def Ent (m : Nat) : Nat → PyData → Prop
  | 0, d => ∃ n : Int, d = .int n ∧ 0 ≤ n ∧ n < m
  | a + 1, d => ∃ ds, d = .tuple ds ∧ ds.length = m ∧ ∀ e ∈ ds, Ent m a e
theorem ent_step {m a : Nat} {d : PyData} {r : Int} {rs : List Int} (h : Ent m (a + 1) d) (h0 : 0 ≤ r) (h1 : r < m) : ∃ ds e, d = .tuple ds ∧ ds[r.toNat]? = some e ∧ Ent m a e ∧ walk d (r :: rs) = walk e rs := by
  obtain ⟨ds, rfl, hl, hall⟩ := h
  have hk : r.toNat < ds.length := by omega
  refine ⟨ds, ds[r.toNat], rfl, List.getElem?_eq_getElem hk, hall _ (List.getElem_mem hk), ?_⟩
  show walk (ds.getD r.toNat .none) rs = _
  rw [List.getD_eq_getElem?_getD, List.getElem?_eq_getElem hk]
  rfl
theorem ent_walk {m : Nat} : ∀ {rs : List Int} {d : PyData}, Ent m rs.length d → (∀ r ∈ rs, 0 ≤ r ∧ r < m) → ∃ n : Int, walk d rs = .int n ∧ 0 ≤ n ∧ n < m
  | [], d, h, _ => by obtain ⟨n, rfl, a, b⟩ := h; exact ⟨n, rfl, a, b⟩
  | r :: rs, d, h, hr => by
    obtain ⟨ds, e, rfl, he, hE, hw⟩ := ent_step (rs := rs) h (hr r (List.mem_cons_self ..)).1 (hr r (List.mem_cons_self ..)).2
    rw [hw]
    exact ent_walk hE fun x hx => hr x (List.mem_cons_of_mem _ hx)
theorem dpAll_get {K : PySem.W.Frag} {H : Hp} : ∀ {vs : List V} {ds : List PyData} {i : Nat} {d : PyData}, DpAll K H vs ds → ds[i]? = some d → ∃ v, vs[i]? = some v ∧ Dp K H v d
  | _, [], i, d, h, e => by simp at e
  | _, d0 :: ds, 0, d, h, e => by
    cases h with
    | cons a b => simp at e; subst e; exact ⟨_, rfl, a⟩
  | _, d0 :: ds, i + 1, d, h, e => by
    cases h with
    | cons a b =>
      obtain ⟨v, h1, h2⟩ := dpAll_get (i := i) b (by simpa using e)
      exact ⟨v, by simpa using h1, h2⟩
/-- entry_at -/
def spEntry (K : PySem.W.Frag) : Sp := fun vs H Q _ => ∃ (v : V) (l : Addr) (d : PyData) (rs : List Int) (m : Nat), vs = [v, .ref l] ∧ Dp K H v d ∧ SqL K H l (rs.map V.int) ∧ Ent m rs.length d ∧ (∀ r ∈ rs, 0 ≤ r ∧ r < m) ∧ ∀ n : Int, walk d rs = .int n → Q (.int n) H
/-! ### a term's value, told from its parts -/
def Tr.ev (ρ : Str → Int) (W : Str → List Int → Int) : Tr → Int
  | .nm x => ρ x
  | .c0 s => W s []
  | .c1 s t => W s [t.ev ρ W]
  | .c2 s t u => W s [t.ev ρ W, u.ev ρ W]
theorem ev_node {ρ : Str → Int} {W : Str → List Int → Int} {t : Tr} (h : ∀ x, t ≠ .nm x) : t.ev ρ W = W t.sym (t.kids.map fun k => k.ev ρ W) := by
  cases t with
  | nm x => exact absurd rfl (h x)
  | c0 s => rfl
  | c1 s t => rfl
  | c2 s t u => rfl
structure MvOk (m : Nat) (sg : Sg) (md : List PyData) : Prop where
  len : md.length = sg.length
  ent : ∀ (i : Nat) (s : Str × Int) (d : PyData), sg[i]? = some s → md[i]? = some d → Ent m s.2.toNat d
def Wm (sg : Sg) (md : List PyData) (s : Str) (rs : List Int) : Int :=
  match walk (md.getD (place sg s) .none) rs with
  | .int n => n
  | _ => 0
/-- what the node asks of names and signs -/
def OkR (m : Nat) (sg : Sg) (ρ : Str → Int) (D : Str → Prop) (t : Tr) : Prop := (∀ x, t = .nm x → D x ∧ 0 ≤ ρ x ∧ ρ x < m) ∧ ((∀ x, t ≠ .nm x) → (t.sym, (t.kids.length : Int)) ∈ sg)
def RowR (m : Nat) (ρ : Str → Int) (W : Str → List Int → Int) : Hp → Tr → V → Prop := fun _ t r => r = .int (t.ev ρ W) ∧ 0 ≤ t.ev ρ W ∧ t.ev ρ W < m
theorem wm_of {m : Nat} {sg : Sg} {md : List PyData} {s : Str} {a : Nat} {rs : List Int} (gs : GSg sg) (mo : MvOk m sg md) (hs : (s, (a : Int)) ∈ sg) (hl : rs.length = a) (hr : ∀ r ∈ rs, 0 ≤ r ∧ r < m) :
    ∃ d, md[place sg s]? = some d ∧ Ent m rs.length d ∧ walk d rs = .int (Wm sg md s rs) ∧ 0 ≤ Wm sg md s rs ∧ Wm sg md s rs < m := by
  have hm : s ∈ sg.map (·.1) := List.mem_map.mpr ⟨_, hs, rfl⟩
  obtain ⟨pl, _, _⟩ := place_at hm
  have hp : place sg s < md.length := by rw [mo.len]; exact pl
  have e0 : sg[place sg s]? = some sg[place sg s] := List.getElem?_eq_getElem pl
  have e1 : md[place sg s]? = some md[place sg s] := List.getElem?_eq_getElem hp
  have e2 : sg[place sg s] = (s, (a : Int)) := by
    obtain ⟨j, hj, ej⟩ := List.getElem_of_mem hs
    have hj2 : j < (sg.map (·.1)).length := by rw [List.length_map]; exact hj
    have e3 : (sg.map (·.1))[j] = s := by rw [List.getElem_map, ej]
    have : place sg s = j := by
      show (sg.map (·.1)).idxOf s = j
      rw [← e3]
      exact gs.nd.idxOf_getElem j hj2
    have h4 : sg[place sg s]? = sg[j]? := by rw [this]
    rw [e0, List.getElem?_eq_getElem hj, ej] at h4
    exact Option.some.inj h4
  have hE := mo.ent _ _ _ e0 e1
  rw [e2] at hE
  have hE : Ent m rs.length md[place sg s] := by rw [hl]; exact hE
  obtain ⟨n, hw, h0, h1⟩ := ent_walk hE hr
  have hW : Wm sg md s rs = n := by
    unfold Wm
    rw [List.getD_eq_getElem?_getD, e1]
    show (match walk md[place sg s] rs with | .int n => n | _ => 0) = n
    rw [hw]
  exact ⟨_, e1, hE, by rw [hW]; exact hw, by rw [hW]; exact h0, by rw [hW]; exact h1⟩
/-- data of tuples, texts, numbers, truth values -/
def solid : PyData → Bool
  | .none => true
  | .bool _ => true
  | .int _ => true
  | .str _ => true
  | .tuple ds => solidAll ds
  | _ => false
where solidAll : List PyData → Bool
  | [] => true
  | d :: ds => solid d && solidAll ds
theorem solidAll_of : ∀ {ds : List PyData}, (∀ d ∈ ds, solid d = true) → solid.solidAll ds = true
  | [], _ => rfl
  | d :: ds, h => by
    rw [solid.solidAll, h d (List.mem_cons_self ..), solidAll_of fun e he => h e (List.mem_cons_of_mem _ he)]
    rfl
section
variable {K : PySem.W.Frag} {H H' : Hp}
mutual
theorem dp_so (k : TK K H H') : ∀ (d : PyData) (v : V), solid d = true → Dp K H v d → Dp K H' v d
  | .none, _, _, h => by cases h; exact .non
  | .bool b, _, _, h => by cases h; exact .bl b
  | .int i, _, _, h => by cases h; exact .int i
  | .str _, _, _, h => by cases h; exact .str _
  | .tuple ds, _, n, h => by
    rw [solid] at n
    cases h with
    | tup hS hA => exact .tup (k _ _ hS) (dpAll_so k ds _ n hA)
  | .list _, _, n, _ => by rw [solid] at n <;> first | cases n | (intros; cases ‹_ = _›)
  | .dict _, _, n, _ => by rw [solid] at n <;> first | cases n | (intros; cases ‹_ = _›)
theorem dpAll_so (k : TK K H H') : ∀ (ds : List PyData) (vs : List V), solid.solidAll ds = true → DpAll K H vs ds → DpAll K H' vs ds
  | [], _, _, h => by cases h; exact .nil
  | d :: ds, _, n, h => by
    rw [solid.solidAll, Bool.and_eq_true] at n
    cases h with
    | cons a b => exact .cons (dp_so k d _ n.1 a) (dpAll_so k ds _ n.2 b)
end
end
theorem ent_solid {m : Nat} : ∀ {a : Nat} {d : PyData}, Ent m a d → solid d = true
  | 0, d, h => by obtain ⟨n, rfl, _⟩ := h; rw [solid]
  | a + 1, d, h => by
    obtain ⟨ds, rfl, _, hall⟩ := h
    rw [solid]
    exact solidAll_of fun e he => ent_solid (hall e he)
theorem MvOk.solid {m : Nat} {sg : Sg} {md : List PyData} (h : MvOk m sg md) : solid (.tuple md) = true := by
  rw [Pg.solid]
  refine solidAll_of fun d hd => ?_
  obtain ⟨i, hi, rfl⟩ := List.getElem_of_mem hd
  have hi2 : i < sg.length := by rw [← h.len]; exact hi
  exact ent_solid (h.ent i _ _ (List.getElem?_eq_getElem hi2) (List.getElem?_eq_getElem hi))
/-- row_of -/
def spRowOf (K : PySem.W.Frag) (Pt : Addr) (q : Str) : Sp := fun vs H Q _ => ∃ (g mv fl : Addr) (v : V) (sg : Sg) (md : List PyData) (kvs : List (Key × V)) (ρ : Str → Int) (m : Nat) (t : Tr), vs = [.ref g, .ref mv, v, .ref fl] ∧ SgAt K H g sg ∧ GSg sg ∧ Dp K H (.ref mv) (.tuple md) ∧ MvOk m sg md ∧ H fl = some (.dK kvs) ∧ TrAt K H t v ∧ t.size ≤ 100000 ∧
  (∀ k ∈ pre t, OkR m sg ρ (fun x => valV kvs (.inr x) = some (.int (ρ x))) k) ∧ TabS H Pt q ∧ ∀ H', ButP Pt H H' → TabS H' Pt q → Q (.int (t.ev ρ (Wm sg md))) H'
end Pg

set_option Elab.async false
set_option linter.all false
set_option maxRecDepth 100000
set_option maxHeartbeats 4000000
namespace Pg
open PySem PySem.Spec PyProof.Rows L2
theorem key_new {sg : Sg} {i : Nat} {s : Str × Int} (nd : (sg.map (·.1)).Nodup) (e : sg[i]? = some s) : (Sum.inr s.1 : Key) ∉ (sg.take i).map fun s => (Sum.inr s.1 : Key) := by
  intro h
  obtain ⟨s', hs', e'⟩ := List.mem_map.mp h
  have e' : s'.1 = s.1 := Sum.inr.inj e'
  obtain ⟨hi, es⟩ := List.getElem?_eq_some_iff.mp e
  obtain ⟨j, hj, ej⟩ := List.getElem_of_mem hs'
  rw [List.getElem_take] at ej
  have hj2 : j < i := by rw [List.length_take] at hj; omega
  have h1 : (sg.map (·.1))[j]'(by rw [List.length_map]; omega) = (sg.map (·.1))[i]'(by rw [List.length_map]; exact hi) := by
    rw [List.getElem_map, List.getElem_map, ej, es, e']
  have := (List.getElem_inj nd).mp h1
  omega
/-- {sign: place for place, (sign, _) in enumerate(signs)} -/
def plD (n : Nat) (sg : Sg) : List (Key × V) := (sg.zipIdx n).map fun p => ((Sum.inr p.1.1 : Key), V.int ((p.2 : Nat) : Int))
theorem plD_keys (sg : Sg) : ∀ n, (plD n sg).map (·.1) = sg.map fun s => (Sum.inr s.1 : Key) := by
  induction sg with
  | nil => intro n; rfl
  | cons x xs ih =>
    intro n
    unfold plD at ih ⊢
    rw [List.zipIdx_cons, List.map_cons, List.map_cons, List.map_cons, ih (n + 1)]
theorem plD_snoc {sg : Sg} {i : Nat} {s : Str × Int} (e : sg[i]? = some s) : plD 0 (sg.take (i + 1)) = plD 0 (sg.take i) ++ [((Sum.inr s.1 : Key), V.int ((i : Nat) : Int))] := by
  have hi := (List.getElem?_eq_some_iff.mp e).1
  unfold plD
  rw [take_snoc e, List.zipIdx_append, List.map_append]
  have hl : (sg.take i).length = i := by rw [List.length_take]; omega
  rw [hl]
  simp
theorem plD_val : ∀ {sg : Sg} {n : Nat} {s : Str}, s ∈ sg.map (·.1) → valV (plD n sg) (Sum.inr s) = some (.int ((n + place sg s : Nat) : Int))
  | [], n, s, h => absurd h List.not_mem_nil
  | x :: xs, n, s, h => by
    unfold plD
    rw [List.zipIdx_cons, List.map_cons]
    by_cases e : x.1 = s
    · rw [valV_pos (by rw [e])]
      have : place (x :: xs) s = 0 := by unfold place; rw [List.map_cons, List.idxOf_cons]; simp [e]
      rw [this]
      rfl
    · rw [valV_neg (by intro z; exact e (Sum.inr.inj z))]
      have hm : s ∈ xs.map (·.1) := by
        rcases List.mem_cons.mp h with z | z
        · exact absurd z.symm e
        · exact z
      have ih := plD_val (n := n + 1) hm
      unfold plD at ih
      rw [ih]
      have : place (x :: xs) s = place xs s + 1 := by
        unfold place
        rw [List.map_cons, List.idxOf_cons]
        have : (x.1 == s) = false := by simpa using e
        rw [this]
        rfl
      rw [this]
      congr 2
      omega
/-- {sign: entry for (sign, _), entry in zip(signs, moves)} -/
def enD (sg : Sg) (us : List V) : List (Key × V) := (sg.zip us).map fun p => ((Sum.inr p.1.1 : Key), p.2)
theorem enD_keys : ∀ {sg : Sg} {us : List V}, sg.length = us.length → (enD sg us).map (·.1) = sg.map fun s => (Sum.inr s.1 : Key)
  | [], [], _ => rfl
  | x :: xs, u :: us, h => by
    have ih := enD_keys (sg := xs) (us := us) (by simpa using h)
    unfold enD at ih ⊢
    rw [List.zip_cons_cons, List.map_cons, List.map_cons, List.map_cons, ih]
theorem enD_snoc {sg : Sg} {us : List V} {i : Nat} {s : Str × Int} {u : V} (hl : sg.length = us.length) (e : sg[i]? = some s) (eu : us[i]? = some u) : enD (sg.take (i + 1)) (us.take (i + 1)) = enD (sg.take i) (us.take i) ++ [((Sum.inr s.1 : Key), u)] := by
  unfold enD
  rw [take_snoc e, take_snoc eu, List.zip_append (by rw [List.length_take, List.length_take, hl]), List.map_append]
  rfl
theorem enD_val : ∀ {sg : Sg} {us : List V} {s : Str}, sg.length = us.length → s ∈ sg.map (·.1) → valV (enD sg us) (Sum.inr s) = us[place sg s]?
  | [], _, s, _, h => absurd h List.not_mem_nil
  | x :: xs, u :: us, s, hl, h => by
    unfold enD
    rw [List.zip_cons_cons, List.map_cons]
    by_cases e : x.1 = s
    · rw [valV_pos (by rw [e])]
      have : place (x :: xs) s = 0 := by unfold place; rw [List.map_cons, List.idxOf_cons]; simp [e]
      rw [this]
      rfl
    · rw [valV_neg (by intro z; exact e (Sum.inr.inj z))]
      have hm : s ∈ xs.map (·.1) := by
        rcases List.mem_cons.mp h with z | z
        · exact absurd z.symm e
        · exact z
      have ih := enD_val (us := us) (by simpa using hl) hm
      unfold enD at ih
      rw [ih]
      have : place (x :: xs) s = place xs s + 1 := by
        unfold place
        rw [List.map_cons, List.idxOf_cons]
        have : (x.1 == s) = false := by simpa using e
        rw [this]
        rfl
      rw [this, List.getElem?_cons_succ]
section
variable {K : PySem.W.Frag} {σ : L2.St} {H : Hp} {Q : VK} {g mv : Addr} {sg : Sg} {us : List V} {i j jp js ju je : Nat}
theorem rd_plc (hi : σ[i]? = some (some (.ref g))) (hS : SgAt K H g sg) (gs : GSg sg)
    (hw : ∀ x y z, wipe ((((wipe σ [jp, js, ju]).set jp (some x)).set js (some y)).set ju (some z)) [jp, js, ju] = wipe σ [jp, js, ju])
    (hjs : ∀ x y z, ((((wipe σ [jp, js, ju]).set jp (some x)).set js (some y)).set ju (some z))[js]? = some (some y)) (hjp : ∀ x y z, ((((wipe σ [jp, js, ju]).set jp (some x)).set js (some y)).set ju (some z))[jp]? = some (some x))
    (h : ∀ D H', H D = none → Same H H' → H' D = some (.dK (plD 0 sg)) → Q (.ref D) H') :
    tDc (iEnumT K (tCons (tVar i) tNil)) (gTup K 2 (gCons (gName jp) (gCons (gTup K 2 (gCons (gName js) (gCons (gName ju) gNil))) gNil))) tYes (tVar js) (tVar jp) [jp, js, ju] σ H Q := by
  obtain ⟨rs, hT, pr⟩ := hS.ex
  refine ⟨_, hi, g, _, rfl, hT, fun D nD => ?_⟩
  have hl : (rs.map V.ref).length = sg.length := by rw [List.length_map, paired_len pr]
  have g4 := gs.len
  refine dc_any (n := sg.length) (fun i H' => Same H H' ∧ H' D = some (.dK (plD 0 (sg.take i)))) ⟨Same.new nD, upd_same⟩ (fun i H' hi iv => ?_) (fun H' iv => ?_) (fun i x H1 H' hi iv hy => ?_) (fun H' iv => ?_)
  · exact ⟨_, _, TK.same iv.1 _ _ hT, List.getElem?_eq_getElem (by rw [hl]; exact hi)⟩
  · exact ⟨_, TK.same iv.1 _ _ hT, hl⟩
  · obtain ⟨T, y, rfl, nT, rfl, hy⟩ := hy
    have hx := hy _ (TK.same iv.1 _ _ hT)
    rw [List.getElem?_map] at hx
    obtain ⟨r, er, rfl⟩ : ∃ r, rs[i]? = some r ∧ V.ref r = y := by
      cases e : rs[i]? with
      | none => rw [e] at hx; cases hx
      | some z => rw [e] at hx; exact ⟨z, rfl, Option.some.inj hx⟩
    obtain ⟨s, es, hr⟩ := Pg.paired_get pr er
    have hD2 : (upd H1 T (.tup [.int (i : Nat), .ref r])) D = some (.dK (plD 0 (sg.take i))) := by rw [upd_ne (ne_of_none iv.2 nT)]; exact iv.2
    refine ⟨T, _, rfl, SqT.mk upd_same, rfl, _, _, rfl, _, _, rfl, r, _, rfl, (TK.new nT) _ _ (TK.same iv.1 _ _ hr), rfl, _, _, rfl, _, _, rfl, rfl, rfl, hw _ _ _, yes_turn ?_⟩
    refine ⟨_, hjs _ _ _, _, hjp _ _ _, _, .inr s.1, rfl, hD2, ?_, Same.mut nD (iv.1.trans (Same.new nT)), ?_⟩
    · unfold plD; rw [List.length_map, List.length_zipIdx, List.length_take]; exact small1000 (by omega)
    · rw [upd_same, putK_new (by rw [plD_keys]; exact key_new gs.nd es), plD_snoc es]
  · rw [List.take_length] at iv
    exact h D H' nD iv.1 iv.2
theorem rd_ents (hi : σ[i]? = some (some (.ref g))) (hj : σ[j]? = some (some (.ref mv))) (hS : SgAt K H g sg) (gs : GSg sg) (hM : SqT K H mv us) (hlen : sg.length = us.length)
    (hw : ∀ x y z, wipe ((((wipe σ [js, ju, je]).set js (some x)).set ju (some y)).set je (some z)) [js, ju, je] = wipe σ [js, ju, je])
    (hjs : ∀ x y z, ((((wipe σ [js, ju, je]).set js (some x)).set ju (some y)).set je (some z))[js]? = some (some x)) (hje : ∀ x y z, ((((wipe σ [js, ju, je]).set js (some x)).set ju (some y)).set je (some z))[je]? = some (some z))
    (h : ∀ D H', H D = none → Same H H' → H' D = some (.dK (enD sg us)) → Q (.ref D) H') :
    tDc (RZ.iZipA K (tCons (tVar i) (tCons (tVar j) tNil))) (gTup K 2 (gCons (gTup K 2 (gCons (gName js) (gCons (gName ju) gNil))) (gCons (gName je) gNil))) tYes (tVar js) (tVar je) [js, ju, je] σ H Q := by
  obtain ⟨rs, hT, pr⟩ := hS.ex
  have hl : (rs.map V.ref).length = sg.length := by rw [List.length_map, paired_len pr]
  have g4 := gs.len
  refine ⟨_, hi, _, hj, g, mv, _, _, rfl, .inr ⟨hT, hM, fun D nD => ?_⟩⟩
  refine dc_any (n := sg.length) (fun i H' => Same H H' ∧ H' D = some (.dK (enD (sg.take i) (us.take i)))) ⟨Same.new nD, upd_same⟩ (fun i H' hi iv => ?_) (fun H' iv => ?_) (fun i x H1 H' hi iv hy => ?_) (fun H' iv => ?_)
  · exact ⟨_, _, _, _, TK.same iv.1 _ _ hT, TK.same iv.1 _ _ hM, List.getElem?_eq_getElem (by rw [hl]; exact hi), List.getElem?_eq_getElem (by omega)⟩
  · exact ⟨_, _, TK.same iv.1 _ _ hT, TK.same iv.1 _ _ hM, .inl (by omega)⟩
  · obtain ⟨T, y, z, rfl, nT, rfl, hy, hz⟩ := hy
    have hx := hy _ (TK.same iv.1 _ _ hT)
    have hz := hz _ (TK.same iv.1 _ _ hM)
    rw [List.getElem?_map] at hx
    obtain ⟨r, er, rfl⟩ : ∃ r, rs[i]? = some r ∧ V.ref r = y := by
      cases e : rs[i]? with
      | none => rw [e] at hx; cases hx
      | some z => rw [e] at hx; exact ⟨z, rfl, Option.some.inj hx⟩
    obtain ⟨s, es, hr⟩ := Pg.paired_get pr er
    have hD2 : (upd H1 T (.tup [.ref r, z])) D = some (.dK (enD (sg.take i) (us.take i))) := by rw [upd_ne (ne_of_none iv.2 nT)]; exact iv.2
    refine ⟨T, _, rfl, SqT.mk upd_same, rfl, _, _, rfl, r, _, rfl, (TK.new nT) _ _ (TK.same iv.1 _ _ hr), rfl, _, _, rfl, _, _, rfl, rfl, _, _, rfl, rfl, hw _ _ _, yes_turn ?_⟩
    refine ⟨_, hjs _ _ _, _, hje _ _ _, _, .inr s.1, rfl, hD2, ?_, Same.mut nD (iv.1.trans (Same.new nT)), ?_⟩
    · unfold enD; rw [List.length_map, List.length_zip, List.length_take]; exact small1000 (by omega)
    · have hlt : (sg.take i).length = (us.take i).length := by rw [List.length_take, List.length_take, hlen]
      rw [upd_same, putK_new (by rw [enD_keys hlt]; exact key_new gs.nd es), enD_snoc hlen es hz]
  · rw [List.take_length, hlen, List.take_length] at iv
    exact h D H' nD iv.1 iv.2
end
end Pg

set_option Elab.async false
set_option linter.all false
set_option maxRecDepth 100000
set_option maxHeartbeats 4000000
namespace K01
open PySem PySem.Spec PyProof.Rows L2 Pg
/-- the entries of the order key -/
abbrev PairsAt (K : PySem.W.Frag) (H : Hp) (sg : Sg) (us : List V) (ks : List Tr) : Prop := Paired (fun u (k : Tr) => ∃ p, u = V.ref p ∧ SqT K H p [.int (k.size : Nat), .int (place sg k.sym : Nat)]) us ks
theorem PairsAt.keep {K : PySem.W.Frag} {H H' : Hp} {sg : Sg} {us : List V} {ks : List Tr} (k : TK K H H') (h : PairsAt K H sg us ks) : PairsAt K H' sg us ks := Paired.imp2 (fun _ _ ⟨p, e, q⟩ => ⟨p, e, k _ _ q⟩) h
theorem PairsAt.dp {K : PySem.W.Frag} {H : Hp} {sg : Sg} : ∀ {us : List V} {ks : List Tr}, PairsAt K H sg us ks → DpAll K H us (ks.map (pairD sg))
  | _, _, .nil => .nil
  | _, _, .cons ⟨p, e, q⟩ t => by rw [e]; exact .cons (.tup q (.cons (.int _) (.cons (.int _) .nil))) (PairsAt.dp t)
section
variable {K : PySem.W.Frag} {H H' : Hp}
mutual
theorem dp_same (s : Same H H') : ∀ (d : PyData) (v : V), Dp K H v d → Dp K H' v d
  | .none, _, h => by cases h; exact .non
  | .bool _, _, h => by cases h; exact .bl _
  | .int _, _, h => by cases h; exact .int _
  | .str _, _, h => by cases h; exact .str _
  | .list ds, _, h => by
    cases h with
    | lst hq ha => exact .lst (s.seq hq) (dpAll_same s ds _ ha)
  | .tuple ds, _, h => by
    cases h with
    | tup hq ha => exact .tup (TK.same s _ _ hq) (dpAll_same s ds _ ha)
  | .dict _, _, h => by cases h
theorem dpAll_same (s : Same H H') : ∀ (ds : List PyData) (vs : List V), DpAll K H vs ds → DpAll K H' vs ds
  | [], _, h => by cases h; exact .nil
  | d :: ds, _, h => by
    cases h with
    | cons a b => exact .cons (dp_same s d _ a) (dpAll_same s ds _ b)
end
end
section
variable {P : Program} {w : World} {K : PySem.W.Frag} {mg : Str → Option Value} {base : Heap} {f : Addr} {fd : FuncData}
abbrev s_okey : Stmt := top 4
abbrev N_okey : List Str := ["signs", "tree", "places", "key", "sizes", "node", "size", "_", "place", "sign"]
abbrev P_okey : List Str := ["signs", "tree"]
theorem sc_okey : FnScope N_okey P_okey (defScope s_okey) := ⟨rfl, rfl, rfl, by decide +kernel, rfl, by decide +kernel, by decide +kernel⟩

theorem ok_okey (F : FnP K "order_key" s_okey f fd) (hm : mg "order_key" = some (.ref f)) (Z : Zs mg) (c_nodes : Cal P w K mg base 1 "nodes_of" (spNodes K) [.non]) : Cal P w K mg base 2 "order_key" (spOkey K) [] := by
  refine mk_cal F hm sc_okey (fun _ _ _ _ _ _ us hl => match us, hl with | [_, _], _ => rfl) (fun vs H Q E h => ?_) (fun cdv A outer s H vs Q E hr h => ?_)
  · obtain ⟨g, sg, v, t, rfl, _⟩ := h
    rfl
  obtain ⟨g, sg, v, t, rfl, hsg, gs, ht, hwf, hz, q⟩ := h
  refine ⟨_, (pss_cons (ps_setDc (i := 2) (own := [("place", 8), ("sign", 9), ("_", 7)]) (g := (gTup K 2 (gCons (gName 8) (gCons (gTup K 2 (gCons (gName 9) (gCons (gName 7) gNil))) gNil)))) (tt := tYes) (tk := (tVar 9)) (tv := (tVar 8)) rfl sc_okey.nd rfl rfl (swD_true rfl rfl rfl (by decide +kernel)) (pi_enumT (by rfl) Z.enumerate (pa_cons (pv 0) pa_nil)) (blkOk_by (N := N_okey) (sc := defScope s_okey) (by decide +kernel)) (fun _ _ _ _ _ => by exact (pg_tup rfl (pgs_cons (pg_name (i := 8) sc_okey.nd rfl (Or.inl rfl)) (pgs_cons (pg_tup rfl (pgs_cons (pg_name (i := 9) sc_okey.nd rfl (Or.inl rfl)) (pgs_cons (pg_name (i := 7) sc_okey.nd rfl (Or.inl rfl)) pgs_nil))) pgs_nil)))) (fun _ _ _ _ _ => by exact pts_nil) (fun _ _ _ _ _ => by exact (pv 9)) (fun _ _ _ _ _ => by exact (pv 8)))
      (pss_cons (ps_set (i := 3) sc_okey.nd rfl (by first | exact Or.inl rfl | exact Or.inr rfl) (pe_lst pa_nil))
      (pss_cons (ps_set (i := 4) sc_okey.nd rfl (by first | exact Or.inl rfl | exact Or.inr rfl) (pe_lst pa_nil))
      (pss_cons (ps_for PassesOwn.never rfl (RT.pi_revA (by rfl) Z.reversed (C8.pe_c c_nodes hr (by first | decide | omega) rfl (pa_cons (pv 1) pa_nil))) (pg_name (i := 5) sc_okey.nd rfl (by first | exact Or.inl rfl | exact Or.inr rfl)) (pss_cons (ps_set (i := 6) sc_okey.nd rfl (by first | exact Or.inl rfl | exact Or.inr rfl) pe_int)
      (pss_cons (ps_for PassesOwn.never rfl (pi_tup (pe_slice sl_tupA (pv 5) (po_some pe_int) po_none)) (pg_name (i := 7) sc_okey.nd rfl (by first | exact Or.inl rfl | exact Or.inr rfl)) (pss_one (ps_aug (i := 6) sc_okey.nd rfl (by first | exact Or.inl rfl | exact Or.inr rfl) (pe_bm0 PySem.F.plainAttrs_list PySem.F.slot_list_pop PySem.F.type_list_pop mt_pop (pv 4)) ip_add)))
      (pss_cons (ps_expr (pe_bm PySem.F.plainAttrs_list PySem.F.slot_list_append PySem.F.type_list_append mt_append (pv 4) (pa_cons (pv 6) pa_nil)))
      (pss_one (ps_expr (pe_bm PySem.F.plainAttrs_list PySem.F.slot_list_append PySem.F.type_list_append mt_append (pv 3) (pa_cons (pe_tup (pa_cons (pv 6) (pa_cons (pe_dget (hu_of hr) (pv 2) (pe_ix ix_tup (pv 5) pe_int (fun _ _ => rfl)) (fun _ _ => rfl)) pa_nil))) pa_nil))))))))
      (pss_cons (ps_expr (pe_bm0 PySem.F.plainAttrs_list PySem.F.slot_list_reverse PySem.F.type_list_reverse mt_reverse (pv 3)))
      (pss_one (ps_ret (pv 3)))))))), ?_⟩
  have hp := hwf.pl
  dsimp only [gName, tNext, tSeq, tAsg]
  refine rd_plc (i := 0) rfl hsg gs (fun _ _ _ => rfl) (fun _ _ _ => rfl) (fun _ _ _ => rfl) (fun D H0 nD s0 hD0 => ?_)
  have q := fun p H' (s : Same H0 H') d => q p H' (s0.trans s) d
  have hsg := hsg.keep (TK.same s0)
  have ht := ht.keep (TK.same (K := K) s0)
  clear s0 nD
  generalize H0 = H at hD0 q hsg ht ⊢
  refine ⟨by decide, fun kl nkl => ?_⟩
  refine ⟨by decide, fun sl nsl => ?_⟩
  have tk0 : TK K H (upd (upd H kl (.lst [])) sl (.lst [])) := (TK.new nkl).trans (TK.new nsl)
  have nsk : sl ≠ kl := (ne_of_none upd_same nsl).symm
  have nsl0 : H sl = none := same_free (Same.new nkl) nsl
  refine ⟨_, rfl, v, t, rfl, ht.keep tk0, hp, hz, fun wl H1 ws sm1 hwl hws => ?_⟩
  have hn : ws.length = t.size := by rw [paired_len hws, pre_len]
  have hpos := t.size_pos
  have hkl1 : H1 kl = some (.lst []) := sm1 _ _ (by rw [upd_ne nsk.symm]; exact upd_same)
  have hsl1 : H1 sl = some (.lst []) := sm1 _ _ upd_same
  have hwne : ws ≠ [] := fun e => by rw [e] at hn; simp at hn; omega
  have nwk : wl ≠ kl := fun e => by rw [e, hkl1] at hwl; cases hwl; exact hwne rfl
  have nws : wl ≠ sl := fun e => by rw [e, hsl1] at hwl; cases hwl; exact hwne rfl
  have tk1 : TK K H H1 := tk0.trans (TK.same sm1)
  refine ⟨wl, ws, rfl, .inl ⟨SqL.mk hwl, RT.for_Itv (K := K) (xs := ws) (fun i σ H' => ∃ (v4 v5 v6 : Option V) (ks : List V), σ = [some (.ref g), some v, some (.ref D), some (.ref kl), some (.ref sl), v4, v5, v6, none, none] ∧ H' kl = some (.lst ks) ∧ PairsAt K H' sg ks ((pre t).drop (ws.length - i)).reverse ∧ H' sl = some (.lst ((restN (ws.length - i) [t]).reverse.map fun k => V.int (k.size : Nat))) ∧ H' wl = some (.lst ws) ∧ TK K H1 H' ∧ Same H H')
    ⟨none, none, none, [], rfl, hkl1, ?_, ?_, hwl, TK.refl, ((Same.new nkl).trans (Same.new nsl)).trans sm1⟩ (fun i σ H' ⟨_, _, _, _, _, _, _, _, h, _⟩ => SqL.mk h) ?_ ?_⟩⟩
  · rw [Nat.sub_zero, hn, ← pre_len t, List.drop_length]; exact .nil
  · rw [Nat.sub_zero, hn, restN_end t]; exact hsl1
  · rintro i x σ Hc hi hx ⟨v4, v5, v6, ks, rfl, hkl, hks, hsl, hwc, tk, sm⟩
    obtain ⟨k, ek, hk⟩ := Pg.paired_get hws hx
    obtain ⟨j, ej⟩ : ∃ j, j = ws.length - 1 - i := ⟨_, rfl⟩
    have ej1 : ws.length - i = j + 1 := by omega
    have ej2 : ws.length - (i + 1) = j := by omega
    rw [← ej] at ek
    rw [ej1] at hks hsl
    have hmem := List.mem_of_getElem? ek
    have wfk := Wf.pre hwf hmem
    have plk := wfk.pl
    obtain ⟨G, eG⟩ := restN_at ek
    have eR : restN (j + 1) [t] = k.kids ++ G := by show rest (restN j [t]) = _; rw [eG]; rfl
    rw [eR] at hsl
    obtain ⟨p, us, rfl, hS, hkids⟩ := (TrAt.keep tk hk).open_ plk
    have hul := paired_len hkids
    have hkz : k.size ≤ t.size := by
      have h1 := congrArg List.length eG
      have h2 : (restN j [t]).flatMap pre = (pre t).drop j := by rw [restN_flat, List.flatMap_cons]; simp
      have h3 := congrArg List.length h2
      rw [eG, List.flatMap_cons, List.length_append, pre_len, List.length_drop, pre_len] at h3
      omega
    have hGl : G.length + 1 ≤ t.size := by
      have h2 : (restN j [t]).flatMap pre = (pre t).drop j := by rw [restN_flat, List.flatMap_cons]; simp
      have h3 := congrArg List.length h2
      rw [eG, flat_len, List.length_drop, pre_len] at h3
      have h4 := len_le_sum (k :: G)
      rw [List.length_cons] at h4
      omega
    dsimp only [tSeq, tAsg, tC, gName]
    refine it_tail (i := 5) rfl hS _ (fun q2 H2 sm2 hS2 => ?_)
    refine for_tup (K := K) (a := q2) (xs := us) (fun jj σ H' => ∃ (v6 : Option V), σ = [some (.ref g), some v, some (.ref D), some (.ref kl), some (.ref sl), some (.ref p), some (.int (1 + ((k.kids.take jj).map fun k => (k.size : Int)).sum)), v6, none, none] ∧ H' sl = some (.lst ((k.kids.drop jj ++ G).reverse.map fun k => V.int (k.size : Nat))) ∧ Fr sl H2 H')
      ?_ (fun jj σ H' _ ⟨_, _, _, fr⟩ => TK.fr fr (sm2 _ _ hsl) _ _ hS2) ?_ ?_
    · exact ⟨v6, rfl, sm2 _ _ hsl, Fr.refl⟩
    · rintro jj y σ H3 hy ⟨v6, rfl, hsl3, fr⟩
      obtain ⟨c, ec, hc⟩ := Pg.paired_get hkids hy
      have hlt : jj < k.kids.length := (List.getElem?_eq_some_iff.mp ec).1
      have ed : k.kids.drop jj = c :: k.kids.drop (jj + 1) := by
        rw [List.drop_eq_getElem_cons hlt]
        congr 1
        exact (List.getElem?_eq_some_iff.mp ec).2
      have ed2 : (k.kids.drop jj ++ G).reverse.map (fun k => V.int (k.size : Nat)) = ((k.kids.drop (jj + 1) ++ G).reverse.map fun k => V.int (k.size : Nat)) ++ [V.int (c.size : Nat)] := by
        rw [ed, List.cons_append, List.reverse_cons, List.map_append]; rfl
      rw [ed2] at hsl3
      refine ⟨_, rfl, _, rfl, .inl ⟨rfl, _, SqL.mk hsl3⟩, sl, _, .int (c.size : Nat), rfl, rfl, hsl3, ?_, ?_⟩
      · rw [List.length_append, List.length_singleton, Nat.add_sub_cancel, List.getElem?_append_right (Nat.le_refl _), Nat.sub_self]; rfl
      rw [List.dropLast_concat]
      have e2 : (1 + ((k.kids.take (jj + 1)).map fun k => (k.size : Int)).sum) = (1 + ((k.kids.take jj).map fun k => (k.size : Int)).sum) + (c.size : Int) := by
        rw [take_snoc ec, List.map_append, List.sum_append]
        show _ = _
        simp only [List.map_cons, List.map_nil, List.sum_cons, List.sum_nil]
        omega
      refine ⟨_, _, rfl, rfl, some y, ?_, upd_same, fr.trans Fr.own⟩
      rw [e2]
      rfl
    · rintro σ H3 ⟨v6, rfl, hsl3, fr⟩
      rw [List.drop_of_length_le (by omega), List.nil_append] at hsl3
      have es : (1 + ((k.kids.take us.length).map fun k => (k.size : Int)).sum) = (k.size : Int) := by rw [List.take_of_length_le (by omega), Tr.size_kids]
      rw [es]
      have fr0 : Fr sl Hc H3 := (Fr.of sm2).trans fr
      have tk3 : TK K Hc H3 := TK.fr fr0 hsl
      refine ⟨_, rfl, .inl ⟨rfl, _, SqL.mk hsl3⟩, _, rfl, sl, _, _, rfl, rfl, hsl3, by rw [List.length_map, List.length_reverse]; exact small1000 (by omega), ?_⟩
      have tk4 : TK K Hc (upd H3 sl (.lst (G.reverse.map (fun k => V.int (k.size : Nat)) ++ [V.int (k.size : Nat)]))) := tk3.trans (TK.put hsl3)
      have fr4 : Fr sl Hc (upd H3 sl (.lst (G.reverse.map (fun k => V.int (k.size : Nat)) ++ [V.int (k.size : Nat)]))) := fr0.trans Fr.own
      have hkl4 := fr4 _ _ nsk.symm hkl
      have smB : Same H (upd H3 sl (.lst (G.reverse.map (fun k => V.int (k.size : Nat)) ++ [V.int (k.size : Nat)]))) := fun b o hb => fr4 b o (fun e => by rw [e, nsl0] at hb; cases hb) (sm _ _ hb)
      refine ⟨_, rfl, .inl ⟨rfl, _, SqL.mk hkl4⟩, _, rfl, _, rfl, _, rfl, p, _, 0, _, rfl, rfl, tk4 _ _ hS, at0 _ _, ?_⟩
      refine ⟨D, .int (place sg k.sym : Nat), rfl, ?_, ⟨(by show 2 ≤ sizeLine; decide), fun r nr => ?_⟩⟩
      · have e := plD_val (sg := sg) (n := 0) (s := k.sym) (List.mem_map.mpr ⟨_, wfk.sym, rfl⟩)
        rw [Nat.zero_add] at e
        rw [← e]
        exact DGet.k (k := .inr k.sym) (smB _ _ hD0)
      generalize hH5 : upd H3 sl (.lst (G.reverse.map (fun k => V.int (k.size : Nat)) ++ [V.int (k.size : Nat)])) = H5 at nr ⊢
      have sm5 : Same (upd H3 sl (.lst (G.reverse.map (fun k => V.int (k.size : Nat)) ++ [V.int (k.size : Nat)]))) H5 := by rw [hH5]; exact Same.refl _
      have hkl5 := sm5 _ _ hkl4
      have hkl6 : (upd H5 r (.tup [.int (k.size : Nat), .int (place sg k.sym : Nat)])) kl = some (.lst ks) := by rw [upd_ne (ne_of_none hkl5 nr)]; exact hkl5
      refine ⟨kl, _, _, rfl, rfl, hkl6, ?_, ?_⟩
      · rw [paired_len hks, List.length_reverse, List.length_drop, pre_len]; exact small1000 (by omega)
      have tk6 : TK K Hc (upd (upd H5 r (.tup [.int (k.size : Nat), .int (place sg k.sym : Nat)])) kl (.lst (ks ++ [.ref r]))) := tk4.trans ((TK.same sm5).trans ((TK.new nr).trans (TK.put hkl6)))
      have hsl5 := sm5 _ _ (upd_same (H := H3) (a := sl) (o := .lst (G.reverse.map (fun k => V.int (k.size : Nat)) ++ [V.int (k.size : Nat)])))
      have hwl5 := sm5 _ _ (fr4 _ _ nws hwc)
      have hdr : (pre t).drop j = k :: (pre t).drop (j + 1) := by
        have hlt : j < (pre t).length := (List.getElem?_eq_some_iff.mp ek).1
        rw [List.drop_eq_getElem_cons hlt]
        congr 1
        exact (List.getElem?_eq_some_iff.mp ek).2
      refine ⟨_, _, _, ks ++ [.ref r], rfl, upd_same, ?_, ?_, ?_, tk.trans tk6, ?_⟩
      · rw [ej2, hdr, List.reverse_cons]
        exact paired_app (hks.keep tk6) (.cons ⟨r, rfl, (TK.put hkl6) _ _ (SqT.mk upd_same)⟩ .nil)
      · rw [ej2, eG, List.reverse_cons, List.map_append, upd_ne nsk, upd_ne (ne_of_none hsl5 nr)]
        exact hsl5
      · rw [upd_ne nwk, upd_ne (ne_of_none hwl5 nr)]
        exact hwl5
      · have s4 : Same H (upd H3 sl (.lst (G.reverse.map (fun k => V.int (k.size : Nat)) ++ [V.int (k.size : Nat)]))) := fun b o hb => fr4 b o (fun e => by rw [e, nsl0] at hb; cases hb) (sm _ _ hb)
        exact Same.mut nkl ((s4.trans sm5).trans (Same.new nr))
  · rintro σ H2 ⟨v4, v5, v6, ks, rfl, hkl, hks, hsl, hwc, tk, sm⟩
    rw [Nat.sub_self, List.drop_zero] at hks
    refine ⟨_, rfl, .inl ⟨rfl, _, SqL.mk hkl⟩, kl, _, rfl, rfl, hkl, ?_⟩
    have hr := paired_rev (PairsAt.keep (TK.put (o := .lst ks.reverse) hkl) hks)
    rw [List.reverse_reverse] at hr
    exact ⟨_, rfl, q kl _ (Same.mut nkl sm) (.lst (SqL.mk upd_same) (PairsAt.dp hr))⟩
/-- the order of the two lists, as the program tells it -/
def okD (sg : Sg) (t : Tr) : PyData := .list ((pre t).map (pairD sg))
def cmpN (sg : Sg) (t u : Tr) : Int := if PySem.W.dataLt (okD sg t) (okD sg u) = true then -1 else if PyData.eqv (okD sg t) (okD sg u) = true then 0 else 1
def spCmp (K : PySem.W.Frag) : Sp := fun vs H Q _ => ∃ (g : Addr) (sg : Sg) (v v' : V) (t t' : Tr), vs = [.ref g, v, v'] ∧ SgAt K H g sg ∧ GSg sg ∧ TrAt K H t v ∧ TrAt K H t' v' ∧ Wf sg [] t ∧ Wf sg [] t' ∧ t.size ≤ 1000 ∧ t'.size ≤ 1000 ∧ ∀ H', Same H H' → Q (.int (cmpN sg t t')) H'
theorem alike_pairs (sg : Sg) : ∀ xs ys : List Tr, PySem.W.alikeAll (xs.map (pairD sg)) (ys.map (pairD sg)) = true
  | [], ys => by rw [List.map_nil]; cases h : ys.map (pairD sg) <;> rfl
  | x :: xs, [] => rfl
  | x :: xs, y :: ys => by
    rw [List.map_cons, List.map_cons, PySem.W.alikeAll, alike_pairs sg xs ys]
    rfl
theorem depth_pairs (sg : Sg) : ∀ xs : List Tr, PyData.depthAll (xs.map (pairD sg)) ≤ 2
  | [] => by show PyData.depthAll [] ≤ 2; decide
  | x :: xs => by
    have h := depth_pairs sg xs
    rw [List.map_cons, PyData.depthAll]
    have e : (Pg.pairD sg x).depth ≤ 2 := by simp [Pg.pairD, PyData.depth, PyData.depthAll]
    omega
theorem lay_pairs (sg : Sg) : ∀ xs : List Tr, PyData.canLayAll0 (xs.map (pairD sg)) = true
  | [] => rfl
  | x :: xs => by
    rw [List.map_cons, PyData.canLayAll0, lay_pairs sg xs]
    rfl
theorem okD_depth (sg : Sg) (t : Tr) : (okD sg t).depth ≤ 3 := by
  have := depth_pairs sg (pre t)
  show (PyData.list _).depth ≤ 3
  rw [PyData.depth]
  omega
theorem okD_shaped (sg : Sg) (t : Tr) : SeqAt.shaped (okD sg t) = true := by
  have h1 := okD_depth sg t
  have h2 : (okD sg t).canLay0 = true := by show (PyData.list _).canLay0 = true; rw [PyData.canLay0]; exact lay_pairs sg (pre t)
  unfold SeqAt.shaped
  rw [h2, decide_eq_true (show (okD sg t).depth ≤ 64 by omega)]
  rfl
theorem okD_alike (sg : Sg) (t u : Tr) : PySem.W.alike (okD sg t) (okD sg u) = true := by
  show PySem.W.alike (PyData.list _) (PyData.list _) = true
  rw [PySem.W.alike]
  exact alike_pairs sg _ _
abbrev s_cmp : Stmt := top 3
abbrev N_cmp : List Str := ["signs", "first", "second", "one", "other"]
abbrev P_cmp : List Str := ["signs", "first", "second"]
theorem sc_cmp : FnScope N_cmp P_cmp (defScope s_cmp) := ⟨rfl, rfl, rfl, by decide +kernel, rfl, by decide +kernel, by decide +kernel⟩

theorem ok_cmp (F : FnP K "compare_trees" s_cmp f fd) (hm : mg "compare_trees" = some (.ref f)) (Z : Zs mg) (c_okey : Cal P w K mg base 2 "order_key" (spOkey K) []) : Cal P w K mg base 8 "compare_trees" (spCmp K) [] := by
  refine mk_cal F hm sc_cmp (fun _ _ _ _ _ _ us hl => match us, hl with | [_, _, _], _ => rfl) (fun vs H Q E h => ?_) (fun cdv A outer s H vs Q E hr h => ?_)
  · obtain ⟨g, sg, v, v', t, t', rfl, _⟩ := h
    rfl
  obtain ⟨g, sg, v, v', t, t', rfl, hsg, gs, ht, ht', hwf, hwf', hz, hz', q⟩ := h
  refine ⟨_, (pss_cons (ps_set (i := 3) sc_cmp.nd rfl (by first | exact Or.inl rfl | exact Or.inr rfl) (C8.pe_c c_okey hr (by first | decide | omega) rfl (pa_cons (pv 0) (pa_cons (pv 1) pa_nil))))
      (pss_cons (ps_set (i := 4) sc_cmp.nd rfl (by first | exact Or.inl rfl | exact Or.inr rfl) (C8.pe_c c_okey hr (by first | decide | omega) rfl (pa_cons (pv 0) (pa_cons (pv 2) pa_nil))))
      (pss_cons (ps_if (pt_cmpR (op_ltD (n := 8) (hu_n hr (by decide))) (pv 3) (pv 4) (nomark _)) (pss_one (ps_ret (pe_un un_neg pe_int))) pss_nil)
      (pss_one (ps_ret (pe_ifExp (pt_cmpR (op_eqD (hu_n hr (by decide))) (pv 3) (pv 4) (nomark _)) pe_int pe_int)))))), ?_⟩
  refine ⟨_, rfl, _, rfl, g, sg, v, t, rfl, hsg, gs, ht, hwf, hz, fun p1 H1 sm1 d1 => ?_⟩
  have tk1 := TK.same (K := K) sm1
  refine ⟨_, rfl, _, rfl, g, sg, v', t', rfl, hsg.keep tk1, gs, ht'.keep tk1, hwf', hz', fun p2 H2 sm2 d2 => ?_⟩
  have d1' := dp_same sm2 _ _ d1
  have dd1 : Dp K H2 (.ref p1) (okD sg t) := d1'
  have dd2 : Dp K H2 (.ref p2) (okD sg t') := d2
  have hdep := okD_depth sg t
  refine ⟨_, rfl, _, rfl, okD sg t, okD sg t', dd1, dd2, okD_alike sg t t', (by intro h; cases h), Nat.le_trans (Nat.min_le_left _ _) (by omega), _, rfl, ?_⟩
  have q2 : Q (.int (cmpN sg t t')) H2 := q H2 (sm1.trans sm2)
  unfold cmpN at q2
  refine ite2 (fun h => ?_) (fun h => ?_)
  · rw [if_pos h] at q2
    exact ⟨1, rfl, q2⟩
  · rw [if_neg h] at q2
    refine ⟨_, rfl, _, rfl, okD sg t, okD sg t', dd1, dd2, okD_shaped sg t, okD_shaped sg t', _, rfl, ?_⟩
    refine ite2 (fun h2 => ?_) (fun h2 => ?_)
    · rw [if_pos h2] at q2
      exact q2
    · rw [if_neg h2] at q2
      exact q2
end
end K01

set_option Elab.async false
set_option linter.all false
set_option maxRecDepth 100000
set_option maxHeartbeats 4000000
namespace K01
open PySem PySem.Spec PyProof.Rows L2 Pg
/-- both keys and both lists tell the same -/
theorem told_due {sg : Sg} (g : GSg sg) {t u : Tr} (ht : Wf sg [] t) (hu : Wf sg [] u) : cmpN sg t u = (if PySem.W.dataLt (keyD sg u) (keyD sg t) = true then 1 else 0) - (if PySem.W.dataLt (keyD sg t) (keyD sg u) = true then 1 else 0) ∧ (cmpN sg t u = -1 ∨ cmpN sg t u = 0 ∨ cmpN sg t u = 1) := by
  have refl : ∀ t : Tr, PyData.eqv (okD sg t) (okD sg t) = true := fun t => PySem.W.eqv_refl_alike _ (okD_alike sg t t)
  rcases dif g ht hu with rfl | ⟨p, q, hne, d1, d2⟩
  · have e1 : PySem.W.dataLt (keyD sg t) (keyD sg t) = false := lex_irrefl (O := itemOrd) _
    have e2 : PySem.W.dataLt (okD sg t) (okD sg t) = false := lex_irrefl (O := itemOrd) _
    unfold cmpN
    rw [e1, e2, refl t]
    exact ⟨rfl, .inr (.inl rfl)⟩
  · have d3 : Dif (PySem.W.keyToks (okD sg t)) (PySem.W.keyToks (okD sg u)) p q := by
      show Dif (PySem.W.keyToks (.list _)) (PySem.W.keyToks (.list _)) p q
      rw [toks_ok, toks_ok]
      exact d2.app _ _
    have e1 : PySem.W.dataLt (keyD sg t) (keyD sg u) = decide (p < q) := d1.lt hne
    have e2 : PySem.W.dataLt (keyD sg u) (keyD sg t) = decide (q < p) := d1.swap.lt (fun e => hne e.symm)
    have e3 : PySem.W.dataLt (okD sg t) (okD sg u) = decide (p < q) := d3.lt hne
    have e4 : PyData.eqv (okD sg t) (okD sg u) ≠ true := fun e => d3.ne hne ((PySem.W.toks_eqv _ _ (okD_alike sg t u)).1 e)
    unfold cmpN
    rw [e1, e2, e3, if_neg e4]
    by_cases h : p < q
    · have h2 : ¬ q < p := by omega
      simp [h, h2]
    · have h2 : q < p := by omega
      simp [h, h2]
theorem sub_swap (x y : Int) : y - x = 0 - (x - y) := by omega
section
variable {P : Program} {w : World} {K : PySem.W.Frag} {mg : Str → Option Value} {base : Heap} {f : Addr} {fd : FuncData}
theorem mk_fng {x : Str} {st : Stmt} {N ps : List Str} {k : Nat} {sp : Sp} (F : FnP K x st f fd) (S : FnScope N ps (defScope st)) (len : ∀ vs H Q E, sp vs H Q E → vs.length = ps.length)
    (body : ∀ (cdv : Value) (A : Around) (outer : List Env) (s : Shared) (H : Hp) (vs : List V) (Q : VK), (A.deeper (envOfC x (defScope st) s.heap.objs.size f cdv)).guards = some [] → Room k (A.deeper (envOfC x (defScope st) s.heap.objs.size f cdv)) → sp vs H Q E0 →
      ∃ t, PSs (cxOf CX0 P w K mg base N x (defScope st) f cdv A outer s H E0).nox (defBody st) t ∧ t { nx := fun _ H' => Q .non H', rt := Q } (start N vs) H) : FnG P w K mg base (k + 1) f fd ps sp := by
  obtain ⟨oc, od, dV, kV, doc, pm, an, cdv, ct, osl, rfl, lk, hcd, _, _⟩ := F.ex
  exact fng_of lk hcd S len fun A outer s H vs Q hg hr hsp => body cdv A outer s H vs Q hg hr hsp
def spSame (K : PySem.W.Frag) : Sp := fun vs H Q _ => ∃ (p q : Addr) (a b c : Int), vs = [.ref p, .ref q] ∧ Dp K H (.ref p) (.list [.int a, .int b, .int c]) ∧ Dp K H (.ref q) (.list [.int a, .int b, .int c]) ∧ (a = -1 ∨ a = 0 ∨ a = 1) ∧ (b = -1 ∨ b = 0 ∨ b = 1) ∧ (c = -1 ∨ c = 0 ∨ c = 1) ∧ ∀ H', Same H H' → Q (.bl true) H'
theorem small_show {a b c : Int} (ha : a = -1 ∨ a = 0 ∨ a = 1) (hb : b = -1 ∨ b = 0 ∨ b = 1) (hc : c = -1 ∨ c = 0 ∨ c = 1) : PyData.showable (.list [.list [.int a, .int b, .int c]]) = true ∧ PyData.hasDict (.list [.list [.int a, .int b, .int c]]) = false ∧ (PyData.shown (.list [.list [.int a, .int b, .int c]])).length ≤ sizeLine ∧ (PyData.list [.list [.int a, .int b, .int c]]).depth ≤ 70 := by
  rcases ha with rfl | rfl | rfl <;> rcases hb with rfl | rfl | rfl <;> rcases hc with rfl | rfl | rfl <;> exact ⟨by decide +kernel, by decide +kernel, by decide +kernel, by decide +kernel⟩
abbrev s_same : Stmt := top 6
abbrev N_same : List Str := ["told", "due"]
abbrev P_same : List Str := ["told", "due"]
theorem sc_same : FnScope N_same P_same (defScope s_same) := ⟨rfl, rfl, rfl, by decide +kernel, rfl, by decide +kernel, by decide +kernel⟩

theorem ok_same (F : FnP K "_law_same" s_same f fd) (Z : Zs mg) : FnG P w K mg base 1 f fd ["told", "due"] (spSame K) := by
  refine mk_fng F sc_same (fun vs H Q E h => ?_) (fun cdv A outer s H vs Q hG hr h => ?_)
  · obtain ⟨p, q, a, b, c, rfl, _⟩ := h
    rfl
  obtain ⟨p, q, a, b, c, rfl, hp, hq, ha, hb, hc, k⟩ := h
  refine ⟨_, (pss_one (ps_ret (pe_cmpR op_eq (pe_callB (cr_repr (n := 70) (hu_n1 hr) hG) (by rfl) Z.repr (by decide +kernel) (pa_cons (pe_lst (pa_cons (pv 0) pa_nil)) pa_nil)) (pe_callB (cr_repr (n := 70) (hu_n1 hr) hG) (by rfl) Z.repr (by decide +kernel) (pa_cons (pe_lst (pa_cons (pv 1) pa_nil)) pa_nil)) (nomark _)))), ?_⟩
  obtain ⟨z1, z2, z3, z4⟩ := small_show ha hb hc
  dsimp only [tRet, tOp, tCB, tCons]
  refine ⟨_, rfl, (by show 1 ≤ sizeLine; decide), fun l1 n1 => ?_⟩
  refine ⟨l1, _, rfl, Dp.lst (SqL.mk upd_same) (.cons (dp_same (Same.new n1) _ _ hp) .nil), z1, z2, z3, z4, ?_⟩
  refine ⟨_, rfl, (by show 1 ≤ sizeLine; decide), fun l2 n2 => ?_⟩
  refine ⟨l2, _, rfl, Dp.lst (SqL.mk upd_same) (.cons (dp_same ((Same.new n1).trans (Same.new n2)) _ _ hq) .nil), z1, z2, z3, z4, ?_⟩
  have e := k _ ((Same.new (o := .lst [.ref p]) n1).trans (Same.new (o := .lst [.ref q]) n2))
  refine ⟨rfl, ?_⟩
  rw [decide_eq_true rfl]
  exact e
def spAgr (K : PySem.W.Frag) : Sp := fun vs H Q _ => ∃ (g : Addr) (sg : Sg) (v v' : V) (t t' : Tr), vs = [.ref g, v, v'] ∧ SgAt K H g sg ∧ GSg sg ∧ TrAt K H t v ∧ TrAt K H t' v' ∧ Wf sg [] t ∧ Wf sg [] t' ∧ t.dep ≤ 120 ∧ t'.dep ≤ 120 ∧ t.size ≤ 1000 ∧ t'.size ≤ 1000 ∧ ∀ H', Same H H' → Q (.bl true) H'
abbrev s_agr : Stmt := top 17
abbrev N_agr : List Str := ["signs", "first", "second", "one", "other", "due", "told"]
abbrev P_agr : List Str := ["signs", "first", "second"]
theorem sc_agr : FnScope N_agr P_agr (defScope s_agr) := ⟨rfl, rfl, rfl, by decide +kernel, rfl, by decide +kernel, by decide +kernel⟩

theorem ok_agr {fS : Addr} {fdS : FuncData} (F : FnP K "_law_agrees" s_agr f fd) (FS : FnP K "_law_same" s_same fS fdS) (m_same : mg "_law_same" = some (.ref fS)) (Z : Zs mg)
    (c_key : Cal P w K mg base 122 "_law_key" (spKey K 120) []) (c_copy : Cal P w K mg base 121 "_law_copy" (spCopy K 120) []) (c_cmp : Cal P w K mg base 8 "compare_trees" (spCmp K) []) : FnG P w K mg base 126 f fd ["signs", "first", "second"] (spAgr K) := by
  have G_same : FnG P w K mg base 1 fS fdS ["told", "due"] (spSame K) := ok_same FS Z
  have kp_same := FS.kp
  have b_same : Binds K fdS ["told", "due"] [] := FS.bindsN (fun _ _ _ _ _ _ us hl => match us, hl with | [_, _], _ => rfl)
  refine mk_fng F sc_agr (fun vs H Q E h => ?_) (fun cdv A outer s H vs Q hG hr h => ?_)
  · obtain ⟨g, sg, v, v', t, t', rfl, _⟩ := h
    rfl
  obtain ⟨g, sg, v, v', t, t', rfl, hsg, gs, ht, ht', hwf, hwf', hd, hd', hz, hz', k⟩ := h
  refine ⟨_, (pss_cons (ps_set (i := 3) sc_agr.nd rfl (by first | exact Or.inl rfl | exact Or.inr rfl) (C8.pe_c c_key hr (by first | decide | omega) rfl (pa_cons (pv 0) (pa_cons (pv 1) pa_nil))))
      (pss_cons (ps_set (i := 4) sc_agr.nd rfl (by first | exact Or.inl rfl | exact Or.inr rfl) (C8.pe_c c_key hr (by first | decide | omega) rfl (pa_cons (pv 0) (pa_cons (pv 2) pa_nil))))
      (pss_cons (ps_set (i := 5) sc_agr.nd rfl (by first | exact Or.inl rfl | exact Or.inr rfl) (pe_op op_sub (pe_callTy call_int1 (by rfl) Z.int (by decide +kernel) (pa_cons (pe_cmpR (op_gtD (n := 120) (hu_n hr (by decide))) (pv 3) (pv 4) (nomark _)) pa_nil)) (pe_callTy call_int1 (by rfl) Z.int (by decide +kernel) (pa_cons (pe_cmpR (op_ltD (n := 120) (hu_n hr (by decide))) (pv 3) (pv 4) (nomark _)) pa_nil))))
      (pss_cons (ps_set (i := 6) sc_agr.nd rfl (by first | exact Or.inl rfl | exact Or.inr rfl) (C8.pe_c c_cmp hr (by first | decide | omega) rfl (pa_cons (pv 0) (pa_cons (pv 1) (pa_cons (pv 2) pa_nil)))))
      (pss_one (ps_ret (pe_callG G_same hG (hr.mono (by decide)) (by rfl) m_same kp_same b_same (pa_cons (pe_lst (pa_cons (pv 6) (pa_cons (C8.pe_c c_cmp hr (by first | decide | omega) rfl (pa_cons (pv 0) (pa_cons (pv 2) (pa_cons (pv 1) pa_nil)))) (pa_cons (C8.pe_c c_cmp hr (by first | decide | omega) rfl (pa_cons (pv 0) (pa_cons (pv 1) (pa_cons (C8.pe_c c_copy hr (by first | decide | omega) rfl (pa_cons (pv 1) pa_nil)) pa_nil)))) pa_nil)))) (pa_cons (pe_lst (pa_cons (pv 5) (pa_cons (pe_op op_sub pe_int (pv 5)) (pa_cons pe_int pa_nil)))) pa_nil))))))))), ?_⟩
  refine ⟨_, rfl, _, rfl, g, sg, v, t, rfl, hsg, gs, ht, hwf, hd, fun k1 H1 sm1 d1 => ?_⟩
  have tk1 := TK.same (K := K) sm1
  refine ⟨_, rfl, _, rfl, g, sg, v', t', rfl, hsg.keep tk1, gs, ht'.keep tk1, hwf', hd', fun k2 H2 sm2 d2 => ?_⟩
  have sm := sm1.trans sm2
  have tk := TK.same (K := K) sm
  have d1' := dp_same sm2 _ _ d1
  have dep1 := key_dep sg t hwf.pl
  refine ⟨_, rfl, _, rfl, keyD sg t, keyD sg t', d1', d2, key_alike sg t t' hwf.pl hwf'.pl, key_non sg hwf.pl, Nat.le_trans (Nat.min_le_left _ _) (by omega), .inr ⟨_, rfl, ?_⟩⟩
  refine ⟨_, rfl, _, rfl, keyD sg t, keyD sg t', d1', d2, key_alike sg t t' hwf.pl hwf'.pl, key_non sg hwf.pl, Nat.le_trans (Nat.min_le_left _ _) (by omega), .inr ⟨_, rfl, ?_⟩⟩
  refine ⟨_, _, rfl, rfl, ?_⟩
  obtain ⟨td1, td2⟩ := told_due gs hwf hwf'
  obtain ⟨te1, te2⟩ := told_due gs hwf' hwf
  obtain ⟨tf1, tf2⟩ := told_due gs hwf hwf
  refine ⟨_, rfl, _, rfl, _, rfl, g, sg, v, v', t, t', rfl, hsg.keep tk, gs, ht.keep tk, ht'.keep tk, hwf, hwf', hz, hz', fun H3 sm3 => ?_⟩
  have tk3 := TK.same (K := K) (sm.trans sm3)
  refine ⟨_, rfl, _, rfl, _, rfl, _, rfl, g, sg, v', v, t', t, rfl, hsg.keep tk3, gs, ht'.keep tk3, ht.keep tk3, hwf', hwf, hz', hz, fun H4 sm4 => ?_⟩
  have tk4 := TK.same (K := K) ((sm.trans sm3).trans sm4)
  refine ⟨_, rfl, _, rfl, _, rfl, v, t, rfl, ht.keep tk4, hwf.pl, hd, fun v5 H5 sm5 ht5 => ?_⟩
  have sm5' := (((sm.trans sm3).trans sm4).trans sm5)
  have tk5 := TK.same (K := K) sm5'
  refine ⟨g, sg, v, v5, t, t, rfl, hsg.keep tk5, gs, ht.keep tk5, ht5, hwf, hwf, hz, hz, fun H6 sm6 => ?_⟩
  refine ⟨(by show 3 ≤ sizeLine; decide), fun p np => ?_⟩
  refine ⟨_, rfl, _, rfl, _, _, rfl, rfl, (by show 3 ≤ sizeLine; decide), fun q nq => ?_⟩
  have eb := te1.trans (sub_swap _ _)
  have ec := tf1.trans (Int.sub_self _)
  refine ⟨p, q, cmpN sg t t', cmpN sg t' t, cmpN sg t t, rfl, .lst (SqL.mk (by rw [upd_ne (ne_of_none upd_same nq)]; exact upd_same)) (.cons (.int _) (.cons (.int _) (.cons (.int _) .nil))), ?_, td2, te2, tf2, fun H' sm' => k H' (((sm5'.trans sm6).trans ((Same.new np).trans (Same.new nq))).trans sm')⟩
  rw [td1, eb, ec]
  exact .lst (SqL.mk upd_same) (.cons (.int _) (.cons (.int _) (.cons (.int _) .nil)))
end
end K01

set_option Elab.async false
set_option linter.all false
set_option maxRecDepth 100000
set_option maxHeartbeats 4000000
namespace K01
open PySem PySem.Spec PyProof.Rows L2 Pg
/-- t[:1] + t[1:] -/
theorem rd_again {K : PySem.W.Frag} {σ : L2.St} {H : Hp} {Q : VK} {p : Addr} {us : List V} {x : V} {i : Nat} (hi : σ[i]? = some (some (.ref p))) (hS : SqT K H p (x :: us)) (hl : us.length ≤ 100) (h : ∀ q H', Same H H' → SqT K H' q (x :: us) → Q (.ref q) H') :
    tOp (rCatA K) (tSl (rSlA K) (tVar i) tNoPart (tPart (tC (.int 1)))) (tSl (rSlA K) (tVar i) (tPart (tC (.int 1))) tNoPart) σ H Q := by
  have second : ∀ q H1, Same H H1 → SqT K H1 q [x] → tSl (rSlA K) (tVar i) (tPart (tC (.int 1))) tNoPart σ H1 fun y H2 => rCatA K (.ref q) y H2 Q := fun q H1 s1 hq =>
    ⟨_, hi, 1, rfl, p, _, rfl, (TK.same s1) _ _ hS, fun z => tail_no z, fun _ g ng => by
      rw [tail_cut]
      exact rd_catA ((TK.new ng) _ _ hq) (SqT.mk upd_same) (by simp) (by rw [List.length_singleton]; omega) fun p2 H3 s3 h3 => h p2 H3 (s1.trans ((Same.new ng).trans s3)) h3⟩
  refine ⟨_, hi, 1, rfl, p, _, rfl, hS, fun z => ?_, fun _ g ng => ?_⟩
  · have h2 := z.2
    have e1 : HT.sIx (x :: us).length (x :: us).length (some ((1 : Nat) : Int)) = min 1 (x :: us).length := HT.sIx_nat _ _ _
    rw [show ((1 : Nat) : Int) = 1 from rfl, h2, List.length_cons] at e1
    have e0 : us = [] := List.length_eq_zero_iff.mp (by omega)
    subst e0
    exact second p H (Same.refl H) hS
  · have e2 : cutV (x :: us) none (some 1) = [x] := cut_to (k := 1) rfl
    rw [e2]
    exact second g _ (Same.new ng) (SqT.mk upd_same)
section
variable {P : Program} {w : World} {K : PySem.W.Frag} {mg : Str → Option Value} {base : Heap} {f : Addr} {fd : FuncData}
def spLaw (K : PySem.W.Frag) : Sp := fun vs H Q _ => ∃ (a : Addr) (ns : List Int), vs = [.ref a] ∧ SqL K H a (ns.map V.int) ∧ ns.length ≤ 63 ∧ ∀ H', Q (.bl true) H'
abbrev s_law : Stmt := top 18
abbrev N_law : List Str := ["script", "state", "signs", "first", "second", "third", "sign", "arity", "many", "one", "other"]
abbrev P_law : List Str := ["script"]
theorem sc_law : FnScope N_law P_law (defScope s_law) := ⟨rfl, rfl, rfl, by decide +kernel, rfl, by decide +kernel, by decide +kernel⟩

theorem ok_law {fA : Addr} {fdA : FuncData} (F : FnP K "law" s_law f fd) (FA : FnP K "_law_agrees" s_agr fA fdA) (m_agr : mg "_law_agrees" = some (.ref fA)) (Z : Zs mg)
    (G_agr : FnG P w K mg base 126 fA fdA ["signs", "first", "second"] (spAgr K))
    (c_stream : Cal P w K mg base 1 "_law_stream" (spStream K) []) (c_next : Cal P w K mg base 1 "_law_next" spNext []) (c_signs : Cal P w K mg base 3 "_law_signs" (spSigns K) []) (c_term : Cal P w K mg base 62 "_law_term" (spTerm K 60) [])
    (c_chg : Cal P w K mg base 66 "_law_changed" (spChg K 60) []) (c_row : Cal P w K mg base 1 "_law_row" (spRow K) []) (c_size : Cal P w K mg base 61 "_law_size" (spSize K 60) []) : FnG P w K mg base 132 f fd ["script"] (spLaw K) := by
  have kp_agr := FA.kp
  have b_agr : Binds K fdA ["signs", "first", "second"] [] := FA.bindsN (fun _ _ _ _ _ _ us hl => match us, hl with | [_, _, _], _ => rfl)
  refine mk_fng F sc_law (fun vs H Q E h => ?_) (fun cdv A outer s H vs Q hG hr h => ?_)
  · obtain ⟨a, ns, rfl, _⟩ := h
    rfl
  obtain ⟨a0, zs, rfl, hS0, h63, q⟩ := h
  refine ⟨_, (pss_cons (ps_set (i := 1) sc_law.nd rfl (by first | exact Or.inl rfl | exact Or.inr rfl) (pe_lst (pa_cons (C8.pe_c c_stream hr (by first | decide | omega) rfl (pa_cons (pv 0) pa_nil)) (pa_cons pe_int pa_nil))))
      (pss_cons (ps_set (i := 2) sc_law.nd rfl (by first | exact Or.inl rfl | exact Or.inr rfl) (C8.pe_c c_signs hr (by first | decide | omega) rfl (pa_cons (pv 1) (pa_cons (pe_op op_add pe_int (C8.pe_c c_next hr (by first | decide | omega) rfl (pa_cons (pv 1) (pa_cons pe_int pa_nil)))) pa_nil))))
      (pss_cons (ps_set (i := 3) sc_law.nd rfl (by first | exact Or.inl rfl | exact Or.inr rfl) (C8.pe_c c_term hr (by first | decide | omega) rfl (pa_cons (pv 1) (pa_cons (pv 2) (pa_cons (pe_lst pa_nil) (pa_cons (pe_op op_add pe_int (C8.pe_c c_next hr (by first | decide | omega) rfl (pa_cons (pv 1) (pa_cons pe_int pa_nil)))) pa_nil))))))
      (pss_cons (ps_set (i := 4) sc_law.nd rfl (by first | exact Or.inl rfl | exact Or.inr rfl) (C8.pe_c c_chg hr (by first | decide | omega) rfl (pa_cons (pv 1) (pa_cons (pv 2) (pa_cons (pv 3) pa_nil)))))
      (pss_cons (ps_set (i := 5) sc_law.nd rfl (by first | exact Or.inl rfl | exact Or.inr rfl) (C8.pe_c c_term hr (by first | decide | omega) rfl (pa_cons (pv 1) (pa_cons (pv 2) (pa_cons (pe_lst pa_nil) (pa_cons (pe_op op_add pe_int (C8.pe_c c_next hr (by first | decide | omega) rfl (pa_cons (pv 1) (pa_cons pe_int pa_nil)))) pa_nil))))))
      (pss_cons (ps_if (PW.pt (pw_or (pt_not (pt_val (pe_callG G_agr hG (hr.mono (by decide)) (by rfl) m_agr kp_agr b_agr (pa_cons (pv 2) (pa_cons (pv 3) (pa_cons (pv 4) pa_nil)))))) (pw_or1 (pt_not (pt_val (pe_callG G_agr hG (hr.mono (by decide)) (by rfl) m_agr kp_agr b_agr (pa_cons (pv 2) (pa_cons (pv 5) (pa_cons (pv 4) pa_nil))))))))) (pss_one (ps_ret pe_bl)) pss_nil)
      (pss_cons (ps_for PassesOwn.never rfl (pi_tup (pv 2)) (pg_tup rfl (pgs_cons (pg_name (i := 6) sc_law.nd rfl (by first | exact Or.inl rfl | exact Or.inr rfl)) (pgs_cons (pg_name (i := 7) sc_law.nd rfl (by first | exact Or.inl rfl | exact Or.inr rfl)) pgs_nil))) (pss_one (ps_if (pt_cmpR op_gt (pv 7) pe_int (nomark _)) (pss_cons (ps_set (i := 8) sc_law.nd rfl (by first | exact Or.inl rfl | exact Or.inr rfl) (pe_ix ix_list (pe_lst (pa_cons (C8.pe_c c_next hr (by first | decide | omega) rfl (pa_cons (pv 1) (pa_cons pe_int pa_nil))) (pa_cons (pe_op op_add pe_int (C8.pe_c c_next hr (by first | decide | omega) rfl (pa_cons (pv 1) (pa_cons pe_int pa_nil)))) pa_nil))) (C8.pe_c c_next hr (by first | decide | omega) rfl (pa_cons (pv 1) (pa_cons pe_int pa_nil))) (fun _ _ => rfl)))
      (pss_cons (ps_set (i := 9) sc_law.nd rfl (by first | exact Or.inl rfl | exact Or.inr rfl) (C8.pe_c c_row hr (by first | decide | omega) rfl (pa_cons (pv 2) (pa_cons (pv 6) (pa_cons (pv 7) (pa_cons (pv 8) (pa_cons (pe_op op_catA (pe_slice sl_tupA (pv 5) po_none (po_some pe_int)) (pe_slice sl_tupA (pv 5) (po_some pe_int) po_none)) pa_nil)))))))
      (pss_cons (ps_set (i := 10) sc_law.nd rfl (by first | exact Or.inl rfl | exact Or.inr rfl) (C8.pe_c c_row hr (by first | decide | omega) rfl (pa_cons (pv 2) (pa_cons (pv 6) (pa_cons (pv 7) (pa_cons (pv 8) (pa_cons (C8.pe_c c_chg hr (by first | decide | omega) rfl (pa_cons (pv 1) (pa_cons (pv 2) (pa_cons (pv 5) pa_nil)))) pa_nil)))))))
      (pss_one (ps_if (PW.pt (pw_and (pt_cmpR op_lt (pe_op op_add (pv 8) (C8.pe_c c_size hr (by first | decide | omega) rfl (pa_cons (pv 5) pa_nil))) pe_int (nomark _)) (pw_and1 (pt_not (pt_val (pe_callG G_agr hG (hr.mono (by decide)) (by rfl) m_agr kp_agr b_agr (pa_cons (pv 2) (pa_cons (pv 9) (pa_cons (pv 10) pa_nil))))))))) (pss_one (ps_ret pe_bl)) pss_nil))))) pss_nil)))
      (pss_one (ps_ret pe_bl))))))))), ?_⟩
  refine ⟨_, rfl, a0, zs, rfl, hS0, h63, fun n ns H1 nn0 sm1 hn hne hlen hin => ?_⟩
  refine ⟨(by show 2 ≤ sizeLine; decide), fun a na => ?_⟩
  have nna : n ≠ a := ne_of_none hn na
  have s0 : StA (upd H1 a (.lst [.ref n, .int 0])) a n 0 := ⟨ns, 0, upd_same, by rw [upd_ne nna]; exact hn, nna, hne, hlen, hin, Int.le_refl _, Int.le_refl _⟩
  generalize upd H1 a (.lst [.ref n, .int 0]) = Ha at s0 ⊢
  refine ⟨_, rfl, _, rfl, a, n, 4, 0, rfl, by decide, s0, by omega, fun r H2 r0 r1 f2 s2 => ?_⟩
  refine ⟨_, _, rfl, rfl, a, n, _, _, rfl, s2, by omega, by omega, by omega, fun g sg H3 hsg gs f3 s3 => ?_⟩
  -- first
  refine ⟨_, rfl, _, rfl, by decide, fun l nl => ?_⟩
  have hsg4 := hsg.keep (TK.new (o := .lst []) nl)
  refine ⟨_, rfl, a, n, 60, _, rfl, by decide, s3.new nl, by omega, fun r4 H4 u0 u1 f4 s4 => ?_⟩
  refine ⟨_, _, rfl, rfl, a, n, g, l, sg, [], 1 + r4, _, rfl, s4, by omega, hsg4.keep ((s3.new nl).tk f4), gs, SqL.mk (f4 _ _ (s3.ne nl).1 upd_same), (s3.ne nl).1, by decide, by omega, by omega, fun v1 t1 H5 ht1 hw1 hz1 f5 s5 => ?_⟩
  have hsg5 : SgAt K H5 g sg := (hsg4.keep ((s3.new nl).tk f4)).keep (s4.tk f5)
  have z1 : t1.size ≤ 60 := by omega
  have dz1 := t1.dep_le
  -- second
  refine ⟨_, rfl, _, rfl, _, rfl, a, n, g, sg, v1, t1, _, rfl, s5, by omega, hsg5, gs, ht1, hw1, by omega, fun v2 t2 H6 ht2 hw2 hd2 hz2 f6 s6 => ?_⟩
  have tk6 := s5.tk (K := K) f6
  -- third
  refine ⟨_, rfl, _, rfl, by decide, fun l2 nl2 => ?_⟩
  have tkl2 := TK.new (K := K) (o := .lst []) nl2
  refine ⟨_, rfl, a, n, 12, _, rfl, by decide, s6.new nl2, by omega, fun r7 H7 x0 x1 f7 s7 => ?_⟩
  have tk7 := (s6.new (o := .lst []) nl2).tk (K := K) f7
  refine ⟨_, _, rfl, rfl, a, n, g, l2, sg, [], 1 + r7, _, rfl, s7, by omega, ((hsg5.keep tk6).keep tkl2).keep tk7, gs, SqL.mk (f7 _ _ (s6.ne nl2).1 upd_same), (s6.ne nl2).1, by decide, by omega, by omega, fun v3 t3 H8 ht3 hw3 hz3 f8 s8 => ?_⟩
  have tk68 : TK K H6 H8 := tkl2.trans (tk7.trans (s7.tk f8))
  have z3 : t3.size ≤ 12 := by omega
  have dz3 := t3.dep_le
  have sC : StA H8 a n 600 := s8.mono (by omega)
  have hsg8 := (hsg5.keep tk6).keep tk68
  have ht18 := TrAt.keep (tk6.trans tk68) ht1
  have ht28 := TrAt.keep tk68 ht2
  -- the first two comparisons
  refine ⟨_, rfl, _, rfl, _, rfl, g, sg, v1, v2, t1, t2, rfl, hsg8, gs, ht18, ht28, hw1, hw2, by omega, by omega, by omega, by omega, fun H9 sm9 => ⟨true, rfl, ?_⟩⟩
  refine ite2 (fun h => absurd h (by decide)) (fun _ => ?_)
  have tk9 := TK.same (K := K) sm9
  refine ⟨_, rfl, _, rfl, _, rfl, g, sg, v3, v2, t3, t2, rfl, hsg8.keep tk9, gs, TrAt.keep tk9 ht3, TrAt.keep tk9 ht28, hw3, hw2, by omega, by omega, by omega, by omega, fun H10 sm10 => ⟨true, rfl, ?_⟩⟩
  refine ite2 (fun h => absurd h (by decide)) (fun _ => ?_)
  have sm810 := sm9.trans sm10
  have tk10 := TK.same (K := K) sm810
  have s10 := sC.same sm810
  have hsg10 := hsg8.keep tk10
  have ht310 := TrAt.keep tk10 ht3
  obtain ⟨rs, hS, pr⟩ := hsg10.ex
  clear f2 s2 f3 s3 nl hsg4 f4 s4 f5 s5 tk6 f6 s6 nl2 tkl2 f7 s7 tk7 f8 s8 tk68
  refine ⟨_, rfl, g, rfl, ⟨_, hS⟩, for_tup (K := K) (a := g) (xs := rs.map V.ref) (fun i σ H' => ∃ (o6 o7 o8 o9 o10 : Option V), σ = [some (.ref a0), some (.ref a), some (.ref g), some v1, some v2, some v3, o6, o7, o8, o9, o10] ∧ StA H' a n (600 + 100 * (i : Int)) ∧ TK K H10 H')
    ⟨none, none, none, none, none, rfl, s10.mono (by omega), TK.refl⟩ (fun i σ H' _ ⟨_, _, _, _, _, _, _, tk⟩ => tk _ _ hS) ?_ ?_⟩
  · rintro i x σ Hc hx ⟨o6, o7, o8, o9, o10, rfl, sc, tk⟩
    rw [List.getElem?_map] at hx
    obtain ⟨rr, er, rfl⟩ : ∃ rr, rs[i]? = some rr ∧ V.ref rr = x := by
      cases e : rs[i]? with
      | none => rw [e] at hx; cases hx
      | some z => rw [e] at hx; exact ⟨z, rfl, Option.some.inj hx⟩
    obtain ⟨s0, es, hrr⟩ := Pg.paired_get pr er
    have hmem := List.mem_of_getElem? es
    have hi : i < sg.length := (List.getElem?_eq_some_iff.mp es).1
    have g4 := gs.len
    refine ⟨rr, _, rfl, tk _ _ hrr, rfl, _, _, rfl, _, _, rfl, rfl, ?_⟩
    refine ⟨_, rfl, _, _, rfl, rfl, _, rfl, ite2 (fun hpos => ?_) (fun _ => ?_)⟩
    · have hpos := of_decide_eq_true hpos
      have har := gs.ar _ hmem
      refine ⟨_, rfl, a, n, 9, _, rfl, by decide, sc, by omega, fun r1 H11 r10 r11 f11 s11 => ?_⟩
      refine ⟨_, rfl, a, n, 36, _, rfl, by decide, s11, by omega, fun r2 H12 r20 r21 f12 s12 => ?_⟩
      refine ⟨_, _, rfl, rfl, (by show 2 ≤ sizeLine; decide), fun l nl => ?_⟩
      refine ⟨_, rfl, a, n, 2, _, rfl, by decide, s12.new nl, by omega, fun r3 H13 r30 r31 f13 s13 => ?_⟩
      obtain ⟨many, hat, m0, m1⟩ : ∃ many : Int, atI [V.int r1, V.int (60 + r2)] r3 = some (.int many) ∧ 0 ≤ many ∧ many ≤ 95 := by
        rcases (by omega : r3 = 0 ∨ r3 = 1) with rfl | rfl
        · exact ⟨r1, rfl, by omega, by omega⟩
        · exact ⟨60 + r2, rfl, by omega, by omega⟩
      refine ⟨l, _, r3, _, rfl, rfl, SqL.mk (f13 _ _ (s12.ne nl).1 upd_same), hat, ?_⟩
      have tk13 : TK K H10 H13 := tk.trans ((sc.tk f11).trans ((s11.tk f12).trans ((TK.new nl).trans ((s12.new (o := .lst [.int r1, .int (60 + r2)]) nl).tk f13))))
      have sg13 := hsg10.keep tk13
      have ht13 := TrAt.keep tk13 ht310
      obtain ⟨p3, us, rfl, hT, hk⟩ := ht13.open_ hw3.pl
      have hul := paired_len hk
      have hkl := t3.kids_le
      -- one
      refine ⟨_, rfl, _, rfl, _, rfl, _, rfl, rd_again (i := 5) rfl hT (by omega) (fun q3 H14 sm14 hT14 => ?_)⟩
      have tk14 := TK.same (K := K) sm14
      have htq : TrAt K H14 t3 (.ref q3) := TrAt.mk hw3.pl hT14 (hk.keep tk14)
      refine ⟨g, sg, s0.1, s0.2, many, _, t3, rfl, sg13.keep tk14, gs, hmem, by omega, m0, by omega, htq, hw3, fun v4 t4 H15 ht4 hw4 hd4 hz4 sm15 => ?_⟩
      have sm1315 := sm14.trans sm15
      have s15 := s13.same sm1315
      have tk15 := TK.same (K := K) sm1315
      -- other
      refine ⟨_, rfl, _, rfl, _, rfl, _, rfl, _, rfl, _, rfl, _, rfl, a, n, g, sg, _, t3, _, rfl, s15, by omega, sg13.keep tk15, gs, TrAt.keep tk15 ht13, hw3, by omega, fun v5 t5 H16 ht5 hw5 hd5 hz5 f16 s16 => ?_⟩
      have tk16 := s15.tk (K := K) f16
      refine ⟨g, sg, s0.1, s0.2, many, _, t5, rfl, (sg13.keep tk15).keep tk16, gs, hmem, by omega, m0, by omega, ht5, hw5, fun v6 t6 H17 ht6 hw6 hd6 hz6 sm17 => ?_⟩
      have tk17 := TK.same (K := K) sm17
      have s17 := s16.same sm17
      have tkE := tk15.trans (tk16.trans tk17)
      refine ⟨_, rfl, _, rfl, _, t3, rfl, TrAt.keep tkE ht13, hw3.pl, by omega, fun H18 sm18 => ?_⟩
      have tk18 := TK.same (K := K) sm18
      have s18 := s17.same sm18
      refine ⟨_, _, rfl, rfl, _, _, rfl, rfl, _, rfl, ite2 (fun _ => ?_) (fun _ => ?_)⟩
      · refine ⟨_, rfl, _, rfl, _, rfl, g, sg, v4, v6, t4, t6, rfl, (sg13.keep tkE).keep tk18, gs, TrAt.keep (tk16.trans (tk17.trans tk18)) ht4, TrAt.keep tk18 ht6, hw4, hw6, by omega, by omega, by omega, by omega, fun H19 sm19 => ⟨true, rfl, ?_⟩⟩
        refine ite2 (fun h => absurd h (by decide)) (fun _ => ?_)
        exact ⟨_, _, _, _, _, rfl, (s18.same sm19).mono (by omega), tk13.trans (tkE.trans (tk18.trans (TK.same sm19)))⟩
      · refine ite2 (fun h => absurd h (by decide)) (fun _ => ?_)
        exact ⟨_, _, _, _, _, rfl, s18.mono (by omega), tk13.trans (tkE.trans tk18)⟩
    · exact ⟨_, _, _, _, _, rfl, sc.mono (by omega), tk⟩
  · rintro σ H2 ⟨o6, o7, o8, o9, o10, rfl, _, _⟩
    exact q H2
end
end K01

set_option Elab.async false
set_option linter.all false
set_option maxRecDepth 100000
set_option maxHeartbeats 0
namespace Pg
open PySem PySem.Spec PyProof.Rows L2
/-- the law's def is called from outside, where no repr is under way: its promise over the heap in which the script alone is tracked -/
theorem law_callG {P : Program} {w : World} {K : PySem.W.Frag} {mg mb : Str → Option Value} {k : Nat} {fa a : Addr} {fd : FuncData} {x : Str} {sp : Sp} {s₁ : Shared} {vs : List Value} {ns : List Int}
    (KX : K.In s₁.heap) (hns : s₁.heap.Ns mainGlobals mg) (hb : s₁.heap.Ns builtinsNs mb) (hbb : ∀ x : Str, x ≠ "__name__" → mb x = bootBuiltins x) (hlim : s₁.heap.NoLimit) (hg : s₁.gens = #[])
    (ha : s₁.heap.get? a = some { cls := .type "list", data := .seq vs.toArray }) (hi : IntsAre vs ns) (hl : ns.length ≤ sizeLine) (hr : Room k callerA) (hgd : callerA.guards = some [])
    (F : ∀ base : Heap, K.In base → base.Ns mainGlobals mg → FnG P w K mg base k fa fd [x] sp) (hbind : ∀ (s : Shared) (u : Value), BindsTo s fd ⟨[u], []⟩ [(x, u)])
    (hsp : ∀ H : Hp, SqL K H a (ns.map V.int) → sp [.ref a] H (fun v _ => v = .bl true) E0) :
    codeAny (model P w) callerA (.call (.ref fa) ⟨[.ref a], []⟩) (fun r s' => r = .ok (.ret (.bool true)) ∧ OldK s₁.heap s'.heap ∧ s'.os = s₁.os ∧ AllBare s'.gens) s₁ := by
  have rv := vals_ints hi
  obtain ⟨H, own, hS, hok⟩ : ∃ H : Hp, (∀ b u, H b = some u → b = a ∧ K.lookup a = none ∧ ∃ ob xs, u = .frz ob (.lst xs)) ∧ SqL K H a (ns.map V.int) ∧ HOk P w H s₁.heap := by
    cases hk : K.lookup a with
    | some o =>
      have e := (KX a o hk).symm.trans ha
      cases e
      exact ⟨fun _ => none, fun b u z => (by cases z), .inr ⟨_, vs.toArray, _, hk, rfl, rfl, rfl, by rw [List.size_toArray, hi.length]; exact hl, by simpa using rv⟩, fun b u z => by cases (show (none : Option HO) = some u from z)⟩
    | none =>
      refine ⟨upd (fun _ => none) a (.frz { cls := .type "list", data := .seq vs.toArray } (.lst (ns.map V.int))), fun b u z => ?_, .inl (.inr ⟨_, upd_same⟩), fun b u z => ?_⟩
      · by_cases e : b = a
        · subst e
          rw [upd_same] at z
          exact ⟨rfl, rfl, _, _, (Option.some.inj z).symm⟩
        · rw [upd_ne e] at z
          cases z
      · by_cases e : b = a
        · subst e
          rw [upd_same] at z
          cases z
          exact ⟨ha, by rw [List.length_map]; exact hl, vs, _, rv, ha⟩
        · rw [upd_ne e] at z
          cases z
  have stay : ∀ {b : Addr} {o : Obj}, s₁.heap.get? b = some o → H b = none → (hidT s₁.heap H).get? b = some o := fun e z => hidT_get e z
  have ofK : ∀ {b : Addr} {o : Obj}, K.lookup b = some o → H b = none := fun {b o} e => by
    cases z : H b with
    | none => rfl
    | some u =>
      obtain ⟨rfl, h2, _⟩ := own b u z
      rw [h2] at e
      cases e
  have ofD : ∀ {b : Addr} {o : Obj} {es : Array DictEntry} {ep : Nat}, s₁.heap.get? b = some o → o.data = .dict es ep → H b = none := fun {b o es ep} e d => by
    cases z : H b with
    | none => rfl
    | some u =>
      obtain ⟨rfl, _, _⟩ := own b u z
      rw [ha] at e
      cases e
      cases (show Data.seq vs.toArray _ = Data.dict es ep from d)
  have names : ∀ {b : Addr} {m : Str → Option Value}, s₁.heap.Ns b m → (hidT s₁.heap H).Ns b m := fun ⟨o, es, ep, e, d, r⟩ => ⟨o, es, ep, stay e (ofD e d), d, r⟩
  have inK : K.In (hidT s₁.heap H) := fun b o e => stay (KX b o e) (ofK e)
  have hM : Mod K mg (hidT s₁.heap H) := ⟨inK, names hns, ⟨mb, names hb, hbb⟩, let ⟨mc, h1, h2⟩ := hlim; ⟨mc, names h1, h2⟩⟩
  have e0 : Env0 P w K mg (hidT s₁.heap H) callerA [] s₁ H := ⟨rfl, hM, fun b o e => of_hidT e, Nat.le_of_eq (hidT_size _ _), trivial, fun b hb => absurd (show b ∈ ([] : List Addr) from hb) (by simp), hok, .of_eq hg⟩
  refine codeAny_mono ((F _ inK (names hns)).run callerA [] s₁ H ⟨[.ref a], []⟩ [.ref a] [.ref a] _ hgd hr e0 (hbind s₁ (.ref a)) (.cons rfl .nil) (hsp H hS)) fun r s' h => ?_
  cases r with
  | error e => exact (show False from h).elim
  | ok fl =>
    cases fl with
    | next => exact False.elim h
    | brk => exact False.elim h
    | cont => exact False.elim h
    | ret u =>
      obtain ⟨v, H', os, bare, un, hok', r', q⟩ := h
      obtain rfl : v = .bl true := q
      obtain rfl : u = Value.bool true := r'
      refine ⟨rfl, OldK.of_keep fun b o e => ?_, os, bare⟩
      cases z : H b with
      | none => exact un.keep b o e z (by intro y; exact absurd (show b ∈ ([] : List Addr) from y) (by simp)) (by simp)
      | some u =>
        obtain ⟨_, _, ob, xs, rfl⟩ := own b u z
        have e1 := (hok b _ z).1
        have e2 := (hok' b _ (un.frzs b ob _ z)).1
        rw [e] at e1
        cases e1
        exact e2
end Pg

set_option Elab.async false
set_option linter.all false
set_option maxRecDepth 100000
set_option maxHeartbeats 0
namespace Pg
open PySem PySem.Spec PyProof.Rows L2 LamX NdefX
abbrev noCodes : Obj := { cls := .none, data := .fields #[] }
/-- law_callG, where defs of the program make lambdas: js, their code objects and tables -/
theorem law_callTG {P : Program} {w : World} {K : PySem.W.Frag} {mg mb : Str → Option Value} {k : Nat} {fa a : Addr} {js : List (Addr × Addr)} {fd : FuncData} {x : Str} {sp : Sp} {s₁ : Shared} {vs : List Value} {ns : List Int}
    (KX : K.In s₁.heap) (hns : s₁.heap.Ns mainGlobals mg) (hb : s₁.heap.Ns builtinsNs mb) (hbb : ∀ x : Str, x ≠ "__name__" → mb x = bootBuiltins x) (hlim : s₁.heap.NoLimit) (hg : s₁.gens = #[])
    (tabs : ∀ j ∈ js, s₁.heap.get? j.2 = some noCodes ∧ K.lookup j.2 = none ∧ PySem.W.codeHdIn K j.1 j.2 = true)
    (hmod : ∃ (bm : Addr) (ob : Obj), mg "__builtins__" = some (.ref bm) ∧ bm ≠ builtinsNs ∧ s₁.heap.get? bm = some ob ∧ ob.cls = .type "module" ∧ ob.dict = some builtinsNs ∧ ob.data = .plain)
    (ha : s₁.heap.get? a = some { cls := .type "list", data := .seq vs.toArray }) (hi : IntsAre vs ns) (hl : ns.length ≤ sizeLine) (hr : Room k callerA) (hgd : callerA.guards = some [])
    (F : ∀ base : Heap, K.In base → base.Ns mainGlobals mg → (∀ j ∈ js, TabB base mg j.1 j.2) → FnG P w K mg base k fa fd [x] sp) (hbind : ∀ (s : Shared) (u : Value), BindsTo s fd ⟨[u], []⟩ [(x, u)])
    (hsp : ∀ H : Hp, (∀ j ∈ js, H j.2 = some (.tbl #[])) → SqL K H a (ns.map V.int) → sp [.ref a] H (fun v _ => v = .bl true) E0) :
    codeAny (model P w) callerA (.call (.ref fa) ⟨[.ref a], []⟩) (fun r s' => r = .ok (.ret (.bool true)) ∧ OldK s₁.heap s'.heap ∧ s'.os = s₁.os ∧ AllBare s'.gens) s₁ := by
  have rv := vals_ints hi
  have nota : ∀ j ∈ js, j.2 ≠ a := fun j hj e => by
    have q := (tabs j hj).1
    rw [e, ha] at q
    cases (show Data.seq vs.toArray _ = Data.fields #[] from congrArg Obj.data (Option.some.inj q))
  -- the script alone
  obtain ⟨G, ownG, atG, outG, hSG, okG⟩ : ∃ G : Hp, (∀ b u, G b = some u → b = a ∧ K.lookup a = none ∧ ∃ ob xs, u = .frz ob (.lst xs)) ∧ (∀ b, b ≠ a → G b = none) ∧ (∀ H : Hp, H a = G a → SqL K H a (ns.map V.int)) ∧ SqL K G a (ns.map V.int) ∧ ∀ u, G a = some u → ∀ H : Hp, ObjOk P w H s₁.heap a u := by
    cases hk : K.lookup a with
    | some o =>
      have e := (KX a o hk).symm.trans ha
      cases e
      have rd : ∀ H : Hp, SqL K H a (ns.map V.int) := fun H => .inr ⟨_, vs.toArray, _, hk, rfl, rfl, rfl, by rw [List.size_toArray, hi.length]; exact hl, by simpa using rv⟩
      exact ⟨fun _ => none, fun b u z => (by cases z), fun _ _ => rfl, fun H _ => rd H, rd _, fun u z => (by cases z)⟩
    | none =>
      refine ⟨upd (fun _ => none) a (.frz { cls := .type "list", data := .seq vs.toArray } (.lst (ns.map V.int))), fun b u z => ?_, fun b nb => upd_ne nb, fun H z => .inl (.inr ⟨_, z.trans upd_same⟩), .inl (.inr ⟨_, upd_same⟩), fun u z H => ?_⟩
      · by_cases e : b = a
        · subst e
          rw [upd_same] at z
          exact ⟨rfl, rfl, _, _, (Option.some.inj z).symm⟩
        · rw [upd_ne e] at z
          cases z
      · rw [upd_same] at z
        cases z
        exact ⟨ha, by rw [List.length_map]; exact hl, vs, _, rv, ha⟩
  -- and the tables
  obtain ⟨H, hH⟩ : ∃ H : Hp, H = fun b => if b ∈ js.map (·.2) then some (HO.tbl #[]) else G b := ⟨_, rfl⟩
  have inJ : ∀ {b : Addr}, b ∈ js.map (·.2) → H b = some (.tbl #[]) ∧ s₁.heap.get? b = some noCodes ∧ K.lookup b = none ∧ ∃ c, PySem.W.codeHdIn K c b = true := fun {b} h => by
    obtain ⟨j, hj, e⟩ := List.mem_map.mp h
    obtain ⟨t1, t2, t3⟩ := tabs j hj
    subst e
    exact ⟨by rw [hH]; exact if_pos h, t1, t2, j.1, t3⟩
  have outJ : ∀ {b : Addr}, b ∉ js.map (·.2) → H b = G b := fun {b} h => by rw [hH]; exact if_neg h
  have aJ : a ∉ js.map (·.2) := fun h => by
    obtain ⟨j, hj, e⟩ := List.mem_map.mp h
    exact nota j hj e
  have own : ∀ b u, H b = some u → (b = a ∧ K.lookup a = none ∧ ∃ ob xs, u = .frz ob (.lst xs)) ∨ (b ∈ js.map (·.2) ∧ u = .tbl #[]) := fun b u z => by
    by_cases h : b ∈ js.map (·.2)
    · rw [(inJ h).1] at z
      exact .inr ⟨h, (Option.some.inj z).symm⟩
    · rw [outJ h] at z
      exact .inl (ownG b u z)
  have ok : HOk P w H s₁.heap := fun b u z => by
    by_cases h : b ∈ js.map (·.2)
    · rw [(inJ h).1] at z
      cases z
      exact (inJ h).2.1
    · rw [outJ h] at z
      obtain ⟨e, _⟩ := ownG b u z
      subst e
      exact okG u z H
  have clear : ∀ {b : Addr} {o : Obj}, s₁.heap.get? b = some o → (∀ vs n, o.data ≠ .seq vs n) → o.data ≠ .fields #[] → H b = none := fun {b o} e n1 n2 => by
    cases z : H b with
    | none => rfl
    | some u =>
      rcases own b u z with ⟨eb, _⟩ | ⟨h, _⟩
      · rw [eb, ha] at e
        cases e
        exact (n1 _ _ rfl).elim
      · rw [(inJ h).2.1] at e
        cases e
        exact (n2 rfl).elim
  have ofK : ∀ {b : Addr} {o : Obj}, K.lookup b = some o → H b = none := fun {b o} e => by
    cases z : H b with
    | none => rfl
    | some u =>
      rcases own b u z with ⟨eb, h2, _⟩ | ⟨h, _⟩
      · rw [eb, h2] at e
        cases e
      · rw [(inJ h).2.2.1] at e
        cases e
  have ofD : ∀ {b : Addr} {o : Obj} {es : Array DictEntry} {ep : Nat}, s₁.heap.get? b = some o → o.data = .dict es ep → H b = none := fun {b o es ep} e d => clear e (fun _ _ z => by rw [d] at z; cases z) (fun z => by rw [d] at z; cases z)
  have names : ∀ {b : Addr} {m : Str → Option Value}, s₁.heap.Ns b m → (hidT s₁.heap H).Ns b m := fun ⟨o, es, ep, e, d, r⟩ => ⟨o, es, ep, hidT_get e (ofD e d), d, r⟩
  have inK : K.In (hidT s₁.heap H) := fun b o e => hidT_get (KX b o e) (ofK e)
  have hM : Mod K mg (hidT s₁.heap H) := ⟨inK, names hns, ⟨mb, names hb, hbb⟩, let ⟨mc, h1, h2⟩ := hlim; ⟨mc, names h1, h2⟩⟩
  have e0 : Env0 P w K mg (hidT s₁.heap H) callerA [] s₁ H := ⟨rfl, hM, fun b o e => of_hidT e, Nat.le_of_eq (hidT_size _ _), trivial, fun b hb => absurd (show b ∈ ([] : List Addr) from hb) (by simp), ok, .of_eq hg⟩
  have hTB : ∀ j ∈ js, TabB (hidT s₁.heap H) mg j.1 j.2 := fun j hj => by
    obtain ⟨t1, t2, t3⟩ := tabs j hj
    obtain ⟨bm, ob, m1, m2, m3, m4, m5, m6⟩ := hmod
    obtain ⟨og, eg, epg, g1, g2, _⟩ := hns
    refine tabB_of_K inK t3 ⟨bm, ob, m1, m2, fun z => ?_, fun z => ?_, hidT_get m3 (clear m3 (fun _ _ z => by rw [m6] at z; cases z) (fun z => by rw [m6] at z; cases z)), m4, m5, m6⟩ fun z => ?_
    · rw [z, g1] at m3
      cases m3
      rw [g2] at m6
      cases m6
    · rw [z, t1] at m3
      cases m3
      cases m6
    · rw [← z, g1] at t1
      cases t1
      cases g2
  refine codeAny_mono ((F _ inK (names hns) hTB).run callerA [] s₁ H ⟨[.ref a], []⟩ [.ref a] [.ref a] _ hgd hr e0 (hbind s₁ (.ref a)) (.cons rfl .nil) (hsp H (fun j hj => (inJ (List.mem_map.mpr ⟨j, hj, rfl⟩)).1) (outG H (outJ aJ)))) fun r s' h => ?_
  cases r with
  | error e => exact (show False from h).elim
  | ok fl =>
    cases fl with
    | next => exact False.elim h
    | brk => exact False.elim h
    | cont => exact False.elim h
    | ret u =>
      obtain ⟨v, H', os, bare, un, ok', r', q⟩ := h
      obtain rfl : v = .bl true := q
      obtain rfl : u = Value.bool true := r'
      have rest : ∀ b o, b ∉ js.map (·.2) → s₁.heap.get? b = some o → s'.heap.get? b = some o := fun b o nb e => by
        cases z : H b with
        | none => exact un.keep b o e z (by intro y; exact absurd (show b ∈ ([] : List Addr) from y) (by simp)) (by simp)
        | some u =>
          rcases own b u z with ⟨_, _, ob, xs, eu⟩ | ⟨h, _⟩
          · rw [eu] at z
            have e1 := (ok b _ z).1
            have e2 := (ok' b _ (un.frzs b ob _ z)).1
            rw [e] at e1
            cases e1
            exact e2
          · exact absurd h nb
      have more : ∀ b, b ∈ js.map (·.2) → ∃ ps : Array Value, s'.heap.get? b = some { cls := .none, data := .fields ps } := fun b h => by
        obtain ⟨ps, z⟩ := un.tbls b #[] (inJ h).1
        exact ⟨_, ok' b _ z⟩
      refine ⟨rfl, ⟨fun b o e => ?_, fun b o e => ?_⟩, os, bare⟩
      · by_cases h : b ∈ js.map (·.2)
        · obtain ⟨_, t1, _, c, hc⟩ := inJ h
          obtain ⟨ps, hp⟩ := more b h
          obtain rfl : noCodes = o := Option.some.inj (t1.symm.trans e)
          exact .inr (.inl ⟨((PySem.W.codeHd_of_K KX hc).tab t1).isCodeTable, rfl, #[], ps, rfl, by rw [Array.empty_append]; exact hp⟩)
        · exact .inl (rest b o h e)
      · by_cases h : b ∈ js.map (·.2)
        · obtain ⟨ps, hp⟩ := more b h
          exact ⟨_, hp⟩
        · exact ⟨o, rest b o h e⟩
/-- the code object of a def that the head found -/
theorem fd_code {K : PySem.W.Frag} {h : Heap} {x : Str} {st : Stmt} {fd : FuncData} (X : K.In h) (F : FnP K x st (He.fAd K (x, none)) fd) : fd.code = .ref (He.codeOf K (x, none)) := by
  obtain ⟨oc, od, dV, kV, doc, pm, an, cdv, ct, osl, rfl, lk, hcd, _, _⟩ := F.ex
  obtain ⟨c, o, vs, t, e, _⟩ := PySem.W.codeRec_of X hcd
  have e' : cdv = .ref c := e
  have := He.codeOf_eq (p := (x, none)) lk e'
  rw [this]
  exact e'
end Pg

set_option Elab.async false
set_option linter.all false
set_option maxRecDepth 100000
set_option maxHeartbeats 0
namespace K01
open PySem PySem.Spec PyProof.Rows L2 Pg LamX
def dOf (x : Str) (st : Stmt) : He.DefD := ⟨(x, none), x, x, defArgs st, defBody st, defScope st, [], []⟩
def fn : List He.DefD := [⟨("nodes_of", none), "nodes_of", "nodes_of", defArgs (top 1), defBody (top 1), defScope (top 1), [.non], []⟩, dOf "compare_trees" (top 3), dOf "order_key" (top 4), dOf "_law_same" (top 6), dOf "_law_stream" (top 7), dOf "_law_next" (top 8), dOf "_law_word" (top 9), dOf "_law_signs" (top 10), dOf "_law_term" (top 11), dOf "_law_size" (top 12), dOf "_law_key" (top 13), dOf "_law_copy" (top 14), dOf "_law_changed" (top 15), dOf "_law_row" (top 16), dOf "_law_agrees" (top 17), dOf "law" (top 18)]
def fa : List He.Fa := [.glo "nodes_of", .glo "compare_trees", .glo "order_key", .glo "_law_same", .glo "_law_stream", .glo "_law_next", .glo "_law_word", .glo "_law_signs", .glo "_law_term", .glo "_law_size", .glo "_law_key", .glo "_law_copy", .glo "_law_changed", .glo "_law_row", .glo "_law_agrees", .glo "law", .free "len", .free "abs", .free "int", .free "max", .free "sum", .free "tuple", .free "list", .free "isinstance", .free "repr", .free "range", .free "reversed", .free "enumerate"]
def ex (_ : PySem.W.Frag) : Bool := true
abbrev R : PySem.W.OpenRow := PySem.W.OpenLaw.row PySem.Challenge.rw_pergola_k01_order_of_trees
def tf : List He.Defn := []
abbrev hk : PySem.W.Hook := He.hookX 4 fa fn [] tf ex
def ob (s : PySem.W.SharedT) : He.AlX := He.obsX 4 fa fn [] tf ex (HandSHeadRun.getT s)
theorem ob_eq (s : PySem.W.SharedT) : ob s = hk.obs s.abs := He.obsX_eq (HandSHeadRun.getT_eq s)
theorem run (w : World) : HandSHeadRun.RunEq R (PySem.W.view R.prog [18]) hk ob 600 ["nodes_of", "compare_trees", "order_key", "_law_same", "_law_stream", "_law_next", "_law_word", "_law_signs", "_law_term", "_law_size", "_law_key", "_law_copy", "_law_changed", "_law_row", "_law_agrees"] w := by
  intro os
  kernel_rfl
theorem facts {P : Program} {w : World} {K : PySem.W.Frag} {h : Heap} {mg : Str → Option Value} {f : Addr} (X : K.In h) (GN : h.Ns mainGlobals mg) (hfa : mg ("law" : Str) = some (.ref f)) (c : He.SaysX fa fn [] tf ex w h K) :
    ∃ fd : FuncData, (∀ (s : Shared) (v : Value), BindsTo s fd ⟨[v], []⟩ [("script", v)]) ∧ ∀ base : Heap, K.In base → base.Ns mainGlobals mg → (∀ j ∈ tf.map (He.cT K), TabB base mg j.1 j.2) → FnG P w K mg base 132 f fd ["script"] (spLaw K) := by
  have cd := c.t.d
  obtain ⟨d0, F_nodes⟩ := cd.def_ 0 rfl
  obtain ⟨d1, F_cmp⟩ := cd.def_ 1 (d := dOf "compare_trees" (top 3)) rfl
  obtain ⟨d2, F_okey⟩ := cd.def_ 2 (d := dOf "order_key" (top 4)) rfl
  obtain ⟨d3, F_same⟩ := cd.def_ 3 (d := dOf "_law_same" (top 6)) rfl
  obtain ⟨d4, F_stream⟩ := cd.def_ 4 (d := dOf "_law_stream" (top 7)) rfl
  obtain ⟨d5, F_next⟩ := cd.def_ 5 (d := dOf "_law_next" (top 8)) rfl
  obtain ⟨d6, F_word⟩ := cd.def_ 6 (d := dOf "_law_word" (top 9)) rfl
  obtain ⟨d7, F_signs⟩ := cd.def_ 7 (d := dOf "_law_signs" (top 10)) rfl
  obtain ⟨d8, F_term⟩ := cd.def_ 8 (d := dOf "_law_term" (top 11)) rfl
  obtain ⟨d9, F_size⟩ := cd.def_ 9 (d := dOf "_law_size" (top 12)) rfl
  obtain ⟨d10, F_key⟩ := cd.def_ 10 (d := dOf "_law_key" (top 13)) rfl
  obtain ⟨d11, F_copy⟩ := cd.def_ 11 (d := dOf "_law_copy" (top 14)) rfl
  obtain ⟨d12, F_chg⟩ := cd.def_ 12 (d := dOf "_law_changed" (top 15)) rfl
  obtain ⟨d13, F_row⟩ := cd.def_ 13 (d := dOf "_law_row" (top 16)) rfl
  obtain ⟨d14, F_agr⟩ := cd.def_ 14 (d := dOf "_law_agrees" (top 17)) rfl
  obtain ⟨d15, F_law⟩ := cd.def_ 15 (d := dOf "law" (top 18)) rfl
  have m_nodes := He.glo_ok X GN (cd.fact 0 (f := .glo "nodes_of") rfl)
  have m_cmp := He.glo_ok X GN (cd.fact 1 (f := .glo "compare_trees") rfl)
  have m_okey := He.glo_ok X GN (cd.fact 2 (f := .glo "order_key") rfl)
  have m_same := He.glo_ok X GN (cd.fact 3 (f := .glo "_law_same") rfl)
  have m_stream := He.glo_ok X GN (cd.fact 4 (f := .glo "_law_stream") rfl)
  have m_next := He.glo_ok X GN (cd.fact 5 (f := .glo "_law_next") rfl)
  have m_word := He.glo_ok X GN (cd.fact 6 (f := .glo "_law_word") rfl)
  have m_signs := He.glo_ok X GN (cd.fact 7 (f := .glo "_law_signs") rfl)
  have m_term := He.glo_ok X GN (cd.fact 8 (f := .glo "_law_term") rfl)
  have m_size := He.glo_ok X GN (cd.fact 9 (f := .glo "_law_size") rfl)
  have m_key := He.glo_ok X GN (cd.fact 10 (f := .glo "_law_key") rfl)
  have m_copy := He.glo_ok X GN (cd.fact 11 (f := .glo "_law_copy") rfl)
  have m_chg := He.glo_ok X GN (cd.fact 12 (f := .glo "_law_changed") rfl)
  have m_row := He.glo_ok X GN (cd.fact 13 (f := .glo "_law_row") rfl)
  have m_agr := He.glo_ok X GN (cd.fact 14 (f := .glo "_law_agrees") rfl)
  have e := hfa.symm.trans (He.glo_ok X GN (cd.fact 15 (f := .glo "law") rfl))
  cases e
  have b := FunD.bindsA (ps := ["script"]) F_law fun _ _ _ _ _ _ us hl => match us, hl with | [_], _ => rfl
  have Z : Zs mg := ⟨He.free_ok X GN (cd.fact 16 (f := .free "len") rfl), He.free_ok X GN (cd.fact 17 (f := .free "abs") rfl), He.free_ok X GN (cd.fact 18 (f := .free "int") rfl), He.free_ok X GN (cd.fact 19 (f := .free "max") rfl), He.free_ok X GN (cd.fact 20 (f := .free "sum") rfl), He.free_ok X GN (cd.fact 21 (f := .free "tuple") rfl), He.free_ok X GN (cd.fact 22 (f := .free "list") rfl), He.free_ok X GN (cd.fact 23 (f := .free "isinstance") rfl), He.free_ok X GN (cd.fact 24 (f := .free "repr") rfl), He.free_ok X GN (cd.fact 25 (f := .free "range") rfl), He.free_ok X GN (cd.fact 26 (f := .free "reversed") rfl), He.free_ok X GN (cd.fact 27 (f := .free "enumerate") rfl)⟩

  refine ⟨d15, fun s v => b s [v] rfl, fun base _ _ tb => ?_⟩
  have c_next : Cal P w K mg base 1 "_law_next" spNext [] := ok_next F_next m_next Z
  have c_word := ok_word F_word m_word Z c_next
  have c_signs := ok_signs F_signs m_signs Z c_next c_word
  have c_stream : Cal P w K mg base 1 "_law_stream" (spStream K) [] := ok_stream F_stream m_stream Z
  have c_term := ok_term F_term m_term Z c_next
  have c_size : ∀ d : Nat, Cal P w K mg base (d + 1) "_law_size" (spSize K d) [] := ok_size F_size m_size Z
  have c_copy : ∀ d : Nat, Cal P w K mg base (d + 1) "_law_copy" (spCopy K d) [] := ok_copy F_copy m_copy Z
  have c_key := ok_key F_key m_key Z c_size
  have c_chg := ok_chg F_chg m_chg Z c_next (c_term 4)
  have c_row : Cal P w K mg base 1 "_law_row" (spRow K) [] := ok_row F_row m_row Z
  have c_nodes : Cal P w K mg base 1 "nodes_of" (spNodes K) [.non] := ok_nodes F_nodes m_nodes Z
  have c_okey := ok_okey F_okey m_okey Z c_nodes
  have c_cmp := ok_cmp F_cmp m_cmp Z c_okey
  have G_agr := ok_agr F_agr F_same m_same Z (c_key 120) (c_copy 120) c_cmp
  exact ok_law F_law F_agr m_agr Z G_agr c_stream c_next c_signs (c_term 60) (c_chg 60) c_row (c_size 60)
end K01
open PySem PySem.W PySem.Calls PyProof.Rows
theorem PySem.Challenge.cw_pergola_k01_order_of_trees_holds : PySem.Challenge.rw_pergola_k01_order_of_trees.Holds := by
  w_on; o_law
  refine HandSHeadRun.head_any (r := OpenLaw.row PySem.Challenge.rw_pergola_k01_order_of_trees) (q := view (OpenLaw.row PySem.Challenge.rw_pergola_k01_order_of_trees).prog [18]) (H := K01.hk) (ob := K01.ob) (M := 600) (loose := ["nodes_of", "compare_trees", "order_key", "_law_same", "_law_stream", "_law_next", "_law_word", "_law_signs", "_law_term", "_law_size", "_law_key", "_law_copy", "_law_changed", "_law_row", "_law_agrees"]) (d := HandSHeadRun.topDef (OpenLaw.row PySem.Challenge.rw_pergola_k01_order_of_trees).prog 18) (kwd := []) K01.ob_eq
    (by kernel_rfl) (fun s => by kernel_rfl) K01.run (by kernel_rfl) (by kernel_rfl) (by kernel_rfl) (by rfl) (by first | assumption | decide +kernel) (by decide +kernel) ⟨rfl, rfl, rfl, rfl, rfl, by decide +kernel⟩ ?hw ?hc
  case hw => w_witness2
  case hc =>
    refine Att.attach_call (l := PySem.Challenge.rw_pergola_k01_order_of_trees) (n := 63) rfl (by kernel_rfl) fun w s₀ s₁ mg mb fa o pm cd doc a vs ns G Y ho hd hcd hmg0 hobj hints hlen hg => ?_
    obtain ⟨K, KX, c⟩ := Y
    have hmg : mg ("law" : PySem.Str) = some (.ref fa) := by
      have e : (HandSHeadRun.topDef (OpenLaw.row PySem.Challenge.rw_pergola_k01_order_of_trees).prog 18).name = ("law" : PySem.Str) := by kernel_rfl
      rw [← e]
      exact hmg0
    obtain ⟨fd, hb, hF⟩ := K01.facts (P := (PySem.Challenge.rw_pergola_k01_order_of_trees).prog) (w := w) KX G.T.g hmg c
    refine Pg.law_callTG (js := K01.tf.map (He.cT K)) KX G.T.g G.T.b G.T.builtins G.T.nolimit hg (fun j hj => ?_) G.T.bmain hobj hints (Nat.le_trans hlen (by decide)) (k := 132) ⟨rfl, by decide, by decide⟩ rfl hF hb (fun H hT hS => ⟨a, ns, rfl, hS, hlen, fun _ => rfl⟩)
    obtain ⟨p, hp, e⟩ := List.mem_map.mp hj
    subst e
    exact ⟨c.empty p hp, c.out p hp, c.hd p hp⟩

