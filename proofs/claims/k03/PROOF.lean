import PyProof.Rows.All
import Wide.All
import OpenK.AllK
import Wide.FinOn
import PyProof.EqAt
import PyProof.EqKinds
import PyProof.TupleCall
import PyProof.AutoSeq1
import PyProof.SliceList
import PyProof.ReprRoads
import KE.DataCmp
import HandS.Base
import HandS.Call
import HandS.List
import HandS.Comp
import HandS.Ends
import HandS.Dict
import HandS.Iter
import HandS.Text
import HandS.Words
import HandS.WordsList
import HandS.Flow
import HandS.ForMost
import HandS.Defaults
import HandS.IsInst
import HandS.TupAny
import HandS.Rev
import HandS.Codes
import HandS.Style
import HandS.HeadEnd
import HandS.HeadHook2
import HandS.Wide
import HandS.Exc
import HandS.ExcOwn
import HandS.ExcIs
import HandS.RaiseMore
import HandS.FStr
import HandS.WordsExc
import HandS.Walk
import HandS.Lambda
import HandS.Nested
import HandS.SortKw
import KE.DataMinMax
import PyProof.ReprBulk
import HandS.Steps
import HandS.Strs
import HandS.TupMul
import HandS.Head0
import HandS.Head1
import HandS.Head2
import HandS.HeadHook1
import HandS.HeadHook3
import HandS.HeadHook4
import HandS.More
import HandS.NestedK
import PySem.Challenge.RW_pergola_k03_texts_of_terms
set_option Elab.async false
set_option linter.all false
set_option maxRecDepth 100000
set_option maxHeartbeats 4000000
namespace Pg
open PySem PySem.Spec PyProof.Rows L2 PySem.SeqAt
open AutoSeq1 (wpAny_loadPart' idx_int)
open MeetsSeq MeetsSeq2 MeetsSeq3 SeqRoads2

/-! own rule: a list takes the items of a tuple -/
theorem ext_tup (l : Addr) (its : Array Value) (n : Nat) (b : Addr) (its2 : Array Value) (n2 : Nat) (dd : Option Addr) (sl : Array (Option Value))
    (hs0 : ¬(!its.isEmpty && Builtin.List.listTooLong (its.size + its2.size)) = true) (hs1 : its.size ≤ sizeLine) (hs2 : its.size + its2.size ≤ sizeLine + 1) :
    Meets (Builtin.«list.extend» ⟨[.ref l, .ref b], []⟩) (fun _ R s => s.heap.get? l = some { cls := .type "list", dict := none, data := .seq its n, slots := #[] } ∧
      s.heap.get? b = some { cls := .type "tuple", dict := dd, data := .seq its2 n2, slots := sl } ∧
      R (.ok (.ret Value.none)) { s with heap := s.heap.update l (Obj.mapSeq fun x => x ++ its2), toks := s.toks }) :=
  .of_wp fun prog w A R s h => by
    obtain ⟨hp, g, d, tk, os⟩ := s
    obtain ⟨hl, hb, h⟩ := h
    have g1 := idx_int
    have g2 := AutoSeq1.sub_tuple_tuple
    have g3 := AutoSeq1.sub_list_list
    have g4 := AutoSeq1.sub_tuple_list
    have g5 := AutoSeq1.sub_list_tuple
    have hz' : (its ++ its2).size ≤ sizeLine + 1 := by
      rw [Array.size_append]
      exact hs2
    wp_walk using (wpAny_updateSeq hl rfl (hz := hs1) (_hz' := hz')), wpAny_loadPart' hl, wpAny_loadPart' hb
    exact ⟨_, rfl, h⟩
section
variable {X : Cx}
def rExtT (K : PySem.W.Frag) : V → List V → Hp → VK → Prop := fun x vs H Q => ∃ l b xs zs, x = .ref l ∧ vs = [.ref b] ∧ H l = some (.lst xs) ∧ SqT K H b zs ∧ xs.length + zs.length ≤ sizeLine ∧ Q .non (upd H l (.lst (xs ++ zs)))
theorem mt_extT : MtM X "list.extend" (rExtT X.K) := by
  intro pins s σ H x vs v us Q I rx rv h
  obtain ⟨l, b, xs, zs, rfl, rfl, hH, hB, hz, q⟩ := h
  cases rx
  obtain ⟨u, rfl, ru⟩ := rv.one
  cases ru
  obtain ⟨z, its, n, r, hl, e⟩ := I.lstM hH
  obtain ⟨its2, r2, ⟨⟨cls, dd, data, sl⟩, ho, hc, n2, hd⟩, hz2⟩ := I.tuple hB
  simp only at hc hd
  subst hc hd
  have r2l := r2.length
  have rl := r.length
  have hsz : its.toArray.size + its2.toArray.size ≤ sizeLine := by rw [List.size_toArray, List.size_toArray]; omega
  have hlong : ¬ (!its.toArray.isEmpty && Builtin.List.listTooLong (its.toArray.size + its2.toArray.size)) = true := by rw [notLongL hsz, Bool.and_false]; exact Bool.false_ne_true
  refine call_meets F.slot_list_extend ⟨_, e, rfl⟩ F.entry_list_extend (F.args_list_extend_2 _ _)
    (ext_tup l its.toArray n b its2.toArray n2 dd sl hlong (by rw [List.size_toArray] at hsz ⊢; omega) (Nat.le_succ_of_le hsz)) ⟨e, ho, ?_⟩
  refine ⟨.non, _, I.lset (its' := its ++ its2) hH e (by simp) (r.append r2) ?_, rfl, q⟩
  rw [List.length_append]
  exact hz

/-! own rule: t[:0:-1], the parts behind the first one, from the last to the first -/
theorem down_adj (n : Nat) : Builtin.Slice.sliceAdjust none (some 0) (-1) (n : Int) = ((n : Int) - 1, if n = 0 then -1 else 0) := by
  unfold Builtin.Slice.sliceAdjust
  simp only [show ((-1 : Int) < 0) from by decide, if_true, show ¬ ((0 : Int) < 0) from by decide, if_false]
  refine Prod.ext rfl ?_
  show min (0 : Int) ((n : Int) - 1) = if n = 0 then -1 else 0
  split <;> omega
theorem down_places (n : Nat) : Builtin.Slice.slicePlaces ((n : Int) - 1) (if n = 0 then -1 else 0) (-1) = n - 1 := by
  unfold Builtin.Slice.slicePlaces
  simp only [show ¬ ((-1 : Int) > 0) from by decide, if_false, Int.neg_neg, Int.ediv_one]
  by_cases h : n = 0
  · subst h; simp
  · rw [if_neg h]
    split <;> omega
theorem down_pick (l : List Value) : ((List.range (l.length - 1)).filterMap fun (k : Nat) => l.toArray[((l.length : Int) - 1 + (k : Int) * -1).toNat]?) = (l.drop 1).reverse := by
  cases l with
  | nil => rfl
  | cons a t =>
    have e1 : (a :: t).length - 1 = t.length := rfl
    rw [e1]
    have : ∀ (m : Nat) , m ≤ t.length → ((List.range m).filterMap fun (k : Nat) => (a :: t).toArray[((((a :: t).length : Nat) : Int) - 1 + (k : Int) * -1).toNat]?) = t.reverse.take m := by
      intro m
      induction m with
      | zero => intro _; rfl
      | succ m ih =>
        intro hm
        rw [List.range_succ, List.filterMap_append, ih (by omega)]
        have ei : ((((a :: t).length : Nat) : Int) - 1 + (m : Int) * -1).toNat = (t.length - 1 - m) + 1 := by rw [List.length_cons]; omega
        have hlt : t.length - 1 - m < t.length := by omega
        have eg : (a :: t).toArray[(t.length - 1 - m) + 1]? = some (t[t.length - 1 - m]'hlt) := by simp [hlt]
        have er : t.reverse[m]? = some (t[t.length - 1 - m]'hlt) := by
          rw [List.getElem?_reverse (by omega), List.getElem?_eq_getElem hlt]
        rw [List.take_add_one, er]
        simp only [List.filterMap_cons, List.filterMap_nil, ei, eg, Option.toList_some]
    rw [this t.length (Nat.le_refl _), List.take_of_length_le (by simp)]
    rfl
theorem down_item {prog : Program} {w : World} {A : Around} {E : Value → Shared → Prop} {s : Shared} {t sl : Addr} {l : List Value} {k1 k2 : Tok} {Q : Value → Shared → Prop} (hT : IsTup s.heap t l.toArray) (hS : s.heap.IsSliceOf sl .none (.int 0 k1) (.int (-1) k2))
    (h : Q (.ref s.heap.objs.size) { s with heap := s.heap.push { cls := .type "tuple", data := .seq (l.drop 1).reverse.toArray } }) (hz : l.length ≤ sizeLine) : wpAny (model prog w) A (getItem (.ref t) (.ref sl)) Q E s := by
  have fit : sizeOk (.seq (l.drop 1).reverse.toArray) := by
    show (l.drop 1).reverse.toArray.size ≤ sizeLine
    rw [List.size_toArray, List.length_reverse, List.length_drop]
    omega
  obtain ⟨os, gs, cs, ds⟩ := id hS
  have hTs : s.TypeIs (.ref sl) "slice" := ⟨os, gs, cs⟩
  unfold getItem
  try with_reducible refine wpAny_holding ?_
  first | refine wpAny_bind (wpAny_pure ?_) | skip
  refine wpAny_bind (wpAny_sequenceKey hT.typeIs (by decide) (wpAny_bind (wpAny_callSpecial?_slot (name := Str.ofString "__getitem__") hT.typeIs PyProof.Rows.slot_tuple_getitem
    (wpAny_call_entry PyProof.Rows.slot_tuple_getitem hT.typeIs entry_tuple_getitem ?_ (args_tuple_getitem _ _)))))
  show wpAny _ _ (Builtin.Tuple.tupleItemsOf (.ref t) >>= _) _ _ s
  refine wpAny_bind (tupleItemsOf_ hT (wpAny_bind (wpAny_typeOf hTs ?_)))
  rw [if_pos (by decide)]
  have app : ∀ {Q' : Int × Int × Nat → Shared → Prop}, Q' ((l.length : Int) - 1, -1, l.length - 1) s → wpAny (model prog w) A.in1 (Builtin.Slice.sliceApplied (.ref sl) (pure ((l.toArray.size : Nat) : Int))) Q' (fun e s' => True) s → True := fun _ _ => trivial
  refine wpAny_bind ?_
  unfold Builtin.Slice.sliceApplied Builtin.Slice.sliceFields
  refine wpAny_bind (wpAny_bind (wpAny_field gs ds (x := .none) rfl (wpAny_bind (wpAny_field gs ds (x := .int 0 k1) rfl (wpAny_bind (wpAny_field gs ds (x := .int (-1) k2) rfl (wpAny_pure ?_)))))))
  refine wpAny_bind (slicePart_int ?_)
  show wpAny _ _ (if ((-1 : Int) == 0) = true then _ else _) _ _ s
  rw [if_neg (by decide)]
  refine wpAny_bind (slicePart_none (wpAny_bind (slicePart_int (wpAny_bind (wpAny_pure ?_)))))
  show wpAny _ _ (match Builtin.Slice.sliceAdjust none (some 0) (-1) ((l.toArray.size : Nat) : Int) with | (lo, hi) => pure (lo, (-1 : Int), Builtin.Slice.slicePlaces lo hi (-1))) _ _ s
  rw [List.size_toArray, down_adj l.length]
  show wpAny _ _ (pure ((l.length : Int) - 1, (-1 : Int), Builtin.Slice.slicePlaces ((l.length : Int) - 1) (if l.length = 0 then -1 else 0) (-1))) _ _ s
  rw [down_places]
  refine wpAny_pure ?_
  have hno : ¬ (((l.length : Int) - 1 == 0 && (-1 : Int) == 1 && (l.length - 1) == l.toArray.size) = true) := by
    simp
  show wpAny _ _ (if (((l.length : Int) - 1 == 0 && (-1 : Int) == 1 && (l.length - 1) == l.toArray.size) = true) then _ else _) _ _ s
  rw [if_neg hno, down_pick]
  first
    | exact wpAny_bind (m := Builtin.Tuple.tupleExact _) (wpAny_newObj_type (wpAny_pure ⟨_, rfl, wpAny_pure h⟩) fit)
    | exact wpAny_bind (m := Builtin.Tuple.tupleExact _) (wpAny_newObj_type (wpAny_bind (wpAny_pure (wpAny_pure ⟨_, rfl, wpAny_pure h⟩))) fit)
    | exact wpAny_bind (wpAny_bind (m := Builtin.Tuple.tupleExact _) (wpAny_newObj_type (wpAny_pure (wpAny_pure ⟨_, rfl, wpAny_pure h⟩)) fit))
    | exact wpAny_bind (wpAny_bind (m := Builtin.Tuple.tupleExact _) (wpAny_newObj_type (wpAny_pure ⟨_, rfl, wpAny_pure h⟩) fit))
end
end Pg

set_option Elab.async false
set_option linter.all false
set_option maxRecDepth 100000
set_option maxHeartbeats 4000000
namespace Pg
open PySem PySem.Spec PyProof.Rows L2 PySem.SeqAt
section
variable {X : Cx}
def tDown (K : PySem.W.Frag) (te : TE) : TE := fun σ H Q => te σ H fun x H1 => ∃ a xs, x = .ref a ∧ SqT K H1 a xs ∧ ∀ p, H1 p = none → Q (.ref p) (upd H1 p (.tup (xs.drop 1).reverse))
theorem pe_down {e : Expr} {te : TE} {k k0 : Nat} {p0 p1 p2 p3 pos : Pos} (he : PE X e te) :
    PE X (.Subscript e (.Slice none (some (.Constant (.int 0) k0 p0)) (some (.UnaryOp .USub (.Constant (.int 1) k p1) p2)) p3) pos) (tDown X.K te) := by
  refine ⟨fun pins s σ H Q I h => Subscript_ (thn (he.run pins s σ H _ I h) fun v s1 ⟨x, H1, I1, r1, q1⟩ => ?_)⟩
  obtain ⟨a, xs, ex, hx, q⟩ := q1
  subst ex
  cases r1
  have st1 : PO X (some (.UnaryOp .USub (.Constant (.int 1) k p1) p2)) (tPart (tUn (rU fun i => .int (-i)) (tC (.int 1)))) := po_some (pe_un un_neg pe_int)
  have st0 : PO X (some (.Constant (.int 0) k0 p0)) (tPart (tC (.int 0))) := po_some pe_int
  refine wpAny_Slice (thn (po_none.run pins s1 σ H1 (fun o H2 => o = none ∧ H2 = H1) I1 ⟨rfl, rfl⟩) fun vl s2 ⟨l, H2, I2, pl, el, e2⟩ => ?_)
  subst el e2
  refine thn (st0.run pins s2 σ H2 (fun o H3 => o = some 0 ∧ H3 = H2) I2 ⟨0, rfl, rfl, rfl⟩) fun vu s3 ⟨u, H3, I3, pu, eu, e3⟩ => ?_
  subst eu e3
  refine thn (st1.run pins s3 σ H3 (fun o H4 => o = some (-1) ∧ H4 = H3) I3 ⟨1, rfl, -1, rfl, rfl, rfl⟩) fun vs s4 ⟨o, H4, I4, ps, eo, e4⟩ => ?_
  subst eo e4
  obtain rfl : vl = .none := by cases pl; rfl
  obtain ⟨t0, rfl⟩ : ∃ t, vu = .int 0 t := by cases pu; exact ⟨_, rfl⟩
  obtain ⟨t1, rfl⟩ : ∃ t, vs = .int (-1) t := by cases ps; exact ⟨_, rfl⟩
  have I5 : Inv X pins σ H4 { s4 with heap := s4.heap.push { cls := .type "slice", data := .fields #[.none, .int 0 t0, .int (-1) t1] } } := I4.kept (t' := s4.toks) fun b ob q => Heap.get?_push_of_some _ q
  obtain ⟨its, r, ht, hz⟩ := I5.tuple hx
  have hlen := r.length
  show wpAny (model X.prog X.w) X.A (subscriptTail e (.Slice none (some (.Constant (.int 0) k0 p0)) (some (.UnaryOp .USub (.Constant (.int 1) k p1) p2)) p3) (.ref a) (.ref s4.heap.objs.size)) (EP X pins σ Q) X.xe { s4 with heap := s4.heap.push { cls := .type "slice", data := .fields #[.none, .int 0 t0, .int (-1) t1] } }
  refine tail_any (ops := [.ref a, .ref s4.heap.objs.size]) ht.typeIs (PyProof.Rows.slot_tuple_getitem.lookup) ?_ (by with_unfolding_all rfl)
  refine down_item ht (Heap.IsSliceOf.new ..) ?_ (by omega)
  refine ⟨.ref _, _, I5.laid (t' := s4.toks) (o := .tup (xs.drop 1).reverse) (fun b ob q => Heap.get?_push_of_some _ q) (Nat.le_refl _) ?_, rfl, q _ (I5.hok.fresh (Nat.le_refl _))⟩
  exact ⟨by rw [List.length_reverse, List.length_drop]; omega, _, (r.drop 1).reverse, IsTup.new _ _⟩

/-! own rules: the order of data that can be compared place by place; == of data of any depth -/
def rLtD (K : PySem.W.Frag) (n : Nat) : R2 := fun x y H Q => ∃ d e, Dp K H x d ∧ Dp K H y e ∧ PySem.W.alike d e = true ∧ d ≠ .none ∧ min d.depth e.depth ≤ n ∧ Q (.bl (PySem.W.dataLt d e)) H
theorem op_ltD {n : Nat} (hu : X.A.units + n < cLine) : OpR X (compareOp .Lt) (rLtD X.K n) := by
  intro pins s σ H x y v u Q I rx ry ⟨d, e, hd, he, al, nn, hm, q⟩
  obtain ⟨as, r1⟩ := Dp.reads I d x v hd rx
  obtain ⟨bs, r2⟩ := Dp.reads I e y u he ry
  exact PySem.W.lt_data r1 r2 al nn (by omega) ⟨.bl _, H, I, rfl, q⟩
def rGtD (K : PySem.W.Frag) (n : Nat) : R2 := fun x y H Q => ∃ d e, Dp K H x d ∧ Dp K H y e ∧ PySem.W.alike d e = true ∧ d ≠ .none ∧ min d.depth e.depth ≤ n ∧ Q (.bl (PySem.W.dataLt e d)) H
theorem op_gtD {n : Nat} (hu : X.A.units + n < cLine) : OpR X (compareOp .Gt) (rGtD X.K n) := by
  intro pins s σ H x y v u Q I rx ry ⟨d, e, hd, he, al, nn, hm, q⟩
  obtain ⟨as, r1⟩ := Dp.reads I d x v hd rx
  obtain ⟨bs, r2⟩ := Dp.reads I e y u he ry
  exact PySem.W.gt_data r1 r2 al nn (by omega) ⟨.bl _, H, I, rfl, q⟩
/-! own rule: repr of a list or tuple of data, where no repr is under way -/
def rRepr (K : PySem.W.Frag) (n : Nat) : List V → Hp → VK → Prop := fun xs H Q => ∃ (a : Addr) (d : PyData), xs = [.ref a] ∧ Dp K H (.ref a) d ∧ d.showable = true ∧ d.hasDict = false ∧ d.shown.length ≤ sizeLine ∧ d.depth ≤ n ∧ Q (.str d.shown) H
theorem cr_repr {n : Nat} (hu : X.A.units + n + 1 < cLine) (hg : X.A.guards = some []) : CallR X (.builtin "repr") (rRepr X.K n) := by
  intro pins s σ H xs us Q I r ⟨a, d, e, hd, hs, hno, hz, hn, q⟩
  subst e
  obtain ⟨u, rfl, ru⟩ := vals1 r
  obtain ⟨as, r1⟩ := Dp.reads I d (.ref a) u hd ru
  cases ru
  refine repr_of_reads' r1 hs (PyData.noDict_hsm hno) hg (by omega) (fun _ _ e => e) (fun h' w tk hk => ?_) hz
  exact ⟨.str d.shown, H, I.kept (t' := tk) hk, ⟨w, rfl⟩, q⟩
end

/-! ### promises of defs that run where no repr is under way -/
structure FnG (P : Program) (w : World) (K : PySem.W.Frag) (mg : Str → Option Value) (base : Heap) (k : Nat) (f : Addr) (fd : FuncData) (ps : List Str) (sp : Sp) : Prop where
  len : ∀ vs H Q E, sp vs H Q E → vs.length = ps.length
  run : ∀ (A : Around) (outer : List Env) (s : Shared) (H : Hp) (args : Args) (us : List Value) (vs : List V) (Q : VK), A.guards = some [] → Room k A → Env0 P w K mg base A outer s H → BindsTo s fd args (ps.zip us) → Vals vs us →
    sp vs H Q E0 → codeAny (model P w) A (.call (.ref f) args) (CR CX0 outer P w H s Q E0) s
section
variable {P : Program} {w : World} {K : PySem.W.Frag} {mg : Str → Option Value} {base : Heap}
theorem fng_of {k : Nat} {f : Addr} {name qual : Str} {params : Arguments} {body : List Stmt} {scope : Scope} {dV kV doc pm cdv ct oc : Value} {an od : Option Addr} {osl : Array (Option Value)} {N ps : List Str} {sp : Sp}
    (lk : K.lookup f = some ⟨oc, od, .func (PySem.W.fnOf name qual params body scope dV kV doc pm an cdv ct), osl⟩) (hcd : PySem.W.codeIn K cdv qual = true) (S : FnScope N ps scope) (len : ∀ vs H Q E, sp vs H Q E → vs.length = ps.length)
    (hbody : ∀ (A : Around) (outer : List Env) (s : Shared) (H : Hp) (vs : List V) (Q : VK), (A.deeper (envOfC qual scope s.heap.objs.size f cdv)).guards = some [] → Room k (A.deeper (envOfC qual scope s.heap.objs.size f cdv)) → sp vs H Q E0 →
      ∃ t, PSs (cxOf CX0 P w K mg base N qual scope f cdv A outer s H E0).nox body t ∧ t { nx := fun _ H' => Q .non H', rt := Q } (start N vs) H) :
    FnG P w K mg base (k + 1) f (PySem.W.fnOf name qual params body scope dV kV doc pm an cdv ct) ps sp := by
  refine ⟨len, fun A outer s H args us vs Q hgd room env bind rv hsp => ?_⟩
  have KX : K.In s.heap := env.mod.kin.keeps fun b o e => (env.bs b o e).1
  have lim : s.heap.NoLimit := env.mod.nolimit.keeps fun b o e => (env.bs b o e).1
  have kinds : ∀ y ∈ ps.zip us, scope.names.lookup y.1 = some .local ∨ (scope.names.lookup y.1 = some .cell ∧ ((cellsFrom (s.heap.objs.size + 1) scope.names []).lookup y.1).isSome = true) := fun ⟨n, v⟩ hy =>
    (S.par n (List.of_mem_zip hy).1).imp_right fun q => ⟨q, PySem.W.cellsFrom_some _ _ _ (.inl q)⟩
  refine codeAny_call_function room.depth (KX _ _ lk) rfl S.co S.gen rfl (PySem.W.codeRec_of KX hcd) (bind _ _ _ _ (wpAny_newFunctionEnv_cells S.kind kinds fun ev he s1 x => ?_))
  subst he
  refine ⟨lim.keeps x.toInCall.keep, codeAny_func ?_⟩
  obtain ⟨t, ht, hq⟩ := hbody A outer s H vs Q hgd (room.deeper _) hsp
  have I := inv_start (CX := CX0) (E := E0) S room.hd env (len _ _ _ _ hsp) rv x
  refine wpAny_mono (ht.nox.run [] s1 (start N vs) H _ I hq) (fun fl s' hs => ?_) fun e s' hs => hs
  cases fl with
  | ret u => obtain ⟨v, σ', H', J, rv, q⟩ := hs; exact ⟨v, H', J.os, J.bare, J.base, J.hok, rv, q⟩
  | next => obtain ⟨σ', H', J, q⟩ := hs; exact ⟨V.non, H', J.os, J.bare, J.base, J.hok, rfl, q⟩
  | brk => obtain ⟨_, _, _, q⟩ := hs; exact q.elim
  | cont => obtain ⟨_, _, _, q⟩ := hs; exact q.elim
end
section
variable {X : Cx} {k : Nat} {f : Addr} {fd : FuncData} {ps : List Str} {sp : Sp} {x : Str} {p pos : Pos} {e : Expr} {es : List Expr} {t : TA}
theorem pe_callG (F : FnG X.prog X.w X.K X.mg X.base k f fd ps sp) (hG : X.A.guards = some []) (hr : Room k X.A) (hg : Gl X x) (hm : X.mg x = some (.ref f)) (hk : PySem.W.keepIn X.K (.ref f) = true) (hb : Binds X.K fd ps [])
    (ha : PA X (e :: es) t) (hdb : (x == ("__debug__" : Str)) = false := by decide) (he : starEach (e :: es) X.env = (false, eval e X.env) :: starEach es X.env := by rfl) (hpl : (backTo pos (starEach es X.env)).any (·.1) = false := by rfl) :
    PE X (.Call (.Name x p) (e :: es) [] pos) (tCall sp [] E0 t) := by
  refine ⟨fun pins s σ H Q I h => wpAny_Call_Name_kw (ld_glob I hg hm ?_ hdb)⟩
  refine PySem.W.callWith_K (h₀ := X.base) I.ok.mod.kin hk (thn (ha.run pos pins s σ H _ I h) fun us s1 ⟨vs, H1, I1, r, q⟩ => ⟨I1.kIn, ?_⟩) he hpl
  have q : sp vs H1 Q E0 := by
    have q' : sp (vs ++ []) H1 Q E0 := q
    rw [List.append_nil] at q'
    exact q'
  have hl : (us ++ []).length = ps.length := by rw [List.append_nil, ← r.length]; exact F.len _ _ _ _ q
  have hb' := hb s1 us I1.kIn hl
  rw [List.append_nil] at hb'
  show wpAny _ _ (call (Value.ref f) us) _ _ s1
  refine wpAny_call (codeAny_mono (F.run X.A X.stack s1 H1 ⟨us, []⟩ us vs Q hG hr I1.env0 hb' r q) fun r s' hq => ?_)
  cases r with
  | error e => exact (show False from hq).elim
  | ok fl =>
    cases fl with
    | ret u => exact I1.after hq
    | next => exact False.elim hq
    | brk => exact False.elim hq
    | cont => exact False.elim hq
end
end Pg

set_option Elab.async false
set_option linter.all false
set_option maxRecDepth 100000
set_option maxHeartbeats 4000000
namespace Pg
open PySem PySem.Spec PyProof.Rows L2

/-! ### a def of the text, called by its name -/
abbrev FnP (K : PySem.W.Frag) (x : Str) (st : Stmt) (f : Addr) (fd : FuncData) : Prop := FunD K x x (defArgs st) (defBody st) (defScope st) [] [] f fd
abbrev Cal := @C8.Cal
theorem mk_cal {P : Program} {w : World} {K : PySem.W.Frag} {mg : Str → Option Value} {base : Heap} {x : Str} {st : Stmt} {f : Addr} {fd : FuncData} {N ps : List Str} {k : Nat} {sp : Sp} (F : FnP K x st f fd) (hm : mg x = some (.ref f)) (S : FnScope N ps (defScope st))
    (hb : ∀ (kV doc pm : Value) (an : Option Addr) (cdv ct : Value) (us : List Value), us.length = ps.length → bindArgs (PySem.W.fnOf x x (defArgs st) (defBody st) (defScope st) .none kV doc pm an cdv ct) ⟨us, []⟩ = pure (ps.zip us))
    (len : ∀ vs H Q E, sp vs H Q E → vs.length = ps.length)
    (body : ∀ (cdv : Value) (A : Around) (outer : List Env) (s : Shared) (H : Hp) (vs : List V) (Q : VK) (E : XK), Room k (A.deeper (envOfC x (defScope st) s.heap.objs.size f cdv)) → sp vs H Q E →
      ∃ t, PSs (cxOf CX0 P w K mg base N x (defScope st) f cdv A outer s H E).nox (defBody st) t ∧ t { nx := fun _ H' => Q .non H', rt := Q } (start N vs) H) : Cal P w K mg base (k + 1) x sp [] :=
  ⟨f, fd, ps, [], F.ok S len (fun cdv A outer s H vs Q E hr h => let ⟨t, a, b⟩ := body cdv A outer s H vs Q E hr h; ⟨t, a.nox, b⟩), hm, F.kp, F.bindsN hb, .nil⟩
/-- a weaker promise, more room -/
theorem cal_imp {P : Program} {w : World} {K : PySem.W.Frag} {mg : Str → Option Value} {base : Heap} {x : Str} {k j : Nat} {sp sp' : Sp} {dv : List V} (c : Cal P w K mg base k x sp dv) (hk : k ≤ j) (h : ∀ vs H Q E, sp' vs H Q E → sp vs H Q E) : Cal P w K mg base j x sp' dv := by
  obtain ⟨f, fd, ps, ds, a, b, c, d, e⟩ := c.ex
  exact ⟨f, fd, ps, ds, (a.mono hk).imp h, b, c, d, e⟩
/-- no call with this promise -/
theorem cal_none {P : Program} {w : World} {K : PySem.W.Frag} {mg : Str → Option Value} {base : Heap} {x : Str} {k : Nat} {sp sp' : Sp} {dv : List V} (c : Cal P w K mg base k x sp' dv) (h : ∀ vs H Q E, ¬ sp vs H Q E) : Cal P w K mg base 0 x sp dv := by
  obtain ⟨f, fd, ps, ds, a, b, c, d, e⟩ := c.ex
  exact ⟨f, fd, ps, ds, ⟨fun vs H Q E q => absurd q (h vs H Q E), fun A outer s H args us vs Q E _ _ _ _ q => absurd q (h vs H Q E)⟩, b, c, d, e⟩

/-! ### what is kept -/
/-- all but the object at a -/
def Fr (a : Addr) (H H' : Hp) : Prop := ∀ b o, b ≠ a → H b = some o → H' b = some o
/-- tuples are kept -/
def TK (K : PySem.W.Frag) (H H' : Hp) : Prop := ∀ p xs, SqT K H p xs → SqT K H' p xs
section
variable {K : PySem.W.Frag} {H H1 H2 : Hp} {a p : Addr} {o : HO} {xs ys : List V}
theorem Fr.refl : Fr a H H := fun _ _ _ h => h
theorem Fr.trans (f : Fr a H H1) (g : Fr a H1 H2) : Fr a H H2 := fun b o n h => g b o n (f b o n h)
theorem Fr.of (s : Same H H1) : Fr a H H1 := fun b o _ h => s b o h
theorem Same.new (h : H p = none) : Same H (upd H p o) := fun b u q => by rw [upd_ne (ne_of_none q h)]; exact q
theorem Same.mut (h : H p = none) (s : Same H H1) : Same H (upd H1 p o) := fun b u q => by rw [upd_ne (ne_of_none q h)]; exact s b u q
theorem Fr.new (h : H p = none) : Fr a H (upd H p o) := .of (Same.new h)
theorem Fr.own : Fr a H (upd H a o) := fun b u n q => by rw [upd_ne n]; exact q
theorem Fr.mut (f : Fr a H H1) (h : H p = none) : Fr a H (upd H1 p o) := fun b u n q => by rw [upd_ne (ne_of_none q h)]; exact f b u n q
theorem TK.refl : TK K H H := fun _ _ h => h
theorem TK.trans (f : TK K H H1) (g : TK K H1 H2) : TK K H H2 := fun p xs h => g p xs (f p xs h)
theorem TK.same (s : Same H H1) : TK K H H1 := fun p xs h => by
  rcases h with (h | ⟨o, h⟩) | h
  · exact .inl (.inl (s _ _ h))
  · exact .inl (.inr ⟨o, s _ _ h⟩)
  · exact .inr h
theorem TK.fr (f : Fr a H H1) (hl : H a = some (.lst xs)) : TK K H H1 := fun p ys h => by
  rcases h with (h | ⟨o, h⟩) | h
  · exact .inl (.inl (f _ _ (ne_of h hl (by intro z; cases z)) h))
  · exact .inl (.inr ⟨o, f _ _ (ne_of h hl (by intro z; cases z)) h⟩)
  · exact .inr h
theorem TK.new (h : H p = none) : TK K H (upd H p o) := .same (Same.new h)
theorem TK.put (h : H p = some (.lst xs)) : TK K H (upd H p o) := .fr Fr.own h
theorem SqT.mk (h : H p = some (.tup xs)) : SqT K H p xs := .inl (.inl h)
theorem SqL.mk (h : H p = some (.lst xs)) : SqL K H p xs := .inl (.inl h)
theorem Fr.seq (f : Fr a H H1) (n : p ≠ a) (h : SqL K H p xs) : SqL K H1 p xs := by
  rcases h with (h | ⟨o, h⟩) | h
  · exact .inl (.inl (f _ _ n h))
  · exact .inl (.inr ⟨o, f _ _ n h⟩)
  · exact .inr h
theorem Fr.free (f : Fr a H H1) (h : H1 p = none) (n : p ≠ a) : H p = none := by
  cases q : H p with
  | none => rfl
  | some o => rw [f p o n q] at h; cases h
theorem same_free (s : Same H H1) (h : H1 p = none) : H p = none := s.free h
end

/-! ### the law's stream of numbers: state[0] a list of numbers below 1009 at n, state[1] how many were taken, at most m -/
structure StA (H : Hp) (a n : Addr) (m : Int) : Prop where
  ex : ∃ (ns : List Int) (c : Int), H a = some (.lst [.ref n, .int c]) ∧ H n = some (.lst (ns.map V.int)) ∧ n ≠ a ∧ ns ≠ [] ∧ ns.length ≤ 4000 ∧ (∀ x ∈ ns, 0 ≤ x ∧ x < 1009) ∧ 0 ≤ c ∧ c ≤ m
section
variable {K : PySem.W.Frag} {H H1 H2 : Hp} {a p n : Addr} {o : HO} {xs ys : List V} {m m' : Int}
theorem StA.mono (s : StA H a n m) (h : m ≤ m') : StA H a n m' := by
  obtain ⟨ns, c, h1, h2, h3, h4, h5, h6, h7, h8⟩ := s.ex
  exact ⟨ns, c, h1, h2, h3, h4, h5, h6, h7, by omega⟩
theorem StA.same (s : StA H a n m) (e : Same H H1) : StA H1 a n m := by
  obtain ⟨ns, c, h1, h2, h3, h4, h5, h6, h7, h8⟩ := s.ex
  exact ⟨ns, c, e _ _ h1, e _ _ h2, h3, h4, h5, h6, h7, h8⟩
theorem StA.at (s : StA H a n m) : ∃ xs, H a = some (.lst xs) := let ⟨ns, c, h1, _⟩ := s.ex; ⟨_, h1⟩
theorem StA.tk (s : StA H a n m) (f : Fr a H H1) : TK K H H1 := let ⟨_, h⟩ := s.at; TK.fr f h
theorem StA.ne (s : StA H a n m) (h : H p = none) : p ≠ a ∧ p ≠ n := by
  obtain ⟨ns, c, h1, h2, _⟩ := s.ex
  exact ⟨(ne_of_none h1 h).symm, (ne_of_none h2 h).symm⟩
theorem StA.put (s : StA H a n m) (h : p ≠ a ∧ p ≠ n) : StA (upd H p o) a n m := by
  obtain ⟨ns, c, h1, h2, h3, h4, h5, h6, h7, h8⟩ := s.ex
  exact ⟨ns, c, by rw [upd_ne h.1.symm]; exact h1, by rw [upd_ne h.2.symm]; exact h2, h3, h4, h5, h6, h7, h8⟩
theorem StA.new (s : StA H a n m) (h : H p = none) : StA (upd H p o) a n m := s.same (Same.new h)
theorem StA.free (s : StA H a n m) (f : Fr a H H1) (s1 : StA H1 a n m') (h : H1 p = none) : H p = none := f.free h (s1.ne h).1
end
/-- the promise of the law's next(state, many): some number below many; one more is taken -/
def spNext : Sp := fun vs H Q _ => ∃ (a n : Addr) (many m : Int), vs = [.ref a, .int many] ∧ 1 ≤ many ∧ StA H a n m ∧ m < 1000000 ∧ ∀ (r : Int) (H' : Hp), 0 ≤ r → r < many → Fr a H H' → StA H' a n (m + 1) → Q (.int r) H'

/-! ### terms and signs -/
inductive Tr where
  | nm (x : Str) | c0 (s : Str) | c1 (s : Str) (t : Tr) | c2 (s : Str) (t u : Tr)
def Tr.size : Tr → Nat
  | .nm _ => 1
  | .c0 _ => 1
  | .c1 _ t => 1 + t.size
  | .c2 _ t u => 1 + t.size + u.size
def Tr.dep : Tr → Nat
  | .nm _ => 1
  | .c0 _ => 1
  | .c1 _ t => 1 + t.dep
  | .c2 _ t u => 1 + max t.dep u.dep
theorem Tr.size_pos : ∀ t : Tr, 1 ≤ t.size
  | .nm _ => Nat.le_refl _
  | .c0 _ => Nat.le_refl _
  | .c1 _ t => by show 1 ≤ 1 + t.size; omega
  | .c2 _ t u => by show 1 ≤ 1 + t.size + u.size; omega
theorem Tr.dep_pos : ∀ t : Tr, 1 ≤ t.dep
  | .nm _ => Nat.le_refl _
  | .c0 _ => Nat.le_refl _
  | .c1 _ t => by show 1 ≤ 1 + t.dep; omega
  | .c2 _ t u => by show 1 ≤ 1 + max t.dep u.dep; omega
theorem Tr.dep_le : ∀ t : Tr, t.dep ≤ t.size
  | .nm _ => Nat.le_refl _
  | .c0 _ => Nat.le_refl _
  | .c1 _ t => by have := t.dep_le; show 1 + t.dep ≤ 1 + t.size; omega
  | .c2 _ t u => by have := t.dep_le; have := u.dep_le; show 1 + max t.dep u.dep ≤ 1 + t.size + u.size; omega
/-- the value v is the term -/
def TrAt (K : PySem.W.Frag) (H : Hp) : Tr → V → Prop
  | .nm x, v => v = .str x
  | .c0 s, v => ∃ p, v = .ref p ∧ SqT K H p [.str s]
  | .c1 s t, v => ∃ p u, v = .ref p ∧ SqT K H p [.str s, u] ∧ TrAt K H t u
  | .c2 s t t', v => ∃ p u u', v = .ref p ∧ SqT K H p [.str s, u, u'] ∧ TrAt K H t u ∧ TrAt K H t' u'
theorem TrAt.keep {K : PySem.W.Frag} {H H' : Hp} (k : TK K H H') : ∀ {t : Tr} {v : V}, TrAt K H t v → TrAt K H' t v
  | .nm _, _, h => h
  | .c0 _, _, ⟨p, e, q⟩ => ⟨p, e, k _ _ q⟩
  | .c1 _ _, _, ⟨p, u, e, q, r⟩ => ⟨p, u, e, k _ _ q, TrAt.keep k r⟩
  | .c2 _ _ _, _, ⟨p, u, u', e, q, r, r'⟩ => ⟨p, u, u', e, k _ _ q, TrAt.keep k r, TrAt.keep k r'⟩
abbrev Sg := List (Str × Int)
/-- the tuple of pairs at p -/
structure SgAt (K : PySem.W.Frag) (H : Hp) (p : Addr) (sg : Sg) : Prop where
  ex : ∃ rs : List Addr, SqT K H p (rs.map V.ref) ∧ Paired (fun r (s : Str × Int) => SqT K H r [.str s.1, .int s.2]) rs sg
theorem Paired.imp2 {α β : Type} {F G : α → β → Prop} (h : ∀ a b, F a b → G a b) : ∀ {xs : List α} {ys : List β}, Paired F xs ys → Paired G xs ys
  | _, _, .nil => .nil
  | _, _, .cons a t => .cons (h _ _ a) (Paired.imp2 h t)
theorem SgAt.keep {K : PySem.W.Frag} {H H' : Hp} {p : Addr} {sg : Sg} (k : TK K H H') (h : SgAt K H p sg) : SgAt K H' p sg := by
  obtain ⟨rs, a, b⟩ := h.ex
  exact ⟨rs, k _ _ a, Paired.imp2 (fun _ _ q => k _ _ q) b⟩
theorem paired_get {α β : Type} {F : α → β → Prop} : ∀ {xs : List α} {ys : List β} {i : Nat} {x : α}, Paired F xs ys → xs[i]? = some x → ∃ y, ys[i]? = some y ∧ F x y
  | _, _, _, _, .nil, e => by simp at e
  | _, _, 0, _, .cons r _, e => by simp at e; subst e; exact ⟨_, rfl, r⟩
  | _, _, i + 1, x, .cons _ t, e => by
    obtain ⟨u, h1, h2⟩ := paired_get (i := i) (x := x) t (by simpa using e)
    exact ⟨u, by simpa using h1, h2⟩
theorem paired_get2 {α β : Type} {F : α → β → Prop} : ∀ {xs : List α} {ys : List β} {i : Nat} {y : β}, Paired F xs ys → ys[i]? = some y → ∃ x, xs[i]? = some x ∧ F x y
  | _, _, _, _, .nil, e => by simp at e
  | _, _, 0, _, .cons r _, e => by simp at e; subst e; exact ⟨_, rfl, r⟩
  | _, _, i + 1, y, .cons _ t, e => by
    obtain ⟨u, h1, h2⟩ := paired_get2 (i := i) (y := y) t (by simpa using e)
    exact ⟨u, by simpa using h1, h2⟩
end Pg

set_option Elab.async false
set_option linter.all false
set_option maxRecDepth 100000
set_option maxHeartbeats 4000000
namespace Pg
open PySem PySem.Spec PyProof.Rows L2
/-! ### texts by their signs -/
abbrev cs (x : Str) : List Nat := x.cps.toList
theorem cs_app (x y : Str) : cs (x ++ y) = cs x ++ cs y := TL.tl_append x y
theorem cs_len (x : Str) : x.length = (cs x).length := by simp [Str.length, cs]
theorem cs_one (c : Nat) : cs (⟨#[c]⟩ : Str) = [c] := rfl
theorem cs_inj {x y : Str} (h : cs x = cs y) : x = y := TL.ext_tl h
/-! ### the law's words -/
def Ab (w : Str) : Prop := 1 ≤ (cs w).length ∧ (cs w).length ≤ 8 ∧ ∀ c ∈ cs w, c = 97 ∨ c = 98 ∨ c = 121 ∨ c = 122
def Wd (i : Nat) (w : Str) : Prop := Ab w ∨ (i < 26 ∧ cs w = [99, 97 + i])
structure Wds (ts : List Str) : Prop where
  nd : ts.Nodup
  wd : ∀ i t, ts[i]? = some t → Wd i t
theorem Wd.len {i : Nat} {w : Str} (h : Wd i w) : w.length ≤ 8 := by
  rw [cs_len]
  rcases h with h | ⟨_, h⟩
  · exact h.2.1
  · rw [h]; exact (by show 2 ≤ 8; decide)
theorem Wds.fresh {ts : List Str} {w : Str} (h : Wds ts) (e : cs w = [99, 97 + ts.length]) : w ∉ ts := fun hm => by
  obtain ⟨i, hi, q⟩ := List.getElem_of_mem hm
  have e1 : ts[i]? = some w := by rw [List.getElem?_eq_getElem hi, q]
  rcases h.wd i w e1 with ⟨_, _, z⟩ | ⟨_, z⟩
  · have := z 99 (by rw [e]; exact List.mem_cons_self ..)
    omega
  · rw [e] at z
    have := (List.cons.inj (List.cons.inj z).2).1
    omega
theorem Wds.snoc {ts : List Str} {w : Str} (h : Wds ts) (n : w ∉ ts) (d : Wd ts.length w) : Wds (ts ++ [w]) where
  nd := List.nodup_append.mpr ⟨h.nd, by simp, fun a ha b hb e => by
    rw [List.mem_singleton] at hb
    subst hb e
    exact n ha⟩
  wd := fun i t q => by
    by_cases hi : i < ts.length
    · rw [List.getElem?_append_left hi] at q
      exact h.wd i t q
    · rw [List.getElem?_append_right (by omega)] at q
      cases hk : i - ts.length with
      | zero =>
        rw [hk] at q
        have e : w = t := by simpa using q
        subst e
        rw [show i = ts.length by omega]
        exact d
      | succ k => rw [hk] at q; simp at q
theorem Wds.nil : Wds [] := ⟨List.nodup_nil, fun i t q => by simp at q⟩
theorem inV_strs (w : Str) (ts : List Str) : inV (.str w) (ts.map V.str) = decide (w ∈ ts) := by
  induction ts with
  | nil => rfl
  | cons t ts ih =>
    show ((t == w) || inV (.str w) (ts.map V.str)) = _
    rw [ih]
    by_cases e : t = w
    · subst e; simp
    · have e2 : (t == w) = false := beq_eq_false_iff_ne.mpr e
      have e3 : ¬ w = t := fun z => e z.symm
      rw [e2, Bool.false_or]
      simp [e3]
theorem flat_strs (ts : List Str) : (ts.map V.str).all flatV = true := by
  induction ts with
  | nil => rfl
  | cons t ts ih => exact ih
/-- some word that is not among ts is made; at most ten numbers are taken -/
def spWord (K : PySem.W.Frag) : Sp := fun vs H Q _ => ∃ (a n l : Addr) (ts : List Str) (m : Int), vs = [.ref a, .ref l] ∧ StA H a n m ∧ m < 900000 ∧ H l = some (.lst (ts.map V.str)) ∧ l ≠ a ∧ Wds ts ∧ ts.length < 26 ∧
  ∀ (w : Str) (H' : Hp), w ∉ ts → Wd ts.length w → Fr a H H' → StA H' a n (m + 10) → Q (.str w) H'
/-! ### the law's signs -/
structure GSg (sg : Sg) : Prop where
  len : 1 ≤ sg.length ∧ sg.length ≤ 4
  nd : (sg.map (·.1)).Nodup
  ar : ∀ s ∈ sg, 0 ≤ s.2 ∧ s.2 ≤ 2
  c0 : ∃ s ∈ sg, s.2 = 0
  wd : ∀ s ∈ sg, ∃ i, Wd i s.1
abbrev SgR (K : PySem.W.Frag) (H : Hp) (rs : List Addr) (sg : Sg) : Prop := Paired (fun r (s : Str × Int) => SqT K H r [.str s.1, .int s.2]) rs sg
theorem paired_app {α β : Type} {F : α → β → Prop} : ∀ {xs : List α} {ys : List β} {zs : List α} {ws : List β}, Paired F xs ys → Paired F zs ws → Paired F (xs ++ zs) (ys ++ ws)
  | _, _, _, _, .nil, h => h
  | _, _, _, _, .cons a t, h => .cons a (paired_app t h)
theorem paired_take {α β : Type} {F : α → β → Prop} : ∀ {xs : List α} {ys : List β} (n : Nat), Paired F xs ys → Paired F (xs.take n) (ys.take n)
  | _, _, 0, _ => .nil
  | _, _, _ + 1, .nil => .nil
  | _, _, n + 1, .cons a t => .cons a (paired_take n t)
theorem paired_drop {α β : Type} {F : α → β → Prop} : ∀ {xs : List α} {ys : List β} (n : Nat), Paired F xs ys → Paired F (xs.drop n) (ys.drop n)
  | _, _, 0, h => h
  | _, _, _ + 1, .nil => .nil
  | _, _, n + 1, .cons _ t => paired_drop n t
theorem paired_len {α β : Type} {F : α → β → Prop} {xs : List α} {ys : List β} (h : Paired F xs ys) : xs.length = ys.length := Paired.length h
theorem SgR.keep {K : PySem.W.Frag} {H H' : Hp} {rs : List Addr} {sg : Sg} (k : TK K H H') (h : SgR K H rs sg) : SgR K H' rs sg := Paired.imp2 (fun _ _ q => k _ _ q) h
theorem cutV_drop (xs : List V) (k : Nat) : cutV xs (some (k : Int)) none = xs.drop k := by
  unfold cutV
  rw [HT.sIx_nat, HT.sIx_none]
  by_cases h : k ≤ xs.length
  · rw [Nat.min_eq_left h, List.take_of_length_le (by rw [List.length_drop]; exact Nat.le_refl _)]
  · rw [Nat.min_eq_right (by omega), List.drop_eq_nil_of_le (Nat.le_refl _), List.drop_eq_nil_of_le (by omega)]
    simp
theorem cutV_take (xs : List V) (k : Nat) : cutV xs none (some (k : Int)) = xs.take k := by
  unfold cutV
  rw [HT.sIx_nat, HT.sIx_none, List.drop_zero, Nat.sub_zero]
  by_cases h : k ≤ xs.length
  · rw [Nat.min_eq_left h]
  · rw [Nat.min_eq_right (by omega), List.take_of_length_le (Nat.le_refl _), List.take_of_length_le (by omega)]
theorem GSg.rot {sg : Sg} (g : GSg sg) (k : Nat) : GSg (sg.drop k ++ sg.take k) := by
  have p : (sg.drop k ++ sg.take k).Perm sg := List.perm_append_comm.trans (by rw [List.take_append_drop])
  exact ⟨by rw [p.length_eq]; exact g.len, ((p.map _).nodup_iff).mpr g.nd, fun s h => g.ar s (p.mem_iff.mp h), let ⟨s, h, e⟩ := g.c0; ⟨s, p.mem_iff.mpr h, e⟩, fun s h => g.wd s (p.mem_iff.mp h)⟩
/-- [sign for sign, arity in ..] over a list or a tuple of pairs -/
theorem take_snoc {α : Type} {xs : List α} {i : Nat} {x : α} (h : xs[i]? = some x) : xs.take (i + 1) = xs.take i ++ [x] := by
  rw [List.take_add_one, h]
  rfl
def FstInv (H : Hp) (D : Addr) (sg : Sg) (i : Nat) (H' : Hp) : Prop := Same H H' ∧ H' D = some (.lst ((sg.take i).map fun s => V.str s.1))
section
variable {K : PySem.W.Frag} {σ : L2.St} {H : Hp} {Q : VK} {p : Addr} {rs : List Addr} {sg : Sg} {j1 j2 : Nat} {te : TE}
theorem yes_turn {σ : L2.St} {H : Hp} {F G : Hp → Prop} (h : F H) : tYes σ H fun b H3 => if b = true then F H3 else G H3 := by
  show (if true = true then F H else G H)
  rw [if_pos rfl]
  exact h
theorem fst_turn {D : Addr} {i : Nat} {x : V} {H' : Hp} (nD : H D = none) (pr : SgR K H rs sg) (h4 : sg.length ≤ 1000) (hw : ∀ x y, wipe (((wipe σ [j1, j2]).set j1 (some x)).set j2 (some y)) [j1, j2] = wipe σ [j1, j2])
    (hv : ∀ x y, (((wipe σ [j1, j2]).set j1 (some x)).set j2 (some y))[j1]? = some (some x)) (hx : (rs.map V.ref)[i]? = some x) (iv : FstInv H D sg i H') :
    gTup K 2 (gCons (gName j1) (gCons (gName j2) gNil)) x (wipe σ [j1, j2]) H' fun σ2 H2 => wipe σ2 [j1, j2] = wipe σ [j1, j2] ∧ tYes σ2 H2 fun b H3 =>
      if b = true then tVar j1 σ2 H3 fun y H4 => ∃ acc, H4 D = some (.lst acc) ∧ acc.length < sizeLine ∧ FstInv H D sg (i + 1) (upd H4 D (.lst (acc ++ [y]))) else FstInv H D sg (i + 1) H3 := by
  rw [List.getElem?_map] at hx
  cases e : rs[i]? with
  | none => rw [e] at hx; cases hx
  | some r =>
    rw [e] at hx
    obtain rfl : V.ref r = x := Option.some.inj hx
    obtain ⟨s, es, hr⟩ := paired_get pr e
    obtain ⟨sm, hd⟩ := iv
    refine ⟨r, _, rfl, TK.same sm _ _ hr, rfl, _, _, rfl, _, _, rfl, rfl, hw _ _, ?_⟩
    refine yes_turn ⟨_, hv _ _, _, hd, ?_, ?_, ?_⟩
    · rw [List.length_map, List.length_take]
      exact small1000 (by omega)
    · exact Same.mut nD sm
    · show upd H' D _ D = _
      rw [upd_same, take_snoc es, List.map_append]
      rfl
theorem rd_fstL {i : Nat} (hi : σ[i]? = some (some (.ref p))) (hS : SqL K H p (rs.map V.ref)) (pr : SgR K H rs sg) (h4 : sg.length ≤ 1000) (hw : ∀ x y, wipe (((wipe σ [j1, j2]).set j1 (some x)).set j2 (some y)) [j1, j2] = wipe σ [j1, j2])
    (hv : ∀ x y, (((wipe σ [j1, j2]).set j1 (some x)).set j2 (some y))[j1]? = some (some x)) (h : ∀ D H', H D = none → Same H H' → H' D = some (.lst ((sg.map (·.1)).map V.str)) → Q (.ref D) H') :
    tLc (iList K (tVar i)) (gTup K 2 (gCons (gName j1) (gCons (gName j2) gNil))) tYes (tVar j1) [j1, j2] σ H Q := by
  refine ⟨_, hi, p, rfl, ⟨_, hS⟩, fun D nD => lc_list (K := K) (xs := rs.map V.ref) (FstInv H D sg) ⟨Same.new nD, upd_same⟩ (fun i H' _ iv => iv.1.seq hS) (fun i x H' hx iv => fst_turn nD pr h4 hw hv hx iv) (fun H' iv => ?_)⟩
  obtain ⟨sm, hd⟩ := iv
  rw [List.length_map, paired_len pr, List.take_length] at hd
  exact h D H' nD sm (by rw [List.map_map]; exact hd)
theorem rd_fstT {i : Nat} (hi : σ[i]? = some (some (.ref p))) (hS : SqT K H p (rs.map V.ref)) (pr : SgR K H rs sg) (h4 : sg.length ≤ 1000) (hw : ∀ x y, wipe (((wipe σ [j1, j2]).set j1 (some x)).set j2 (some y)) [j1, j2] = wipe σ [j1, j2])
    (hv : ∀ x y, (((wipe σ [j1, j2]).set j1 (some x)).set j2 (some y))[j1]? = some (some x)) (h : ∀ D H', H D = none → Same H H' → H' D = some (.lst ((sg.map (·.1)).map V.str)) → Q (.ref D) H') :
    tLc (iTup K (tVar i)) (gTup K 2 (gCons (gName j1) (gCons (gName j2) gNil))) tYes (tVar j1) [j1, j2] σ H Q := by
  refine ⟨_, hi, p, rfl, ⟨_, hS⟩, fun D nD => lc_tup (K := K) (xs := rs.map V.ref) (FstInv H D sg) ⟨Same.new nD, upd_same⟩ (fun i H' _ iv => TK.same iv.1 _ _ hS) (fun i x H' hx iv => fst_turn nD pr h4 hw hv hx iv) (fun H' iv => ?_)⟩
  obtain ⟨sm, hd⟩ := iv
  rw [List.length_map, paired_len pr, List.take_length] at hd
  exact h D H' nD sm (by rw [List.map_map]; exact hd)
end
/-- many signs are made -/
def spSigns (K : PySem.W.Frag) : Sp := fun vs H Q _ => ∃ (a n : Addr) (many m : Int), vs = [.ref a, .int many] ∧ StA H a n m ∧ m < 800000 ∧ 1 ≤ many ∧ many ≤ 4 ∧
  ∀ (p : Addr) (sg : Sg) (H' : Hp), SgAt K H' p sg → GSg sg → Fr a H H' → StA H' a n (m + 50) → Q (.ref p) H'
/-- the stream of a script's numbers -/
def InR (ns : List Int) : Prop := ∀ x ∈ ns, 0 ≤ x ∧ x < 1009
theorem InR.snoc {ns : List Int} {x : Int} (h : InR ns) (h0 : 0 ≤ x) (h1 : x < 1009) : InR (ns ++ [x]) := fun y hy => by
  rcases List.mem_append.mp hy with h' | h'
  · exact h y h'
  · rw [List.mem_singleton] at h'
    rw [h']
    exact ⟨h0, h1⟩
def spStream (K : PySem.W.Frag) : Sp := fun vs H Q _ => ∃ (a : Addr) (zs : List Int), vs = [.ref a] ∧ SqL K H a (zs.map V.int) ∧ zs.length ≤ 63 ∧
  ∀ (p : Addr) (ns : List Int) (H' : Hp), H p = none → Same H H' → H' p = some (.lst (ns.map V.int)) → ns ≠ [] → ns.length ≤ 4000 → InR ns → Q (.ref p) H'
theorem mod_in (x : Int) : 0 ≤ x % 1009 ∧ x % 1009 < 1009 := ⟨Int.emod_nonneg _ (by decide), Int.emod_lt_of_pos _ (by decide)⟩
/-! ### tests whose answer is known -/
def TV (tc : TT) (σ : L2.St) (H : Hp) (b : Bool) : Prop := ∀ Q : Bool → Hp → Prop, Q b H → tc σ H Q
section
variable {t u : TT} {σ : L2.St} {H : Hp} {a b : Bool}
theorem TV.and (h : TV t σ H a) (k : TV u σ H b) : TV (tAnd t u) σ H (a && b) := fun Q q => h _ (by
  cases a with
  | false => rw [if_neg Bool.false_ne_true]; exact q
  | true => rw [if_pos rfl]; exact k Q q)
theorem TV.or (h : TV t σ H a) (k : TV u σ H b) : TV (tOr t u) σ H (a || b) := fun Q q => h _ (by
  cases a with
  | true => rw [if_pos rfl]; exact q
  | false => rw [if_neg Bool.false_ne_true]; exact k Q q)
theorem TV.not (h : TV t σ H a) : TV (tNot t) σ H (!a) := fun Q q => h _ q
theorem TV.ifs {T U : TS} {D : Ends} (h : TV t σ H b) (ht : b = true → T D σ H) (hu : b = false → U D σ H) : tIfS t T U D σ H := h _ (by
  cases b with
  | true => rw [if_pos rfl]; exact ht rfl
  | false => rw [if_neg Bool.false_ne_true]; exact hu rfl)
theorem TV.ite {F G : Hp → Prop} (h : TV t σ H b) (ht : b = true → F H) (hu : b = false → G H) : t σ H fun b H3 => if b = true then F H3 else G H3 := h _ (by
  cases b with
  | true => rw [if_pos rfl]; exact ht rfl
  | false => rw [if_neg Bool.false_ne_true]; exact hu rfl)
end
/-! ### terms over signs -/
def Wf (sg : Sg) (nms : List Str) : Tr → Prop
  | .nm x => x ∈ nms
  | .c0 s => (s, 0) ∈ sg
  | .c1 s t => (s, 1) ∈ sg ∧ Wf sg nms t
  | .c2 s t u => (s, 2) ∈ sg ∧ Wf sg nms t ∧ Wf sg nms u
theorem mem_ar {sg : Sg} {s : Str × Int} {k : Int} (h : s ∈ sg) (e : s.2 = k) : (s.1, k) ∈ sg := by
  subst e
  exact h
theorem mk_none {P : Program} {w : World} {K : PySem.W.Frag} {mg : Str → Option Value} {base : Heap} {x : Str} {st : Stmt} {f : Addr} {fd : FuncData} {ps : List Str} {k : Nat} {sp : Sp} (F : FnP K x st f fd) (hm : mg x = some (.ref f))
    (hb : ∀ (kV doc pm : Value) (an : Option Addr) (cdv ct : Value) (us : List Value), us.length = ps.length → bindArgs (PySem.W.fnOf x x (defArgs st) (defBody st) (defScope st) .none kV doc pm an cdv ct) ⟨us, []⟩ = pure (ps.zip us))
    (h : ∀ vs H Q E, ¬ sp vs H Q E) : Cal P w K mg base k x sp [] :=
  ⟨f, fd, ps, [], ⟨fun vs H Q E q => absurd q (h vs H Q E), fun A outer s H args us vs Q E _ _ _ _ q => absurd q (h vs H Q E)⟩, hm, F.kp, F.bindsN hb, .nil⟩
/-- a term of at most room signs and names is made -/
def spTerm (K : PySem.W.Frag) (lvl : Nat) : Sp := fun vs H Q _ => ∃ (a n g l : Addr) (sg : Sg) (nms : List Str) (room m : Int), vs = [.ref a, .ref g, .ref l, .int room] ∧ StA H a n m ∧ m + 3 * room < 700000 ∧ SgAt K H g sg ∧ GSg sg ∧
  SqL K H l (nms.map V.str) ∧ l ≠ a ∧ nms.length ≤ 1000 ∧ 1 ≤ room ∧ room.toNat ≤ lvl ∧
  ∀ (v : V) (t : Tr) (H' : Hp), TrAt K H' t v → Wf sg nms t → t.size ≤ room.toNat → Fr a H H' → StA H' a n (m + 3 * room) → Q v H'
/-- some of the pairs are taken over into the new list at D -/
def PickInv (K : PySem.W.Frag) (H : Hp) (D : Addr) (sg : Sg) (C Z : Str × Int → Prop) (i : Nat) (H' : Hp) : Prop :=
  Same H H' ∧ ∃ (rs : List Addr) (sg' : Sg), H' D = some (.lst (rs.map V.ref)) ∧ SgR K H' rs sg' ∧ sg'.length ≤ i ∧ (∀ s ∈ sg', s ∈ sg ∧ C s) ∧ (∀ s ∈ sg.take i, Z s → sg' ≠ [])
section
variable {K : PySem.W.Frag} {σ : L2.St} {H : Hp} {Q : VK} {p : Addr} {rs : List Addr} {sg : Sg} {j : Nat} {te : TE} {tt : TT} {C Z : Str × Int → Prop}
/-- [one for one in signs if ..]: of each pair the test tells b; it is taken over if b; C is what is known then -/
theorem rd_pick {i : Nat} (hi : σ[i]? = some (some (.ref p))) (hS : SqT K H p (rs.map V.ref)) (pr : SgR K H rs sg) (h4 : sg.length ≤ 1000) (hw : ∀ x, wipe ((wipe σ [j]).set j (some x)) [j] = wipe σ [j]) (hv : ∀ x, ((wipe σ [j]).set j (some x))[j]? = some (some x))
    (htt : ∀ (r : Addr) (s : Str × Int) (H' : Hp), SqT K H' r [.str s.1, .int s.2] → s ∈ sg → ∃ b, TV tt ((wipe σ [j]).set j (some (.ref r))) H' b ∧ (b = true → C s) ∧ (b = false → ¬ Z s))
    (h : ∀ D H' rs' sg', H D = none → Same H H' → H' D = some (.lst (rs'.map V.ref)) → SgR K H' rs' sg' → sg'.length ≤ sg.length → (∀ s ∈ sg', s ∈ sg ∧ C s) → (∀ s ∈ sg, Z s → sg' ≠ []) → Q (.ref D) H') :
    tLc (iTup K (tVar i)) (gName j) tt (tVar j) [j] σ H Q := by
  refine ⟨_, hi, p, rfl, ⟨_, hS⟩, fun D nD => lc_tup (K := K) (xs := rs.map V.ref) (PickInv K H D sg C Z)
    ⟨Same.new nD, [], [], upd_same, .nil, Nat.le_refl _, (fun _ h => absurd h List.not_mem_nil), (fun s h => by rw [List.take_zero] at h; exact absurd h List.not_mem_nil)⟩ (fun i H' _ iv => TK.same iv.1 _ _ hS) (fun i x H' hx iv => ?_) (fun H' iv => ?_)⟩
  · rw [List.getElem?_map] at hx
    cases e : rs[i]? with
    | none => rw [e] at hx; cases hx
    | some r =>
      rw [e] at hx
      obtain rfl : V.ref r = x := Option.some.inj hx
      obtain ⟨s, es, hr⟩ := paired_get pr e
      obtain ⟨sm, rs', sg', hd, pr', hl, hc, hz⟩ := iv
      have hil : i < sg.length := (List.getElem?_eq_some_iff.mp es).1
      have hs : s ∈ sg := List.mem_of_getElem? es
      have hr' : SqT K H' r [.str s.1, .int s.2] := TK.same sm _ _ hr
      obtain ⟨b, tv, h1, h2⟩ := htt r s H' hr' hs
      refine ⟨hw _, tv.ite (fun e => ?_) (fun e => ?_)⟩
      · have hlen : (rs'.map V.ref).length < sizeLine := by rw [List.length_map, paired_len pr']; exact small1000 (by omega)
        refine ⟨_, hv _, _, hd, hlen, Same.mut nD sm, rs' ++ [r], sg' ++ [s], by rw [List.map_append]; exact upd_same, ?_, by rw [List.length_append, List.length_singleton]; omega, fun t ht => ?_, fun t _ _ => by simp⟩
        · exact SgR.keep (TK.put hd) (paired_app pr' (.cons hr' .nil))
        · rcases List.mem_append.mp ht with q | q
          · exact hc t q
          · rw [List.mem_singleton] at q
            subst q
            exact ⟨hs, h1 e⟩
      · refine ⟨sm, rs', sg', hd, pr', by omega, hc, fun t ht hC => ?_⟩
        rw [take_snoc es] at ht
        rcases List.mem_append.mp ht with q | q
        · exact hz t q hC
        · rw [List.mem_singleton] at q
          subst q
          exact absurd hC (h2 e)
  · obtain ⟨sm, rs', sg', hd, pr', hl, hc, hz⟩ := iv
    rw [List.length_map, paired_len pr] at hl hz
    rw [List.take_length] at hz
    exact h D H' rs' sg' nD sm hd pr' hl hc hz
end
end Pg

set_option Elab.async false
set_option linter.all false
set_option maxRecDepth 100000
set_option maxHeartbeats 4000000
namespace Pg
open PySem PySem.Spec PyProof.Rows L2
/-! ### trees: terms without names -/
def Pl : Tr → Prop
  | .nm _ => False
  | .c0 _ => True
  | .c1 _ t => Pl t
  | .c2 _ t u => Pl t ∧ Pl u
def Tr.sym : Tr → Str
  | .nm x => x
  | .c0 s => s
  | .c1 s _ => s
  | .c2 s _ _ => s
def Tr.kids : Tr → List Tr
  | .nm _ => []
  | .c0 _ => []
  | .c1 _ t => [t]
  | .c2 _ t u => [t, u]
theorem Wf.pl {sg : Sg} : ∀ {t : Tr}, Wf sg [] t → Pl t
  | .nm _, h => absurd h List.not_mem_nil
  | .c0 _, _ => trivial
  | .c1 _ t, h => Wf.pl (t := t) h.2
  | .c2 _ t u, h => ⟨Wf.pl (t := t) h.2.1, Wf.pl (t := u) h.2.2⟩
theorem Pl.kid {t k : Tr} (h : Pl t) (m : k ∈ t.kids) : Pl k := by
  cases t with
  | nm x => exact absurd m List.not_mem_nil
  | c0 s => exact absurd m List.not_mem_nil
  | c1 s t => rw [show (Tr.c1 s t).kids = [t] from rfl, List.mem_singleton] at m; rw [m]; exact h
  | c2 s t u =>
    rcases List.mem_cons.mp (show k ∈ [t, u] from m) with e | e
    · rw [e]; exact h.1
    · rw [List.mem_singleton] at e; rw [e]; exact h.2
theorem Wf.kid {sg : Sg} {nms : List Str} {t k : Tr} (h : Wf sg nms t) (m : k ∈ t.kids) : Wf sg nms k := by
  cases t with
  | nm x => exact absurd m List.not_mem_nil
  | c0 s => exact absurd m List.not_mem_nil
  | c1 s t => rw [show (Tr.c1 s t).kids = [t] from rfl, List.mem_singleton] at m; rw [m]; exact h.2
  | c2 s t u =>
    rcases List.mem_cons.mp (show k ∈ [t, u] from m) with e | e
    · rw [e]; exact h.2.1
    · rw [List.mem_singleton] at e; rw [e]; exact h.2.2
theorem Wf.sym {sg : Sg} {t : Tr} (h : Wf sg [] t) : (t.sym, (t.kids.length : Int)) ∈ sg := by
  cases t with
  | nm x => exact absurd h List.not_mem_nil
  | c0 s => exact h
  | c1 s t => exact h.1
  | c2 s t u => exact h.1
theorem Tr.dep_kid {t k : Tr} (m : k ∈ t.kids) : k.dep + 1 ≤ t.dep := by
  cases t with
  | nm x => exact absurd m List.not_mem_nil
  | c0 s => exact absurd m List.not_mem_nil
  | c1 s t => rw [show (Tr.c1 s t).kids = [t] from rfl, List.mem_singleton] at m; rw [m]; show t.dep + 1 ≤ 1 + t.dep; omega
  | c2 s t u =>
    show k.dep + 1 ≤ 1 + max t.dep u.dep
    rcases List.mem_cons.mp (show k ∈ [t, u] from m) with e | e
    · rw [e]; omega
    · rw [List.mem_singleton] at e; rw [e]; omega
theorem Tr.kids_le (t : Tr) : t.kids.length ≤ 2 := by cases t <;> first | exact Nat.zero_le _ | exact Nat.le_refl _ | exact Nat.le_succ _
theorem Tr.size_kids (t : Tr) : (t.size : Int) = 1 + (t.kids.map fun k => (k.size : Int)).sum := by
  cases t with
  | nm x => rfl
  | c0 s => rfl
  | c1 s t =>
    show ((1 + t.size : Nat) : Int) = 1 + ((t.size : Int) + 0)
    omega
  | c2 s t u =>
    show ((1 + t.size + u.size : Nat) : Int) = 1 + ((t.size : Int) + ((u.size : Int) + 0))
    omega
theorem paired_eq {α β : Type} {g : β → α} : ∀ {xs : List α} {ys : List β}, Paired (fun v k => v = g k) xs ys → xs = ys.map g
  | _, _, .nil => rfl
  | _, _, .cons a t => by rw [List.map_cons, ← a, ← paired_eq t]
theorem at0 {α : Type} (x : α) (us : List α) : atI (x :: us) 0 = some x := atI_nat (j := 0) rfl
abbrev KidsAt (K : PySem.W.Frag) (H : Hp) (us : List V) (ks : List Tr) : Prop := Paired (fun u k => TrAt K H k u) us ks
theorem KidsAt.keep {K : PySem.W.Frag} {H H' : Hp} {us : List V} {ks : List Tr} (k : TK K H H') (h : KidsAt K H us ks) : KidsAt K H' us ks := Paired.imp2 (fun _ _ q => TrAt.keep k q) h
theorem TrAt.open_ {K : PySem.W.Frag} {H : Hp} {t : Tr} {v : V} (hp : Pl t) (h : TrAt K H t v) : ∃ p us, v = .ref p ∧ SqT K H p (.str t.sym :: us) ∧ KidsAt K H us t.kids := by
  cases t with
  | nm x => exact hp.elim
  | c0 s => obtain ⟨p, e, q⟩ := h; exact ⟨p, [], e, q, .nil⟩
  | c1 s t => obtain ⟨p, u, e, q, r⟩ := h; exact ⟨p, [u], e, q, .cons r .nil⟩
  | c2 s t t' => obtain ⟨p, u, u', e, q, r, r'⟩ := h; exact ⟨p, [u, u'], e, q, .cons r (.cons r' .nil)⟩
theorem TrAt.mk {K : PySem.W.Frag} {H : Hp} {t : Tr} {p : Addr} {us : List V} (hp : Pl t) (q : SqT K H p (.str t.sym :: us)) (r : KidsAt K H us t.kids) : TrAt K H t (.ref p) := by
  cases t with
  | nm x => exact hp.elim
  | c0 s => cases r; exact ⟨p, rfl, q⟩
  | c1 s t =>
    cases r with
    | cons a b => cases b; exact ⟨p, _, rfl, q, a⟩
  | c2 s t t' =>
    cases r with
    | cons a b =>
      cases b with
      | cons c d => cases d; exact ⟨p, _, _, rfl, q, a, c⟩
section
variable {K : PySem.W.Frag} {σ : L2.St} {H : Hp} {Q : VK} {p q : Addr} {us : List V} {ks : List Tr} {j : Nat} {te : TE} {x : V}
/-- t[1:] of a tree's tuple -/
theorem tail_no {x : V} {us : List V} {A : Prop} (z : HT.sIx (x :: us).length 0 (some 1) = 0 ∧ HT.sIx (x :: us).length (x :: us).length none = (x :: us).length) : A := by
  have := HT.sIx_nat (x :: us).length 0 1
  rw [show ((1 : Nat) : Int) = 1 from rfl, z.1, List.length_cons] at this
  omega
theorem tail_cut (x : V) (us : List V) : cutV (x :: us) (some 1) none = us := cutV_drop (x :: us) 1
/-- [f(part) for part in ..] over a tree's parts, f changes nothing that stands; R tells of each part what f hands back -/
theorem rd_kids {wi : TI} (hwi : ∀ R, (∀ q H1, Same H H1 → SqT K H1 q us → R (Itt K q) H1) → wi σ H R) (R : Hp → V → Tr → Prop) (mono : ∀ H H' v k, TK K H H' → R H v k → R H' v k) (pr : KidsAt K H us ks) (hlen : ks.length ≤ 1000)
    (hw : ∀ x, wipe ((wipe σ [j]).set j (some x)) [j] = wipe σ [j])
    (ht : ∀ u k H', k ∈ ks → Same H H' → TrAt K H' k u → ∀ Q', (∀ v H2, Same H' H2 → R H2 v k → Q' v H2) → te ((wipe σ [j]).set j (some u)) H' Q')
    (h : ∀ D H' ws, H D = none → Same H H' → H' D = some (.lst ws) → Paired (R H') ws ks → Q (.ref D) H') : tLc wi (gName j) tYes te [j] σ H Q := by
  refine hwi _ (fun q H1 s1 hS D nD => ?_)
  have nD0 : H D = none := same_free s1 nD
  refine lc_tup (K := K) (xs := us) (fun i H' => Same H1 H' ∧ ∃ ws, H' D = some (.lst ws) ∧ Paired (R H') ws (ks.take i)) ⟨Same.new nD, [], upd_same, .nil⟩ (fun i H' _ iv => TK.same iv.1 _ _ hS) (fun i x H' hx iv => ?_) (fun H' iv => ?_)
  · obtain ⟨sm, ws, hd, hr⟩ := iv
    obtain ⟨k, ek, hk⟩ := paired_get pr hx
    have hlt : i < ks.length := (List.getElem?_eq_some_iff.mp ek).1
    refine ⟨hw _, yes_turn ?_⟩
    refine ht x k H' (List.mem_of_getElem? ek) (s1.trans sm) (TrAt.keep (TK.same (s1.trans sm)) hk) _ (fun v H2 s2 r2 => ?_)
    have hd2 := s2 _ _ hd
    refine ⟨ws, hd2, by rw [paired_len hr, List.length_take]; exact small1000 (by omega), Same.mut nD (sm.trans s2), ws ++ [v], upd_same, ?_⟩
    rw [take_snoc ek]
    exact paired_app (Paired.imp2 (fun _ _ r => mono _ _ _ _ ((TK.same s2).trans (TK.put hd2)) r) hr) (.cons (mono _ _ _ _ (TK.put hd2) r2) .nil)
  · obtain ⟨sm, ws, hd, hr⟩ := iv
    rw [paired_len pr, List.take_length] at hr
    exact h D H' ws nD0 (s1.trans sm) hd hr
/-- part in t[1:] -/
theorem it_tail {i : Nat} (hi : σ[i]? = some (some (.ref p))) (hS : SqT K H p (x :: us)) : ∀ R, (∀ q H1, Same H H1 → SqT K H1 q us → R (Itt K q) H1) → iTup K (tSl (rSlA K) (tVar i) (tPart (tC (.int 1))) tNoPart) σ H R := fun R h =>
  ⟨_, hi, 1, rfl, p, _, rfl, hS, fun z => tail_no z, fun _ q nq => by
    rw [tail_cut]
    exact ⟨q, rfl, ⟨_, SqT.mk upd_same⟩, h q _ (Same.new nq) (SqT.mk upd_same)⟩⟩
end
/-! ### what the law's own walks tell of a tree -/
/-- the size -/
def spSize (K : PySem.W.Frag) (d : Nat) : Sp := fun vs H Q _ => ∃ (v : V) (t : Tr), vs = [v] ∧ TrAt K H t v ∧ Pl t ∧ t.dep ≤ d ∧ ∀ H', Same H H' → Q (.int t.size) H'
/-- a copy -/
def spCopy (K : PySem.W.Frag) (d : Nat) : Sp := fun vs H Q _ => ∃ (v : V) (t : Tr), vs = [v] ∧ TrAt K H t v ∧ Pl t ∧ t.dep ≤ d ∧ ∀ v' H', Same H H' → TrAt K H' t v' → Q v' H'
def place (sg : Sg) (s : Str) : Nat := (sg.map (·.1)).idxOf s
/-- the key of a tree, as data -/
def keyD (sg : Sg) : Tr → PyData
  | .nm _ => .none
  | .c0 s => .tuple [.int 1, .int (place sg s)]
  | .c1 s t => .tuple [.int (Tr.c1 s t).size, .int (place sg s), keyD sg t]
  | .c2 s t u => .tuple [.int (Tr.c2 s t u).size, .int (place sg s), keyD sg t, keyD sg u]
theorem keyD_eq (sg : Sg) {t : Tr} (h : Pl t) : keyD sg t = .tuple (.int t.size :: .int (place sg t.sym) :: t.kids.map (keyD sg)) := by
  cases t with
  | nm x => exact h.elim
  | c0 s => rfl
  | c1 s t => rfl
  | c2 s t u => rfl
theorem key_keep {K : PySem.W.Frag} {H H' : Hp} (k : TK K H H') (sg : Sg) : ∀ (t : Tr) (v : V), Pl t → Dp K H v (keyD sg t) → Dp K H' v (keyD sg t)
  | .nm _, _, h, _ => h.elim
  | .c0 s, v, _, h => by
    have h : Dp K H v (.tuple [.int 1, .int (place sg s)]) := h
    show Dp K H' v (.tuple [.int 1, .int (place sg s)])
    cases h with
    | tup hs ha =>
      cases ha with
      | cons a b => cases a; cases b with
        | cons c d => cases c; cases d; exact .tup (k _ _ hs) (.cons (.int _) (.cons (.int _) .nil))
  | .c1 s t, v, hp, h => by
    have h : Dp K H v (.tuple [.int (Tr.c1 s t).size, .int (place sg s), keyD sg t]) := h
    show Dp K H' v (.tuple [.int (Tr.c1 s t).size, .int (place sg s), keyD sg t])
    cases h with
    | tup hs ha =>
      cases ha with
      | cons a b => cases a; cases b with
        | cons c d => cases c; cases d with
          | cons e f => cases f; exact .tup (k _ _ hs) (.cons (.int _) (.cons (.int _) (.cons (key_keep k sg t _ hp e) .nil)))
  | .c2 s t u, v, hp, h => by
    have h : Dp K H v (.tuple [.int (Tr.c2 s t u).size, .int (place sg s), keyD sg t, keyD sg u]) := h
    show Dp K H' v (.tuple [.int (Tr.c2 s t u).size, .int (place sg s), keyD sg t, keyD sg u])
    cases h with
    | tup hs ha =>
      cases ha with
      | cons a b => cases a; cases b with
        | cons c d => cases c; cases d with
          | cons e f => cases f with
            | cons g i => cases i; exact .tup (k _ _ hs) (.cons (.int _) (.cons (.int _) (.cons (key_keep k sg t _ hp.1 e) (.cons (key_keep k sg u _ hp.2 g) .nil))))
def spKey (K : PySem.W.Frag) (d : Nat) : Sp := fun vs H Q _ => ∃ (g : Addr) (sg : Sg) (v : V) (t : Tr), vs = [.ref g, v] ∧ SgAt K H g sg ∧ GSg sg ∧ TrAt K H t v ∧ Wf sg [] t ∧ t.dep ≤ d ∧ ∀ v' H', Same H H' → Dp K H' v' (keyD sg t) → Q v' H'
/-- the place of a word among the signs' -/
theorem place_at {sg : Sg} {s : Str} (h : s ∈ sg.map (·.1)) : place sg s < sg.length ∧ ((sg.map (·.1)).map V.str)[place sg s]? = some (.str s) ∧ ∀ (m : Nat) (z : V), m < place sg s → ((sg.map (·.1)).map V.str)[m]? = some z → eqV z (.str s) = false := by
  have h1 : (sg.map (·.1)).idxOf s < (sg.map (·.1)).length := List.idxOf_lt_length_iff.mpr h
  refine ⟨by rw [List.length_map] at h1; exact h1, ?_, fun m z hm e => ?_⟩
  · show ((sg.map (·.1)).map V.str)[(sg.map (·.1)).idxOf s]? = _
    rw [List.getElem?_map, List.getElem?_eq_getElem h1]
    show some (V.str ((sg.map (·.1))[(sg.map (·.1)).idxOf s])) = _
    rw [List.getElem_idxOf]
  · rw [List.getElem?_map] at e
    have hm' : m < (sg.map (·.1)).length := Nat.lt_trans hm h1
    rw [List.getElem?_eq_getElem hm'] at e
    obtain rfl : V.str ((sg.map (·.1))[m]) = z := Option.some.inj e
    have hne : (sg.map (·.1))[m] ≠ s := fun q => by
      have hm2 : m < (sg.map (·.1)).findIdx (· == s) := hm
      have := List.not_of_lt_findIdx hm2
      simp [q] at this
    exact beq_eq_false_iff_ne.mpr hne
end Pg

set_option Elab.async false
set_option linter.all false
set_option maxRecDepth 100000
set_option maxHeartbeats 4000000
namespace Pg
open PySem PySem.Spec PyProof.Rows L2
section
variable {X : Cx} {c : Expr} {t : TT}
/-- a test, with a word of one's own behind it -/
def tMid (t : TT) : TT := fun σ H Q => ∃ M : Bool → Hp → Prop, t σ H M ∧ ∀ b H', M b H' → Q b H'
theorem pt_mid (h : PT X c t) : PT X c (tMid t) := ⟨fun pins s σ H Q I ⟨M, hm, hq⟩ => thn (h.run pins s σ H M I hm) fun b s1 ⟨H1, I1, q⟩ => ⟨H1, I1, hq b H1 q⟩⟩
/-- a while over tests whose answer is known; the measure falls -/
theorem while_tv {tc : TT} {tb : TS} {D : Ends} {σ : L2.St} {H : Hp} (Pv : Nat → L2.St → Hp → Prop) (h0 : ∃ m, Pv m σ H)
    (hs : ∀ m σ H, Pv m σ H → ∃ b, TV tc σ H b ∧ (b = true → tb { D with nx := fun σ' H' => ∃ m', m' < m ∧ Pv m' σ' H', ct := fun σ' H' => ∃ m', m' < m ∧ Pv m' σ' H', bk := D.nx } σ H) ∧ (b = false → D.nx σ H)) : tWhile tc tb D σ H := by
  refine ⟨Pv, h0, fun m σ H p => ?_⟩
  obtain ⟨b, tv, h1, h2⟩ := hs m σ H p
  refine tv _ ?_
  cases b with
  | true => rw [if_pos rfl]; exact ⟨_, fun _ _ h => h, h1 rfl⟩
  | false => rw [if_neg Bool.false_ne_true]; exact h2 rfl
end
section
variable {K : PySem.W.Frag} {H : Hp} {Q : VK} {a b p : Addr} {xs ys : List V}
theorem rd_catA (hx : SqT K H a xs) (hy : SqT K H b ys) (h0 : xs ≠ []) (hl : xs.length + ys.length ≤ 1000) (h : ∀ p H', Same H H' → SqT K H' p (xs ++ ys) → Q (.ref p) H') : rCatA K (.ref a) (.ref b) H Q :=
  ⟨a, b, xs, ys, rfl, rfl, hx, hy, Nat.le_of_lt (small1000 hl), fun e => absurd e h0, fun _ e => h a H (Same.refl H) (by rw [e, List.append_nil]; exact hx), fun _ _ p np => h p _ (Same.new np) (SqT.mk upd_same)⟩
/-- t[:k], t[k:] of a tuple, 0 < k < its length -/
theorem to_no {i : Int} {k : Nat} {A : Prop} (e : i = (k : Int)) (hk : k < xs.length) (z : HT.sIx xs.length 0 none = 0 ∧ HT.sIx xs.length xs.length (some i) = xs.length) : A := by
  subst e
  have h := z.2
  rw [HT.sIx_nat, Nat.min_eq_left (Nat.le_of_lt hk)] at h
  omega
theorem cut_to {i : Int} {k : Nat} (e : i = (k : Int)) : cutV xs none (some i) = xs.take k := by subst e; exact cutV_take xs k
theorem cut_from {i : Int} {k : Nat} (e : i = (k : Int)) : cutV xs (some i) none = xs.drop k := by subst e; exact cutV_drop xs k
theorem from_no {i : Int} {k : Nat} {A : Prop} (e : i = (k : Int)) (hk : 0 < k) (h0 : 0 < xs.length) (z : HT.sIx xs.length 0 (some i) = 0 ∧ HT.sIx xs.length xs.length none = xs.length) : A := by
  subst e
  have h := z.1
  rw [HT.sIx_nat] at h
  omega
end
/-! ### a tree of a sign and parts -/
def mkT (s : Str) : List Tr → Tr
  | [] => .c0 s
  | [t] => .c1 s t
  | t :: u :: _ => .c2 s t u
theorem mkT_sym (s : Str) (ks : List Tr) : (mkT s ks).sym = s := by
  match ks with
  | [] => rfl
  | [_] => rfl
  | _ :: _ :: _ => rfl
theorem mkT_kids (s : Str) {ks : List Tr} (h : ks.length ≤ 2) : (mkT s ks).kids = ks := by
  match ks, h with
  | [], _ => rfl
  | [_], _ => rfl
  | [_, _], _ => rfl
  | _ :: _ :: _ :: _, h => simp at h
theorem mkT_wf {sg : Sg} {s : Str} {ks : List Tr} (h : ks.length ≤ 2) (m : (s, (ks.length : Int)) ∈ sg) (hk : ∀ k ∈ ks, Wf sg [] k) : Wf sg [] (mkT s ks) := by
  match ks, h, m, hk with
  | [], _, m, _ => exact m
  | [t], _, m, hk => exact ⟨m, hk t (List.mem_cons_self ..)⟩
  | [t, u], _, m, hk => exact ⟨m, hk t (List.mem_cons_self ..), hk u (List.mem_cons_of_mem _ (List.mem_cons_self ..))⟩
  | _ :: _ :: _ :: _, h, _, _ => simp at h
theorem mkT_dep (s : Str) {ks : List Tr} {d : Nat} (h : ks.length ≤ 2) (hk : ∀ k ∈ ks, k.dep ≤ d) : (mkT s ks).dep ≤ d + 1 := by
  match ks, h, hk with
  | [], _, _ => exact Nat.le_add_left ..
  | [t], _, hk => have := hk t (List.mem_cons_self ..); show 1 + t.dep ≤ d + 1; omega
  | [t, u], _, hk => have := hk t (List.mem_cons_self ..); have := hk u (List.mem_cons_of_mem _ (List.mem_cons_self ..)); show 1 + max t.dep u.dep ≤ d + 1; omega
  | _ :: _ :: _ :: _, h, _ => simp at h
theorem mkT_size (s : Str) {ks : List Tr} (h : ks.length ≤ 2) : (mkT s ks).size = 1 + (ks.map Tr.size).sum := by
  match ks, h with
  | [], _ => rfl
  | [t], _ => rfl
  | [t, u], _ => show 1 + t.size + u.size = 1 + (t.size + (u.size + 0)); omega
  | _ :: _ :: _ :: _, h => simp at h
theorem Tr.eta {t : Tr} (h : Pl t) : mkT t.sym t.kids = t := by
  cases t with
  | nm x => exact h.elim
  | c0 s => rfl
  | c1 s t => rfl
  | c2 s t u => rfl
theorem size_nat {t : Tr} (h : Pl t) : t.size = 1 + (t.kids.map Tr.size).sum := by
  have := mkT_size t.sym t.kids_le
  rw [Tr.eta h] at this
  exact this
theorem sum_swap : ∀ {ks : List Tr} {r : Nat} {k k' : Tr}, ks[r]? = some k → k'.size ≤ k.size + 4 → ((ks.set r k').map Tr.size).sum ≤ (ks.map Tr.size).sum + 4
  | [], _, _, _, h, _ => by simp at h
  | a :: ks, 0, k, k', h, hz => by
    obtain rfl : a = k := Option.some.inj h
    show k'.size + (ks.map Tr.size).sum ≤ a.size + (ks.map Tr.size).sum + 4
    omega
  | a :: ks, r + 1, k, k', h, hz => by
    have := sum_swap (ks := ks) (r := r) (k := k) (k' := k') h hz
    show a.size + ((ks.set r k').map Tr.size).sum ≤ a.size + (ks.map Tr.size).sum + 4
    omega
theorem kids_put {K : PySem.W.Frag} {H : Hp} {us : List V} {ks : List Tr} {r : Nat} {v : V} {k : Tr} (h : KidsAt K H us ks) (hv : TrAt K H k v) : KidsAt K H (us.set r v) (ks.set r k) := by
  induction h generalizing r with
  | nil => exact .nil
  | cons a b ih =>
    cases r with
    | zero => exact .cons hv b
    | succ r => exact .cons a (ih (r := r))
theorem cut_set {us : List V} {x v : V} {r : Nat} (h : r < us.length) : (x :: us).take (1 + r) ++ [v] ++ (x :: us).drop (1 + r + 1) = x :: us.set r v := by
  rw [Nat.add_comm 1 r, List.take_succ_cons, List.drop_succ_cons, List.set_eq_take_append_cons_drop, if_pos h]
  simp
def spChg (K : PySem.W.Frag) (d : Nat) : Sp := fun vs H Q _ => ∃ (a n g : Addr) (sg : Sg) (v : V) (t : Tr) (m : Int), vs = [.ref a, .ref g, v] ∧ StA H a n m ∧ m + 3 * (t.dep : Int) < 600000 ∧ SgAt K H g sg ∧ GSg sg ∧ TrAt K H t v ∧ Wf sg [] t ∧ t.dep ≤ d ∧
  ∀ v' t' H', TrAt K H' t' v' → Wf sg [] t' → t'.dep ≤ t.dep + 4 → t'.size ≤ t.size + 4 → Fr a H H' → StA H' a n (m + 3 * (t.dep : Int) + 15) → Q v' H'
def spRow (K : PySem.W.Frag) : Sp := fun vs H Q _ => ∃ (g : Addr) (sg : Sg) (s : Str) (ar many : Int) (v : V) (t : Tr), vs = [.ref g, .str s, .int ar, .int many, v] ∧ SgAt K H g sg ∧ GSg sg ∧ (s, ar) ∈ sg ∧ 1 ≤ ar ∧ 0 ≤ many ∧ many ≤ 200 ∧ TrAt K H t v ∧ Wf sg [] t ∧
  ∀ v' t' H', TrAt K H' t' v' → Wf sg [] t' → t'.dep ≤ t.dep + many.toNat → t'.size ≤ t.size + 2 * many.toNat → Same H H' → Q v' H'
section
variable {K : PySem.W.Frag} {σ : L2.St} {H : Hp} {Q : VK} {p : Addr} {rs : List Addr} {sg : Sg} {j1 j2 : Nat}
/-- [one for one, own in signs if own == 0] -/
theorem rd_zero {i : Nat} (hi : σ[i]? = some (some (.ref p))) (hS : SqT K H p (rs.map V.ref)) (pr : SgR K H rs sg) (h4 : sg.length ≤ 1000) (hw : ∀ x y, wipe (((wipe σ [j1, j2]).set j1 (some x)).set j2 (some y)) [j1, j2] = wipe σ [j1, j2])
    (hv : ∀ x y, (((wipe σ [j1, j2]).set j1 (some x)).set j2 (some y))[j1]? = some (some x)) (hv2 : ∀ x y, (((wipe σ [j1, j2]).set j1 (some x)).set j2 (some y))[j2]? = some (some y))
    (h : ∀ D H' zs, H D = none → Same H H' → H' D = some (.lst (zs.map V.str)) → zs.length ≤ sg.length → (∀ z ∈ zs, (z, (0 : Int)) ∈ sg) → ((∃ s ∈ sg, s.2 = 0) → zs ≠ []) → Q (.ref D) H') :
    tLc (iTup K (tVar i)) (gTup K 2 (gCons (gName j1) (gCons (gName j2) gNil))) (tTest (tOp rEq (tVar j2) (tC (.int 0)))) (tVar j1) [j1, j2] σ H Q := by
  refine ⟨_, hi, p, rfl, ⟨_, hS⟩, fun D nD => lc_tup (K := K) (xs := rs.map V.ref) (fun i H' => Same H H' ∧ ∃ zs : List Str, H' D = some (.lst (zs.map V.str)) ∧ zs.length ≤ i ∧ (∀ z ∈ zs, (z, (0 : Int)) ∈ sg) ∧ ((∃ s ∈ sg.take i, s.2 = 0) → zs ≠ []))
    ⟨Same.new nD, [], upd_same, Nat.le_refl _, (fun _ h => absurd h List.not_mem_nil), (fun ⟨s, h, _⟩ => by rw [List.take_zero] at h; exact absurd h List.not_mem_nil)⟩ (fun i H' _ iv => TK.same iv.1 _ _ hS) (fun i x H' hx iv => ?_) (fun H' iv => ?_)⟩
  · rw [List.getElem?_map] at hx
    cases e : rs[i]? with
    | none => rw [e] at hx; cases hx
    | some r =>
      rw [e] at hx
      obtain rfl : V.ref r = x := Option.some.inj hx
      obtain ⟨s, es, hr⟩ := paired_get pr e
      obtain ⟨sm, zs, hd, hl, hc, hz⟩ := iv
      have hil : i < sg.length := (List.getElem?_eq_some_iff.mp es).1
      have hs : s ∈ sg := List.mem_of_getElem? es
      refine ⟨r, _, rfl, TK.same sm _ _ hr, rfl, _, _, rfl, _, _, rfl, rfl, hw _ _, ?_⟩
      refine TV.ite (b := decide (V.int s.2 = V.int 0)) (fun Q q => ⟨_, hv2 _ _, rfl, _, rfl, q⟩) (fun e => ?_) (fun e => ?_)
      · have e0 := V.int.inj (of_decide_eq_true e)
        have hlen : (zs.map V.str).length < sizeLine := by rw [List.length_map]; exact small1000 (by omega)
        refine ⟨_, hv _ _, _, hd, hlen, Same.mut nD sm, zs ++ [s.1], by rw [List.map_append]; exact upd_same, by rw [List.length_append, List.length_singleton]; omega, fun t ht => ?_, fun _ => by simp⟩
        rcases List.mem_append.mp ht with q | q
        · exact hc t q
        · rw [List.mem_singleton] at q
          rw [q]
          exact mem_ar hs e0
      · have e0 := of_decide_eq_false e
        refine ⟨sm, zs, hd, by omega, hc, fun ⟨t, ht, h0⟩ => ?_⟩
        rw [take_snoc es] at ht
        rcases List.mem_append.mp ht with q | q
        · exact hz ⟨t, q, h0⟩
        · rw [List.mem_singleton] at q
          subst q
          exact absurd (congrArg V.int h0) e0
  · obtain ⟨sm, zs, hd, hl, hc, hz⟩ := iv
    rw [List.length_map, paired_len pr] at hl hz
    rw [List.take_length] at hz
    exact h D H' zs nD sm hd hl hc hz
end
end Pg

set_option Elab.async false
set_option linter.all false
set_option maxRecDepth 100000
set_option maxHeartbeats 4000000
namespace Pg
open PySem PySem.Spec PyProof.Rows L2
theorem TV.or_left {t u : TT} {σ : L2.St} {H : Hp} (h : TV t σ H true) : TV (tOr t u) σ H true := fun Q q => h _ (by rw [if_pos rfl]; exact q)
/-! ### all trees within a tree, from left to right -/
def pre : Tr → List Tr
  | .nm x => [.nm x]
  | .c0 s => [.c0 s]
  | .c1 s t => .c1 s t :: pre t
  | .c2 s t u => .c2 s t u :: (pre t ++ pre u)
theorem pre_eq (t : Tr) : pre t = t :: t.kids.flatMap pre := by
  cases t with
  | nm x => rfl
  | c0 s => rfl
  | c1 s t => show _ :: pre t = _ :: (pre t ++ []); rw [List.append_nil]
  | c2 s t u => show _ :: (pre t ++ pre u) = _ :: (pre t ++ (pre u ++ [])); rw [List.append_nil]
theorem pre_len : ∀ t : Tr, (pre t).length = t.size
  | .nm _ => rfl
  | .c0 _ => rfl
  | .c1 _ t => by show (pre t).length + 1 = 1 + t.size; rw [pre_len t]; omega
  | .c2 _ t u => by show (pre t ++ pre u).length + 1 = 1 + t.size + u.size; rw [List.length_append, pre_len t, pre_len u]; omega
theorem flat_len : ∀ ts : List Tr, (ts.flatMap pre).length = (ts.map Tr.size).sum
  | [] => rfl
  | t :: ts => by rw [List.flatMap_cons, List.length_append, pre_len, flat_len ts]; rfl
theorem len_le_sum : ∀ ts : List Tr, ts.length ≤ (ts.map Tr.size).sum
  | [] => Nat.le_refl _
  | t :: ts => by have := t.size_pos; have := len_le_sum ts; show ts.length + 1 ≤ t.size + (ts.map Tr.size).sum; omega
theorem sum_rev (ts : List Tr) : (ts.reverse.map Tr.size).sum = (ts.map Tr.size).sum := by
  rw [List.map_reverse]
  exact List.sum_reverse _
theorem paired_snoc {α β : Type} {F : α → β → Prop} {y : β} : ∀ {xs : List α} {ys : List β}, Paired F xs (ys ++ [y]) → ∃ xs' x, xs = xs' ++ [x] ∧ Paired F xs' ys ∧ F x y
  | _, [], h => by
    cases h with
    | cons a b => cases b; exact ⟨[], _, rfl, .nil, a⟩
  | _, z :: ys, h => by
    cases h with
    | cons a b =>
      obtain ⟨xs', x, e, p, q⟩ := paired_snoc b
      exact ⟨_ :: xs', x, by rw [e]; rfl, .cons a p, q⟩
theorem paired_rev {α β : Type} {F : α → β → Prop} : ∀ {xs : List α} {ys : List β}, Paired F xs ys → Paired F xs.reverse ys.reverse
  | _, _, .nil => .nil
  | _, _, .cons a t => by rw [List.reverse_cons, List.reverse_cons]; exact paired_app (paired_rev t) (.cons a .nil)
/-- behind the first node: its parts stand ahead of the rest -/
def rest : List Tr → List Tr
  | [] => []
  | t :: ts => t.kids ++ ts
def restN : Nat → List Tr → List Tr
  | 0, ts => ts
  | n + 1, ts => rest (restN n ts)
theorem rest_flat (ts : List Tr) : (rest ts).flatMap pre = (ts.flatMap pre).drop 1 := by
  cases ts with
  | nil => rfl
  | cons t ts =>
    show (t.kids ++ ts).flatMap pre = ((t :: ts).flatMap pre).drop 1
    rw [List.flatMap_append, List.flatMap_cons, pre_eq t]
    rfl
theorem restN_flat : ∀ (n : Nat) (ts : List Tr), (restN n ts).flatMap pre = (ts.flatMap pre).drop n
  | 0, _ => rfl
  | n + 1, ts => by
    show (rest (restN n ts)).flatMap pre = _
    rw [rest_flat, restN_flat n ts, List.drop_drop]
/-- at the j-th node: the forest from there on begins with it -/
theorem restN_at {t k : Tr} {j : Nat} (h : (pre t)[j]? = some k) : ∃ G, restN j [t] = k :: G := by
  have e : (restN j [t]).flatMap pre = (pre t).drop j := by
    rw [restN_flat, List.flatMap_cons]
    simp
  have hlt : j < (pre t).length := (List.getElem?_eq_some_iff.mp h).1
  cases q : restN j [t] with
  | nil =>
    rw [q] at e
    have := congrArg List.length e
    rw [List.length_drop] at this
    simp at this
    omega
  | cons k' G =>
    refine ⟨G, ?_⟩
    rw [q, List.flatMap_cons, pre_eq k'] at e
    have h0 := congrArg (fun l => l[0]?) e
    have h1 : ((pre t).drop j)[0]? = some k := by rw [List.getElem?_drop]; exact h
    have h2 : some k' = some k := by
      rw [h1] at h0
      exact h0
    rw [Option.some.inj h2]
theorem restN_end (t : Tr) : restN t.size [t] = [] := by
  have e : (restN t.size [t]).flatMap pre = (pre t).drop t.size := by
    rw [restN_flat, List.flatMap_cons]
    simp
  rw [← pre_len t, List.drop_length] at e
  rw [← pre_len t]
  cases q : restN (pre t).length [t] with
  | nil => rfl
  | cons k G =>
    rw [q, List.flatMap_cons, pre_eq k] at e
    cases e
theorem Pl.pre : ∀ {t k : Tr}, Pl t → k ∈ pre t → Pl k
  | .nm _, _, h, _ => h.elim
  | .c0 s, k, h, m => by rw [show Pg.pre (.c0 s) = [.c0 s] from rfl, List.mem_singleton] at m; rw [m]; exact h
  | .c1 s t, k, h, m => by
    rcases List.mem_cons.mp (show k ∈ Tr.c1 s t :: Pg.pre t from m) with e | e
    · rw [e]; exact h
    · exact Pl.pre (t := t) h e
  | .c2 s t u, k, h, m => by
    rcases List.mem_cons.mp (show k ∈ Tr.c2 s t u :: (Pg.pre t ++ Pg.pre u) from m) with e | e
    · rw [e]; exact h
    · rcases List.mem_append.mp e with e | e
      · exact Pl.pre (t := t) h.1 e
      · exact Pl.pre (t := u) h.2 e
theorem Wf.pre {sg : Sg} : ∀ {t k : Tr}, Wf sg [] t → k ∈ pre t → Wf sg [] k
  | .nm _, _, h, _ => absurd h List.not_mem_nil
  | .c0 s, k, h, m => by rw [show Pg.pre (.c0 s) = [.c0 s] from rfl, List.mem_singleton] at m; rw [m]; exact h
  | .c1 s t, k, h, m => by
    rcases List.mem_cons.mp (show k ∈ Tr.c1 s t :: Pg.pre t from m) with e | e
    · rw [e]; exact h
    · exact Wf.pre (t := t) h.2 e
  | .c2 s t u, k, h, m => by
    rcases List.mem_cons.mp (show k ∈ Tr.c2 s t u :: (Pg.pre t ++ Pg.pre u) from m) with e | e
    · rw [e]; exact h
    · rcases List.mem_append.mp e with e | e
      · exact Wf.pre (t := t) h.2.1 e
      · exact Wf.pre (t := u) h.2.2 e
/-- the pair that the program makes of a node -/
def pairD (sg : Sg) (k : Tr) : PyData := .tuple [.int k.size, .int (place sg k.sym)]
def spNodes (K : PySem.W.Frag) : Sp := fun vs H Q _ => ∃ (v : V) (t : Tr), vs = [v, .non] ∧ TrAt K H t v ∧ Pl t ∧ t.size ≤ 1000 ∧ ∀ p H' ws, Same H H' → H' p = some (.lst ws) → KidsAt K H' ws (pre t) → Q (.ref p) H'
def spPlace (K : PySem.W.Frag) : Sp := fun vs H Q _ => ∃ (g : Addr) (sg : Sg) (s : Str), vs = [.ref g, .str s] ∧ SgAt K H g sg ∧ GSg sg ∧ s ∈ sg.map (·.1) ∧ ∀ H', Same H H' → Q (.int (place sg s : Nat)) H'
def spOkey (K : PySem.W.Frag) : Sp := fun vs H Q _ => ∃ (g : Addr) (sg : Sg) (v : V) (t : Tr), vs = [.ref g, v] ∧ SgAt K H g sg ∧ GSg sg ∧ TrAt K H t v ∧ Wf sg [] t ∧ t.size ≤ 1000 ∧ ∀ p H', Same H H' → Dp K H' (.ref p) (.list ((pre t).map (pairD sg))) → Q (.ref p) H'
theorem tyX_tup {K : PySem.W.Frag} {H : Hp} {p : Addr} {xs : List V} (h : SqT K H p xs) : TyX K H (.ref p) (.type "tuple") := by
  rcases h with (h | ⟨o, h⟩) | h
  · exact .base (.tup h)
  · exact .fTuple h
  · obtain ⟨o, its, n, e, c, _⟩ := h
    exact .kTuple e c
theorem hu_n {k n : Nat} {A : Around} (r : Room k A) (h : n ≤ 200) : A.units + n < cLine := by have := r.un; omega
theorem hu_n1 {k : Nat} {A : Around} (r : Room k A) : A.units + 70 + 1 < cLine := by have := r.un; omega
/-- a def with one default None, called without it -/
theorem mk_cal1 {P : Program} {w : World} {K : PySem.W.Frag} {mg : Str → Option Value} {base : Heap} {x : Str} {st : Stmt} {f : Addr} {fd : FuncData} {N ps : List Str} {k n : Nat} {sp : Sp} (F : FunD K x x (defArgs st) (defBody st) (defScope st) [.non] [] f fd) (hm : mg x = some (.ref f)) (S : FnScope N ps (defScope st)) (hn : n + 1 = ps.length)
    (hb : ∀ (T : Addr) (kV doc pm : Value) (an : Option Addr) (cdv ct : Value) (us its : List Value), us.length = n → its.length = 1 → ∃ k, bindArgs (PySem.W.fnOf x x (defArgs st) (defBody st) (defScope st) (.ref T) kV doc pm an cdv ct) ⟨us, []⟩ = seqItems? (.ref T) >>= k ∧ k (some its.toArray) = pure (ps.zip (us ++ its.drop 0)))
    (len : ∀ vs H Q E, sp vs H Q E → vs.length = ps.length)
    (body : ∀ (cdv : Value) (A : Around) (outer : List Env) (s : Shared) (H : Hp) (vs : List V) (Q : VK) (E : XK), Room k (A.deeper (envOfC x (defScope st) s.heap.objs.size f cdv)) → sp vs H Q E →
      ∃ t, PSs (cxOf CX0 P w K mg base N x (defScope st) f cdv A outer s H E).nox (defBody st) t ∧ t { nx := fun _ H' => Q .non H', rt := Q } (start N vs) H) : Cal P w K mg base (k + 1) x sp [.non] := by
  obtain ⟨ds, hv, hbn⟩ := F.binds1 (ps := ps) n 0 (by simp) (by simpa using hn) (fun T kV doc pm an cdv ct us its h1 h2 => hb T kV doc pm an cdv ct us its h1 (by simpa using h2))
  exact ⟨f, fd, ps, ds, F.ok S len (fun cdv A outer s H vs Q E hr h => let ⟨t, a, b⟩ := body cdv A outer s H vs Q E hr h; ⟨t, a.nox, b⟩), hm, F.kp, hbn, hv⟩
end Pg

set_option Elab.async false
set_option linter.all false
set_option maxRecDepth 100000
set_option maxHeartbeats 4000000
namespace Pg
open PySem PySem.Spec PyProof.Rows L2 PySem.W
abbrev Tk := Int ⊕ List Nat
/-- the first difference of two rows of signs is that of two numbers -/
def Dif (a b : List Tk) (p q : Int) : Prop := ∃ l x y, a = l ++ Sum.inl p :: x ∧ b = l ++ Sum.inl q :: y
theorem Dif.pre {a b : List Tk} {p q : Int} (c : List Tk) (h : Dif a b p q) : Dif (c ++ a) (c ++ b) p q := by
  obtain ⟨l, x, y, rfl, rfl⟩ := h
  exact ⟨c ++ l, x, y, by rw [List.append_assoc], by rw [List.append_assoc]⟩
theorem Dif.app {a b : List Tk} {p q : Int} (c d : List Tk) (h : Dif a b p q) : Dif (a ++ c) (b ++ d) p q := by
  obtain ⟨l, x, y, rfl, rfl⟩ := h
  exact ⟨l, x ++ c, y ++ d, by simp, by simp⟩
theorem Dif.lt {a b : List Tk} {p q : Int} (h : Dif a b p q) (hne : p ≠ q) : lexLt itemOrd a b = decide (p < q) := by
  obtain ⟨l, x, y, rfl, rfl⟩ := h
  rw [lex_pre]
  exact lex_diff (O := itemOrd) (fun e => hne (Sum.inl.inj e))
theorem Dif.swap {a b : List Tk} {p q : Int} (h : Dif a b p q) : Dif b a q p := by
  obtain ⟨l, x, y, e, f⟩ := h
  exact ⟨l, y, x, f, e⟩
theorem Dif.ne {a b : List Tk} {p q : Int} (h : Dif a b p q) (hne : p ≠ q) : a ≠ b := by
  obtain ⟨l, x, y, rfl, rfl⟩ := h
  intro e
  have := List.append_cancel_left e
  injection this with h1 h2
  exact hne (Sum.inl.inj h1)
/-- the signs of the nodes of a tree, from left to right -/
def nt (sg : Sg) (k : Tr) : List Tk := [.inl 1, .inl 1, .inl k.size, .inl 1, .inl (place sg k.sym), .inl 0]
def pt (sg : Sg) (t : Tr) : List Tk := (pre t).flatMap (nt sg)
theorem toks_pair (sg : Sg) (k : Tr) : Sum.inl 1 :: keyToks (pairD sg k) = nt sg k := rfl
theorem toks_pairs (sg : Sg) : ∀ ks : List Tr, keyToksAll (ks.map (pairD sg)) = ks.flatMap (nt sg) ++ [.inl 0]
  | [] => rfl
  | k :: ks => by
    rw [List.map_cons, keyToksAll, toks_pairs sg ks, List.flatMap_cons, List.append_assoc]
    rfl
theorem toks_ok (sg : Sg) (t : Tr) : keyToks (.list ((pre t).map (pairD sg))) = pt sg t ++ [.inl 0] := by
  rw [keyToks]
  exact toks_pairs sg _
theorem pt_eq (sg : Sg) (t : Tr) : pt sg t = nt sg t ++ t.kids.flatMap (pt sg) := by
  show (pre t).flatMap (nt sg) = _
  rw [pre_eq, List.flatMap_cons]
  congr 1
  induction t.kids with
  | nil => rfl
  | cons k ks ih => rw [List.flatMap_cons, List.flatMap_append, ih]; rfl
theorem toks_key (sg : Sg) {t : Tr} (h : Pl t) : keyToks (keyD sg t) = [.inl 1, .inl t.size, .inl 1, .inl (place sg t.sym)] ++ keyToksAll (t.kids.map (keyD sg)) := by
  rw [keyD_eq sg h, keyToks, keyToksAll, keyToksAll, keyToks, keyToks]
  rfl
def Df (sg : Sg) (t u : Tr) : Prop := ∃ p q : Int, p ≠ q ∧ Dif (keyToks (keyD sg t)) (keyToks (keyD sg u)) p q ∧ Dif (pt sg t) (pt sg u) p q
theorem Wf.mem {sg : Sg} {t : Tr} (h : Wf sg [] t) : t.sym ∈ sg.map (·.1) := List.mem_map.mpr ⟨_, h.sym, rfl⟩
theorem place_inj {sg : Sg} {x y : Str} (hx : x ∈ sg.map (·.1)) (hy : y ∈ sg.map (·.1)) (e : place sg x = place sg y) : x = y := by
  have h1 := (place_at hx).2.1
  have h2 := (place_at hy).2.1
  rw [e, h2] at h1
  cases h1
  rfl
theorem ar_eq' {x : Str} {i j : Int} : ∀ {sg : Sg}, (sg.map (·.1)).Nodup → (x, i) ∈ sg → (x, j) ∈ sg → i = j
  | [], _, h, _ => absurd h List.not_mem_nil
  | s :: sg, nd, h1, h2 => by
    rw [List.map_cons, List.nodup_cons] at nd
    rcases List.mem_cons.mp h1 with e1 | e1
    · rcases List.mem_cons.mp h2 with e2 | e2
      · rw [← e2] at e1
        exact (Prod.mk.inj e1).2
      · exact absurd (List.mem_map.mpr ⟨_, e2, by rw [← e1]⟩) nd.1
    · rcases List.mem_cons.mp h2 with e2 | e2
      · exact absurd (List.mem_map.mpr ⟨_, e1, by rw [← e2]⟩) nd.1
      · exact ar_eq' nd.2 e1 e2
theorem ar_eq {sg : Sg} (g : GSg sg) {x : Str} {i j : Int} (h1 : (x, i) ∈ sg) (h2 : (x, j) ∈ sg) : i = j := ar_eq' g.nd h1 h2
/-- size and sign are the same, or they tell the two apart -/
theorem hd_cases {sg : Sg} (g : GSg sg) {t u : Tr} (ht : Wf sg [] t) (hu : Wf sg [] u) : (t.size = u.size ∧ t.sym = u.sym ∧ t.kids.length = u.kids.length) ∨ Df sg t u := by
  have kt := toks_key sg ht.pl
  have ku := toks_key sg hu.pl
  have qt := pt_eq sg t
  have qu := pt_eq sg u
  by_cases h1 : t.size = u.size
  · by_cases h2 : place sg t.sym = place sg u.sym
    · have e := place_inj ht.mem hu.mem h2
      refine .inl ⟨h1, e, ?_⟩
      have a := ht.sym
      have b := hu.sym
      rw [e] at a
      have := ar_eq g a b
      omega
    · refine .inr ⟨place sg t.sym, place sg u.sym, fun z => h2 (by omega), ?_, ?_⟩
      · rw [kt, ku, h1]
        exact ⟨[.inl 1, .inl u.size, .inl 1], _, _, rfl, rfl⟩
      · rw [qt, qu]
        unfold nt
        rw [h1]
        exact ⟨[.inl 1, .inl 1, .inl u.size, .inl 1], _, _, rfl, rfl⟩
  · refine .inr ⟨t.size, u.size, fun z => h1 (by omega), ?_, ?_⟩
    · rw [kt, ku]
      exact ⟨[.inl 1], _, _, rfl, rfl⟩
    · rw [qt, qu]
      exact ⟨[.inl 1, .inl 1], _, _, rfl, rfl⟩
theorem dif {sg : Sg} (g : GSg sg) : ∀ {t u : Tr}, Wf sg [] t → Wf sg [] u → t = u ∨ Df sg t u
  | .nm _, _, h, _ => absurd h List.not_mem_nil
  | .c0 s, u, ht, hu => by
    rcases hd_cases g ht hu with ⟨h1, h2, h3⟩ | h
    · cases u with
      | nm x => exact absurd hu List.not_mem_nil
      | c0 s' => exact .inl (by rw [show s = s' from h2])
      | c1 s' t' => cases h3
      | c2 s' t' u' => cases h3
    · exact .inr h
  | .c1 s t, u, ht, hu => by
    rcases hd_cases g ht hu with ⟨h1, h2, h3⟩ | h
    · cases u with
      | nm x => exact absurd hu List.not_mem_nil
      | c0 s' => cases h3
      | c1 s' t' =>
        obtain rfl : s = s' := h2
        rcases dif g (t := t) (u := t') ht.2 hu.2 with e | ⟨p, q, hne, d1, d2⟩
        · exact .inl (by rw [e])
        · refine .inr ⟨p, q, hne, ?_, ?_⟩
          · rw [toks_key sg ht.pl, toks_key sg hu.pl, h1]
            exact ((d1.app [.inl 0] [.inl 0]).pre [.inl 1]).pre _
          · rw [pt_eq sg (.c1 s t), pt_eq sg (.c1 s t')]
            unfold nt
            rw [h1]
            exact (d2.app [] []).pre _
      | c2 s' t' u' => cases h3
    · exact .inr h
  | .c2 s t v, u, ht, hu => by
    rcases hd_cases g ht hu with ⟨h1, h2, h3⟩ | h
    · cases u with
      | nm x => exact absurd hu List.not_mem_nil
      | c0 s' => cases h3
      | c1 s' t' => cases h3
      | c2 s' t' v' =>
        obtain rfl : s = s' := h2
        rcases dif g (t := t) (u := t') ht.2.1 hu.2.1 with e | ⟨p, q, hne, d1, d2⟩
        · subst e
          rcases dif g (t := v) (u := v') ht.2.2 hu.2.2 with e | ⟨p, q, hne, d1, d2⟩
          · exact .inl (by rw [e])
          · refine .inr ⟨p, q, hne, ?_, ?_⟩
            · rw [toks_key sg ht.pl, toks_key sg hu.pl, h1]
              exact (((((d1.app [.inl 0] [.inl 0]).pre [.inl 1]).pre _).pre [.inl 1])).pre _
            · rw [pt_eq sg (.c2 s t v), pt_eq sg (.c2 s t v')]
              unfold nt
              rw [h1]
              exact ((d2.app [] []).pre _).pre _
        · refine .inr ⟨p, q, hne, ?_, ?_⟩
          · rw [toks_key sg ht.pl, toks_key sg hu.pl, h1]
            exact ((d1.app _ _).pre [.inl 1]).pre _
          · rw [pt_eq sg (.c2 s t v), pt_eq sg (.c2 s t' v')]
            unfold nt
            rw [h1]
            exact (d2.app _ _).pre _
    · exact .inr h
theorem key_dep (sg : Sg) : ∀ t : Tr, Pl t → (keyD sg t).depth ≤ t.dep
  | .nm _, h => h.elim
  | .c0 s, _ => by show (PyData.tuple [.int 1, .int (place sg s)]).depth ≤ 1; simp [PyData.depth, PyData.depthAll]
  | .c1 s t, h => by
    have := key_dep sg t h
    show (PyData.tuple [.int (Tr.c1 s t).size, .int (place sg s), keyD sg t]).depth ≤ 1 + t.dep
    simp only [PyData.depth, PyData.depthAll]
    omega
  | .c2 s t u, h => by
    have := key_dep sg t h.1
    have := key_dep sg u h.2
    show (PyData.tuple [.int (Tr.c2 s t u).size, .int (place sg s), keyD sg t, keyD sg u]).depth ≤ 1 + max t.dep u.dep
    simp only [PyData.depth, PyData.depthAll]
    omega
theorem alike_tup {a b : Int} {c d : Int} {ks ls : List PyData} (h : alikeAll ks ls = true) : alike (.tuple (.int a :: .int b :: ks)) (.tuple (.int c :: .int d :: ls)) = true := by
  rw [alike, alikeAll, alikeAll, h]
  rfl
theorem key_alike (sg : Sg) : ∀ t u : Tr, Pl t → Pl u → alike (keyD sg t) (keyD sg u) = true
  | .nm _, _, h, _ => h.elim
  | t, .nm _, _, h => h.elim
  | .c0 _, .c0 _, _, _ => alike_tup rfl
  | .c0 _, .c1 _ _, _, _ => alike_tup rfl
  | .c0 _, .c2 _ _ _, _, _ => alike_tup rfl
  | .c1 _ _, .c0 _, _, _ => alike_tup rfl
  | .c2 _ _ _, .c0 _, _, _ => alike_tup rfl
  | .c1 _ t, .c1 _ u, h, h' => alike_tup (by rw [alikeAll, key_alike sg t u h h']; rfl)
  | .c1 _ t, .c2 _ u v, h, h' => alike_tup (by rw [alikeAll, key_alike sg t u h h'.1]; rfl)
  | .c2 _ t v, .c1 _ u, h, h' => alike_tup (by rw [alikeAll, key_alike sg t u h.1 h']; rfl)
  | .c2 _ t v, .c2 _ u x, h, h' => alike_tup (by rw [alikeAll, alikeAll, key_alike sg t u h.1 h'.1, key_alike sg v x h.2 h'.2]; rfl)
theorem key_non (sg : Sg) {t : Tr} (h : Pl t) : keyD sg t ≠ .none := by rw [keyD_eq sg h]; intro e; cases e
end Pg

set_option Elab.async false
set_option linter.all false
set_option maxRecDepth 100000
set_option maxHeartbeats 4000000
namespace Pg
open PySem PySem.Spec PyProof.Rows L2
/-! ### how many trees there are of each size, and the trees, size by size -/
def co1 (C : List Nat) (ar : Int) (m : Nat) : Nat := if ar = 0 then (if m = 1 then 1 else 0) else if ar = 1 then C.getD (m - 1) 0 else ((List.range (m - 2)).map fun i => C.getD (i + 1) 0 * C.getD (m - 2 - i) 0).sum
def co (sg : Sg) (C : List Nat) (m : Nat) : Nat := (sg.map fun s => co1 C s.2 m).sum
def cl (sg : Sg) : Nat → List Nat
  | 0 => [0]
  | n + 1 => cl sg n ++ [co sg (cl sg n) (n + 1)]
def ct (sg : Sg) (n : Nat) : Nat := (cl sg n).getD n 0
def pr (s : Str) (B : List (List Tr)) (m : Nat) : List Tr := (List.range (m - 2)).flatMap fun i => (B.getD (i + 1) []).flatMap fun t => (B.getD (m - 2 - i) []).map fun u => Tr.c2 s t u
def ov1 (s : Str × Int) (B : List (List Tr)) (m : Nat) : List Tr := if s.2 = 0 then (if m = 1 then [.c0 s.1] else []) else if s.2 = 1 then (B.getD (m - 1) []).map (Tr.c1 s.1) else pr s.1 B m
def ov (sg : Sg) (B : List (List Tr)) (m : Nat) : List Tr := sg.flatMap fun s => ov1 s B m
def bl (sg : Sg) : Nat → List (List Tr)
  | 0 => [[]]
  | n + 1 => bl sg n ++ [ov sg (bl sg n) (n + 1)]
def ts (sg : Sg) (n : Nat) : List Tr := (bl sg n).getD n []
theorem cl_len (sg : Sg) : ∀ n, (cl sg n).length = n + 1
  | 0 => rfl
  | n + 1 => by show (cl sg n ++ [_]).length = _; rw [List.length_append, cl_len sg n]; rfl
theorem bl_len (sg : Sg) : ∀ n, (bl sg n).length = n + 1
  | 0 => rfl
  | n + 1 => by show (bl sg n ++ [_]).length = _; rw [List.length_append, bl_len sg n]; rfl
theorem getD_app {α : Type} {l : List α} {x d : α} {k : Nat} (h : k < l.length) : (l ++ [x]).getD k d = l.getD k d := by
  rw [List.getD_eq_getElem?_getD, List.getD_eq_getElem?_getD, List.getElem?_append_left h]
theorem getD_last {α : Type} {l : List α} {x d : α} {k : Nat} (h : k = l.length) : (l ++ [x]).getD k d = x := by
  rw [List.getD_eq_getElem?_getD, List.getElem?_append_right (by omega), h, Nat.sub_self]; rfl
theorem cl_get (sg : Sg) : ∀ {n k : Nat}, k ≤ n → (cl sg n).getD k 0 = ct sg k
  | 0, k, h => by obtain rfl : k = 0 := by omega
                  rfl
  | n + 1, k, h => by
    by_cases e : k = n + 1
    · subst e; rfl
    · show (cl sg n ++ [_]).getD k 0 = _
      rw [getD_app (by rw [cl_len]; omega)]
      exact cl_get sg (by omega)
theorem bl_get (sg : Sg) : ∀ {n k : Nat}, k ≤ n → (bl sg n).getD k [] = ts sg k
  | 0, k, h => by obtain rfl : k = 0 := by omega
                  rfl
  | n + 1, k, h => by
    by_cases e : k = n + 1
    · subst e; rfl
    · show (bl sg n ++ [_]).getD k [] = _
      rw [getD_app (by rw [bl_len]; omega)]
      exact bl_get sg (by omega)
theorem ct_succ (sg : Sg) (n : Nat) : ct sg (n + 1) = co sg (cl sg n) (n + 1) := getD_last (by rw [cl_len])
theorem ts_succ (sg : Sg) (n : Nat) : ts sg (n + 1) = ov sg (bl sg n) (n + 1) := getD_last (by rw [bl_len])
theorem sum_len {α β : Type} (f : α → List β) : ∀ l : List α, (l.flatMap f).length = (l.map fun a => (f a).length).sum
  | [] => rfl
  | a :: l => by rw [List.flatMap_cons, List.length_append, sum_len f l]; rfl
theorem sum_const {α : Type} (c : Nat) : ∀ l : List α, (l.map fun _ => c).sum = l.length * c
  | [] => by simp
  | a :: l => by rw [List.map_cons, List.sum_cons, sum_const c l, List.length_cons, Nat.add_mul]; omega
theorem pr_len (s : Str) (B : List (List Tr)) (m : Nat) (C : List Nat) (h : ∀ k, (B.getD k []).length = C.getD k 0) : (pr s B m).length = ((List.range (m - 2)).map fun i => C.getD (i + 1) 0 * C.getD (m - 2 - i) 0).sum := by
  unfold pr
  rw [sum_len]
  congr 1
  refine List.map_congr_left fun i _ => ?_
  rw [sum_len]
  simp only [List.length_map]
  rw [sum_const, h, h]
theorem ov_len (sg : Sg) (B : List (List Tr)) (m : Nat) (C : List Nat) (h : ∀ k, (B.getD k []).length = C.getD k 0) : (ov sg B m).length = co sg C m := by
  unfold ov co
  rw [sum_len]
  congr 1
  refine List.map_congr_left fun s _ => ?_
  unfold ov1 co1
  by_cases h0 : s.2 = 0
  · rw [if_pos h0, if_pos h0]
    by_cases h1 : m = 1
    · rw [if_pos h1, if_pos h1]; rfl
    · rw [if_neg h1, if_neg h1]; rfl
  · rw [if_neg h0, if_neg h0]
    by_cases h1 : s.2 = 1
    · rw [if_pos h1, if_pos h1, List.length_map, h]
    · rw [if_neg h1, if_neg h1, pr_len _ _ _ _ h]
theorem bl_cl (sg : Sg) : ∀ n k, ((bl sg n).getD k []).length = (cl sg n).getD k 0
  | 0, k => by
    cases k with
    | zero => rfl
    | succ k => rfl
  | n + 1, k => by
    show ((bl sg n ++ [_]).getD k []).length = (cl sg n ++ [_]).getD k 0
    by_cases h : k < n + 1
    · rw [getD_app (by rw [bl_len]; exact h), getD_app (by rw [cl_len]; exact h)]
      exact bl_cl sg n k
    · by_cases e : k = n + 1
      · rw [getD_last (by rw [bl_len]; exact e), getD_last (by rw [cl_len]; exact e)]
        exact ov_len sg _ _ _ (bl_cl sg n)
      · rw [List.getD_eq_getElem?_getD, List.getD_eq_getElem?_getD, List.getElem?_eq_none (by rw [List.length_append, bl_len]; simp; omega), List.getElem?_eq_none (by rw [List.length_append, cl_len]; simp; omega)]
        rfl
theorem ts_len (sg : Sg) (n : Nat) : (ts sg n).length = ct sg n := bl_cl sg n n
/-! #### the numbers grow -/
theorem mem_le_sum : ∀ {l : List Nat} {x : Nat}, x ∈ l → x ≤ l.sum
  | a :: l, x, h => by
    rw [List.sum_cons]
    rcases List.mem_cons.mp h with e | e
    · omega
    · have := mem_le_sum e; omega
theorem co_ge {sg : Sg} {C : List Nat} {m : Nat} {s : Str × Int} (h : s ∈ sg) : co1 C s.2 m ≤ co sg C m := mem_le_sum (List.mem_map.mpr ⟨s, h, rfl⟩)
theorem ct0 (sg : Sg) : ct sg 0 = 0 := rfl
theorem ct1 {sg : Sg} (g : GSg sg) : 1 ≤ ct sg 1 := by
  obtain ⟨s, hs, e⟩ := g.c0
  rw [ct_succ]
  refine Nat.le_trans ?_ (co_ge hs)
  unfold co1
  rw [if_pos e, if_pos rfl]
  exact Nat.le_refl _
theorem ct_up1 {sg : Sg} {s : Str × Int} (hs : s ∈ sg) (e : s.2 = 1) (n : Nat) : ct sg n ≤ ct sg (n + 1) := by
  rw [ct_succ]
  refine Nat.le_trans ?_ (co_ge hs)
  unfold co1
  rw [if_neg (by rw [e]; decide), if_pos e, Nat.add_sub_cancel, cl_get sg (Nat.le_refl _)]
  exact Nat.le_refl _
theorem ct_up2 {sg : Sg} (g : GSg sg) {s : Str × Int} (hs : s ∈ sg) (e : s.2 = 2) (n : Nat) : ct sg n ≤ ct sg (n + 2) := by
  cases n with
  | zero => rw [ct0]; exact Nat.zero_le _
  | succ n =>
    rw [ct_succ sg (n + 2)]
    refine Nat.le_trans ?_ (co_ge hs)
    unfold co1
    rw [if_neg (by rw [e]; decide), if_neg (by rw [e]; decide)]
    refine Nat.le_trans ?_ (mem_le_sum (List.mem_map.mpr ⟨0, List.mem_range.mpr (by omega), rfl⟩))
    rw [cl_get sg (by omega), cl_get sg (by omega)]
    have := ct1 g
    show ct sg (n + 1) ≤ ct sg 1 * ct sg (n + 1)
    exact Nat.le_trans (by omega) (Nat.mul_le_mul_right _ this)
theorem sum_zero : ∀ {l : List Nat}, (∀ x ∈ l, x = 0) → l.sum = 0
  | [], _ => rfl
  | a :: l, h => by rw [List.sum_cons, h a List.mem_cons_self, sum_zero fun x hx => h x (List.mem_cons_of_mem _ hx)]
theorem co_zero {sg : Sg} {C : List Nat} {m : Nat} (h : ∀ s ∈ sg, co1 C s.2 m = 0) : co sg C m = 0 := sum_zero fun x hx => by
  obtain ⟨s, hs, rfl⟩ := List.mem_map.mp hx
  exact h s hs
theorem ct_even {sg : Sg} (h : ∀ s ∈ sg, s.2 ≠ 1) : ∀ n, n % 2 = 0 → ct sg n = 0 := by
  intro n
  induction n using Nat.strongRecOn with
  | ind n ih =>
    intro hn
    cases n with
    | zero => rfl
    | succ n =>
      rw [ct_succ]
      refine co_zero fun s hs => ?_
      unfold co1
      by_cases h0 : s.2 = 0
      · rw [if_pos h0, if_neg (by omega)]
      · rw [if_neg h0, if_neg (h s hs)]
        refine sum_zero fun x hx => ?_
        obtain ⟨i, hi, rfl⟩ := List.mem_map.mp hx
        have hi := List.mem_range.mp hi
        rw [cl_get sg (by omega), cl_get sg (by omega)]
        by_cases hp : (i + 1) % 2 = 0
        · rw [ih (i + 1) (by omega) hp, Nat.zero_mul]
        · rw [ih (n + 1 - 2 - i) (by omega) (by omega), Nat.mul_zero]
theorem ct_none {sg : Sg} (h : ∀ s ∈ sg, s.2 = 0) (n : Nat) (hn : 2 ≤ n) : ct sg n = 0 := by
  obtain ⟨m, rfl⟩ : ∃ m, n = m + 1 := ⟨n - 1, by omega⟩
  rw [ct_succ]
  refine co_zero fun s hs => ?_
  unfold co1
  rw [if_pos (h s hs), if_neg (by omega)]
/-- fewer trees of a lesser size -/
theorem ct_mono {sg : Sg} (g : GSg sg) {n : Nat} (hn : ct sg n ≠ 0) : ∀ {k : Nat}, k ≤ n → ct sg k ≤ ct sg n := by
  intro k hk
  by_cases h1 : ∃ s ∈ sg, s.2 = 1
  · obtain ⟨s, hs, e⟩ := h1
    have : ∀ j, ct sg k ≤ ct sg (k + j) := fun j => by
      induction j with
      | zero => exact Nat.le_refl _
      | succ j ih => exact Nat.le_trans ih (ct_up1 hs e _)
    have := this (n - k)
    rw [show k + (n - k) = n by omega] at this
    exact this
  · have h1' : ∀ s ∈ sg, s.2 ≠ 1 := fun s hs e => h1 ⟨s, hs, e⟩
    by_cases hk2 : k % 2 = 0
    · rw [ct_even h1' k hk2]; exact Nat.zero_le _
    · have hn2 : n % 2 ≠ 0 := fun z => hn (ct_even h1' n z)
      by_cases h2 : ∃ s ∈ sg, s.2 = 2
      · obtain ⟨s, hs, e⟩ := h2
        have : ∀ j, ct sg k ≤ ct sg (k + 2 * j) := fun j => by
          induction j with
          | zero => exact Nat.le_refl _
          | succ j ih => exact Nat.le_trans ih (ct_up2 g hs e _)
        have := this ((n - k) / 2)
        rw [show k + 2 * ((n - k) / 2) = n by omega] at this
        exact this
      · have h0 : ∀ s ∈ sg, s.2 = 0 := fun s hs => by
          have := g.ar s hs
          have := h1' s hs
          have : s.2 ≠ 2 := fun e => h2 ⟨s, hs, e⟩
          omega
        by_cases hn1 : n ≤ 1
        · rw [show k = n by omega]; exact Nat.le_refl _
        · exact absurd (ct_none h0 n (by omega)) hn
end Pg

set_option Elab.async false
set_option linter.all false
set_option maxRecDepth 100000
set_option maxHeartbeats 4000000
namespace Pg
open PySem PySem.Spec PyProof.Rows L2 PySem.W
/-! ### the trees of a size: what they are, and that they stand in order -/
theorem mem_bl {sg : Sg} {n k : Nat} {t : Tr} (hk : k ≤ n) (h : t ∈ (bl sg n).getD k []) : t ∈ ts sg k := by rw [← bl_get sg hk]; exact h
theorem mem_ov1 {sg : Sg} {n : Nat} {s : Str × Int} {t : Tr} (ha : 0 ≤ s.2 ∧ s.2 ≤ 2) (h : t ∈ ov1 s (bl sg n) (n + 1)) :
    (s.2 = 0 ∧ n = 0 ∧ t = .c0 s.1) ∨ (s.2 = 1 ∧ ∃ u ∈ ts sg n, t = .c1 s.1 u) ∨ (s.2 = 2 ∧ ∃ i, i + 1 < n ∧ ∃ u ∈ ts sg (i + 1), ∃ v ∈ ts sg (n - 1 - i), t = .c2 s.1 u v) := by
  unfold ov1 at h
  by_cases h0 : s.2 = 0
  · rw [if_pos h0] at h
    by_cases h1 : n + 1 = 1
    · rw [if_pos h1, List.mem_singleton] at h
      exact .inl ⟨h0, by omega, h⟩
    · rw [if_neg h1] at h
      cases h
  · rw [if_neg h0] at h
    by_cases h1 : s.2 = 1
    · rw [if_pos h1] at h
      obtain ⟨u, hu, e⟩ := List.mem_map.mp h
      exact .inr (.inl ⟨h1, u, mem_bl (Nat.le_refl _) hu, e.symm⟩)
    · rw [if_neg h1] at h
      obtain ⟨i, hi, h⟩ := List.mem_flatMap.mp h
      obtain ⟨u, hu, h⟩ := List.mem_flatMap.mp h
      obtain ⟨v, hv, e⟩ := List.mem_map.mp h
      have hi := List.mem_range.mp hi
      refine .inr (.inr ⟨by omega, i, by omega, u, mem_bl (by omega) hu, v, ?_, e.symm⟩)
      have := mem_bl (by omega) hv
      rw [show n + 1 - 2 - i = n - 1 - i by omega] at this
      exact this
theorem ts_wf {sg : Sg} (g : GSg sg) : ∀ n t, t ∈ ts sg n → Wf sg [] t ∧ t.size = n := by
  intro n
  induction n using Nat.strongRecOn with
  | ind n ih =>
    intro t h
    cases n with
    | zero => cases h
    | succ n =>
      rw [ts_succ] at h
      obtain ⟨s, hs, h⟩ := List.mem_flatMap.mp h
      rcases mem_ov1 (g.ar s hs) h with ⟨e, rfl, rfl⟩ | ⟨e, u, hu, rfl⟩ | ⟨e, i, hi, u, hu, v, hv, rfl⟩
      · exact ⟨mem_ar hs e, rfl⟩
      · obtain ⟨a, b⟩ := ih n (by omega) u hu
        exact ⟨⟨mem_ar hs e, a⟩, by show 1 + u.size = _; omega⟩
      · obtain ⟨a, b⟩ := ih (i + 1) (by omega) u hu
        obtain ⟨c, d⟩ := ih (n - 1 - i) (by omega) v hv
        exact ⟨⟨mem_ar hs e, a, c⟩, by show 1 + u.size + v.size = _; omega⟩
def LtK (sg : Sg) (t u : Tr) : Prop := ∃ p q : Int, p < q ∧ Dif (keyToks (keyD sg t)) (keyToks (keyD sg u)) p q
theorem LtK.lt {sg : Sg} {t u : Tr} (h : LtK sg t u) : dataLt (keyD sg t) (keyD sg u) = true := by
  obtain ⟨p, q, hpq, d⟩ := h
  exact (d.lt (by omega)).trans (decide_eq_true hpq)
theorem LtK.size {sg : Sg} {t u : Tr} (ht : Pl t) (hu : Pl u) (h : t.size < u.size) : LtK sg t u := by
  refine ⟨t.size, u.size, by omega, ?_⟩
  rw [toks_key sg ht, toks_key sg hu]
  exact ⟨[.inl 1], _, _, rfl, rfl⟩
theorem LtK.sym {sg : Sg} {t u : Tr} (ht : Pl t) (hu : Pl u) (h : t.size = u.size) (hp : place sg t.sym < place sg u.sym) : LtK sg t u := by
  refine ⟨place sg t.sym, place sg u.sym, by omega, ?_⟩
  rw [toks_key sg ht, toks_key sg hu, h]
  exact ⟨[.inl 1, .inl u.size, .inl 1], _, _, rfl, rfl⟩
theorem LtK.c1 {sg : Sg} {s : Str} {t u : Tr} (ht : Pl t) (hu : Pl u) (e : t.size = u.size) (h : LtK sg t u) : LtK sg (.c1 s t) (.c1 s u) := by
  obtain ⟨p, q, hpq, d⟩ := h
  refine ⟨p, q, hpq, ?_⟩
  rw [toks_key sg (t := .c1 s t) ht, toks_key sg (t := .c1 s u) hu, show (Tr.c1 s t).size = (Tr.c1 s u).size by show 1 + _ = 1 + _; rw [e]]
  exact ((d.app [.inl 0] [.inl 0]).pre [.inl 1]).pre _
theorem LtK.c2a {sg : Sg} {s : Str} {t u v x : Tr} (ht : Pl t) (hu : Pl u) (hv : Pl v) (hx : Pl x) (e : t.size = u.size) (e2 : v.size = x.size) (h : LtK sg t u) : LtK sg (.c2 s t v) (.c2 s u x) := by
  obtain ⟨p, q, hpq, d⟩ := h
  refine ⟨p, q, hpq, ?_⟩
  rw [toks_key sg (t := .c2 s t v) ⟨ht, hv⟩, toks_key sg (t := .c2 s u x) ⟨hu, hx⟩, show (Tr.c2 s t v).size = (Tr.c2 s u x).size by show 1 + _ + _ = 1 + _ + _; rw [e, e2]]
  exact ((d.app _ _).pre [.inl 1]).pre _
theorem LtK.c2s {sg : Sg} {s : Str} {t u v x : Tr} (ht : Pl t) (hu : Pl u) (hv : Pl v) (hx : Pl x) (e : (Tr.c2 s t v).size = (Tr.c2 s u x).size) (h : t.size < u.size) : LtK sg (.c2 s t v) (.c2 s u x) := by
  obtain ⟨p, q, hpq, d⟩ := LtK.size (sg := sg) ht hu h
  refine ⟨p, q, hpq, ?_⟩
  rw [toks_key sg (t := .c2 s t v) ⟨ht, hv⟩, toks_key sg (t := .c2 s u x) ⟨hu, hx⟩, e]
  exact ((d.app _ _).pre [.inl 1]).pre _
theorem LtK.c2b {sg : Sg} {s : Str} {t v x : Tr} (ht : Pl t) (hv : Pl v) (hx : Pl x) (e2 : v.size = x.size) (h : LtK sg v x) : LtK sg (.c2 s t v) (.c2 s t x) := by
  obtain ⟨p, q, hpq, d⟩ := h
  refine ⟨p, q, hpq, ?_⟩
  rw [toks_key sg (t := .c2 s t v) ⟨ht, hv⟩, toks_key sg (t := .c2 s t x) ⟨ht, hx⟩, show (Tr.c2 s t v).size = (Tr.c2 s t x).size by show 1 + _ + _ = 1 + _ + _; rw [e2]]
  exact (((((d.app [.inl 0] [.inl 0]).pre [.inl 1]).pre _).pre [.inl 1])).pre _
theorem places_up {sg : Sg} (g : GSg sg) : sg.Pairwise fun s s' => place sg s.1 < place sg s'.1 := by
  have key : ∀ i (hi : i < sg.length), place sg (sg[i]).1 = i := fun i hi => by
    have hm : (sg[i]).1 ∈ sg.map (·.1) := List.mem_map.mpr ⟨_, List.getElem_mem hi, rfl⟩
    obtain ⟨h1, h2, _⟩ := place_at hm
    rw [List.getElem?_map, List.getElem?_map, List.getElem?_eq_getElem h1] at h2
    have h3 : (sg[place sg (sg[i]).1]).1 = (sg[i]).1 := V.str.inj (Option.some.inj h2)
    have nd := List.pairwise_iff_getElem.mp g.nd
    rcases Nat.lt_trichotomy (place sg (sg[i]).1) i with h | h | h
    · exact absurd (by rw [List.getElem_map, List.getElem_map]; exact h3) (nd _ _ (by rw [List.length_map]; exact h1) (by rw [List.length_map]; exact hi) h)
    · exact h
    · exact absurd (by rw [List.getElem_map, List.getElem_map]; exact h3.symm) (nd _ _ (by rw [List.length_map]; exact hi) (by rw [List.length_map]; exact h1) h)
  refine List.pairwise_iff_getElem.mpr fun i j hi hj hij => ?_
  rw [key i hi, key j hj]
  exact hij
theorem pairwise_mem {α : Type} {R S : α → α → Prop} {l : List α} (h : l.Pairwise R) (f : ∀ a ∈ l, ∀ b ∈ l, R a b → S a b) : l.Pairwise S := by
  refine List.pairwise_iff_getElem.mpr fun i j hi hj hij => f _ (List.getElem_mem hi) _ (List.getElem_mem hj) (List.pairwise_iff_getElem.mp h i j hi hj hij)
theorem ts_asc {sg : Sg} (g : GSg sg) : ∀ n, (ts sg n).Pairwise (LtK sg) := by
  intro n
  induction n using Nat.strongRecOn with
  | ind n ih =>
    cases n with
    | zero => exact List.Pairwise.nil
    | succ n =>
      have W := ts_wf g
      rw [ts_succ]
      unfold ov
      rw [List.pairwise_flatMap]
      constructor
      · intro s hs
        unfold ov1
        by_cases h0 : s.2 = 0
        · rw [if_pos h0]
          by_cases h1 : n + 1 = 1
          · rw [if_pos h1]; exact List.pairwise_singleton _ _
          · rw [if_neg h1]; exact List.Pairwise.nil
        · rw [if_neg h0]
          by_cases h1 : s.2 = 1
          · rw [if_pos h1, Nat.add_sub_cancel, bl_get sg (Nat.le_refl _), List.pairwise_map]
            refine pairwise_mem (ih n (by omega)) fun a ha b hb h => ?_
            obtain ⟨wa, ea⟩ := W n a ha
            obtain ⟨wb, eb⟩ := W n b hb
            exact LtK.c1 wa.pl wb.pl (by omega) h
          · rw [if_neg h1]
            unfold pr
            rw [List.pairwise_flatMap]
            constructor
            · intro i hi
              have hi := List.mem_range.mp hi
              rw [bl_get sg (by omega), bl_get sg (by omega), List.pairwise_flatMap]
              constructor
              · intro t ht
                rw [List.pairwise_map]
                refine pairwise_mem (ih _ (by omega)) fun a ha b hb h => ?_
                obtain ⟨wa, ea⟩ := W _ a ha
                obtain ⟨wb, eb⟩ := W _ b hb
                exact LtK.c2b (W _ t ht).1.pl wa.pl wb.pl (by omega) h
              · refine pairwise_mem (ih (i + 1) (by omega)) fun a ha b hb h x hx y hy => ?_
                obtain ⟨u, hu, rfl⟩ := List.mem_map.mp hx
                obtain ⟨v, hv, rfl⟩ := List.mem_map.mp hy
                obtain ⟨wa, ea⟩ := W _ a ha
                obtain ⟨wb, eb⟩ := W _ b hb
                obtain ⟨wu, eu⟩ := W _ u hu
                obtain ⟨wv, ev⟩ := W _ v hv
                exact LtK.c2a wa.pl wb.pl wu.pl wv.pl (by omega) (by omega) h
            · refine pairwise_mem List.pairwise_lt_range fun i hi j hj hij x hx y hy => ?_
              have hi := List.mem_range.mp hi
              have hj := List.mem_range.mp hj
              rw [bl_get sg (by omega), bl_get sg (by omega)] at hx hy
              obtain ⟨a, ha, hx⟩ := List.mem_flatMap.mp hx
              obtain ⟨u, hu, rfl⟩ := List.mem_map.mp hx
              obtain ⟨b, hb, hy⟩ := List.mem_flatMap.mp hy
              obtain ⟨v, hv, rfl⟩ := List.mem_map.mp hy
              obtain ⟨wa, ea⟩ := W _ a ha
              obtain ⟨wb, eb⟩ := W _ b hb
              obtain ⟨wu, eu⟩ := W _ u hu
              obtain ⟨wv, ev⟩ := W _ v hv
              exact LtK.c2s wa.pl wb.pl wu.pl wv.pl (by show 1 + _ + _ = 1 + _ + _; omega) (by omega)
      · refine pairwise_mem (places_up g) fun s hs s' hs' h x hx y hy => ?_
        have sx : x.sym = s.1 := by
          rcases mem_ov1 (g.ar s hs) hx with ⟨_, _, rfl⟩ | ⟨_, u, _, rfl⟩ | ⟨_, i, _, u, _, v, _, rfl⟩ <;> rfl
        have sy : y.sym = s'.1 := by
          rcases mem_ov1 (g.ar s' hs') hy with ⟨_, _, rfl⟩ | ⟨_, u, _, rfl⟩ | ⟨_, i, _, u, _, v, _, rfl⟩ <;> rfl
        have hx' := W (n + 1) x (by rw [ts_succ]; exact List.mem_flatMap.mpr ⟨s, hs, hx⟩)
        have hy' := W (n + 1) y (by rw [ts_succ]; exact List.mem_flatMap.mpr ⟨s', hs', hy⟩)
        exact LtK.sym hx'.1.pl hy'.1.pl (by omega) (by rw [sx, sy]; exact h)
/-! ### the numbers are below some bound -/
theorem sum_le {c : Nat} : ∀ {l : List Nat}, (∀ x ∈ l, x ≤ c) → l.sum ≤ l.length * c
  | [], _ => by simp
  | a :: l, h => by
    have h1 := h a List.mem_cons_self
    have h2 := sum_le fun x hx => h x (List.mem_cons_of_mem _ hx)
    rw [List.sum_cons, List.length_cons, Nat.add_mul]
    omega
theorem ct_small {sg : Sg} (g : GSg sg) : ∀ n, n ≤ 60 → ct sg n ≤ 2 ^ (20 * n) := by
  intro n
  induction n using Nat.strongRecOn with
  | ind n ih =>
    intro hn
    cases n with
    | zero => exact Nat.zero_le _
    | succ n =>
      rw [ct_succ]
      have each : ∀ s ∈ sg, co1 (cl sg n) s.2 (n + 1) ≤ 60 * 2 ^ (20 * n) := fun s hs => by
        have hp : 1 ≤ 2 ^ (20 * n) := Nat.one_le_two_pow
        unfold co1
        by_cases h0 : s.2 = 0
        · rw [if_pos h0]
          split <;> omega
        · rw [if_neg h0]
          by_cases h1 : s.2 = 1
          · rw [if_pos h1, Nat.add_sub_cancel, cl_get sg (Nat.le_refl _)]
            have := ih n (by omega) (by omega)
            omega
          · rw [if_neg h1]
            refine Nat.le_trans (sum_le (c := 2 ^ (20 * n)) fun x hx => ?_) ?_
            · obtain ⟨i, hi, rfl⟩ := List.mem_map.mp hx
              have hi := List.mem_range.mp hi
              rw [cl_get sg (by omega), cl_get sg (by omega)]
              refine Nat.le_trans (Nat.mul_le_mul (ih (i + 1) (by omega) (by omega)) (ih (n + 1 - 2 - i) (by omega) (by omega))) ?_
              rw [← Nat.pow_add]
              exact Nat.pow_le_pow_right (by decide) (by omega)
            · rw [List.length_map, List.length_range]
              exact Nat.mul_le_mul_right _ (by omega)
      have h4 : co sg (cl sg n) (n + 1) ≤ sg.length * (60 * 2 ^ (20 * n)) := by
        have := sum_le (l := sg.map fun s => co1 (cl sg n) s.2 (n + 1)) (c := 60 * 2 ^ (20 * n)) fun x hx => by
          obtain ⟨s, hs, rfl⟩ := List.mem_map.mp hx
          exact each s hs
        rw [List.length_map] at this
        exact this
      refine Nat.le_trans h4 ?_
      have hl := g.len.2
      have e : 2 ^ (20 * (n + 1)) = 2 ^ 20 * 2 ^ (20 * n) := by rw [← Nat.pow_add]; congr 1; omega
      rw [e]
      refine Nat.le_trans (Nat.mul_le_mul_right _ hl) ?_
      rw [← Nat.mul_assoc]
      exact Nat.mul_le_mul_right _ (by decide)
/-- the law's own way to add up -/
theorem conv {C : List Nat} (h0 : C.getD 0 0 = 0) {m : Nat} (hm : 2 ≤ m) : ((List.range m).map fun k => C.getD k 0 * C.getD (m - 1 - k) 0).sum = ((List.range (m - 2)).map fun i => C.getD (i + 1) 0 * C.getD (m - 2 - i) 0).sum := by
  obtain ⟨j, rfl⟩ : ∃ j, m = j + 2 := ⟨m - 2, by omega⟩
  rw [List.range_succ_eq_map, List.map_cons, List.sum_cons, h0, Nat.zero_mul, Nat.zero_add, List.map_map, List.range_succ, List.map_append, List.sum_append, Nat.add_sub_cancel]
  have e1 : (List.map ((fun k => C.getD k 0 * C.getD (j + 2 - 1 - k) 0) ∘ Nat.succ) [j]).sum = 0 := by
    show C.getD (j + 1) 0 * C.getD (j + 2 - 1 - (j + 1)) 0 + 0 = 0
    rw [show j + 2 - 1 - (j + 1) = 0 by omega, h0, Nat.mul_zero]
  rw [e1, Nat.add_zero]
  congr 1
  refine List.map_congr_left fun i hi => ?_
  show C.getD (i + 1) 0 * C.getD (j + 2 - 1 - (i + 1)) 0 = _
  rw [show j + 2 - 1 - (i + 1) = j - i by omega]
end Pg

set_option Elab.async false
set_option linter.all false
set_option maxRecDepth 100000
set_option maxHeartbeats 4000000
namespace Pg
open PySem PySem.Spec PyProof.Rows L2
/-! ### lists of numbers; comprehensions whose step changes nothing that stands -/
def cv (C : List Nat) : List V := C.map fun n => V.int (n : Nat)
theorem cv_int (C : List Nat) : cv C = (C.map fun n : Nat => (n : Int)).map V.int := by unfold cv; rw [List.map_map]; rfl
theorem sum_int : ∀ l : List Nat, (l.map fun n : Nat => (n : Int)).sum = ((l.sum : Nat) : Int)
  | [] => rfl
  | a :: l => by rw [List.map_cons, List.sum_cons, sum_int l, List.sum_cons]; omega
theorem getD_at {α : Type} {l : List α} {d : α} {k : Nat} (h : k < l.length) : l[k]? = some (l.getD k d) := by
  rw [List.getD_eq_getElem?_getD, List.getElem?_eq_getElem h]; rfl
theorem at_cv {C : List Nat} {i : Int} {k : Nat} (e : i = (k : Int)) (h : k < C.length) : atI (cv C) i = some (.int (C.getD k 0 : Nat)) := by
  subst e
  refine atI_nat ?_
  show (C.map _)[k]? = _
  rw [List.getElem?_map, getD_at (d := 0) h]
  rfl
section
variable {K : PySem.W.Frag} {σ : L2.St} {H : Hp} {Q : VK} {p : Addr} {rs : List Addr} {sg : Sg} {j j1 j2 : Nat} {te : TE}
theorem rd_rng {lo : Int} {n : Nat} {wi : TI} (f : Nat → V) (hwi : ∀ R, R (Itr lo n) H → wi σ H R) (hn : n ≤ 100000) (hw : ∀ x, wipe ((wipe σ [j]).set j (some x)) [j] = wipe σ [j])
    (ht : ∀ i H', i < n → Same H H' → ∀ Q', (∀ H2, Same H' H2 → Q' (f i) H2) → te ((wipe σ [j]).set j (some (.int (lo + i)))) H' Q')
    (h : ∀ D H', H D = none → Same H H' → H' D = some (.lst ((List.range n).map f)) → Q (.ref D) H') : tLc wi (gName j) tYes te [j] σ H Q := by
  refine hwi _ (fun D nD => lc_range (fun i H' => Same H H' ∧ H' D = some (.lst ((List.range i).map f))) ⟨Same.new nD, upd_same⟩ (fun i H' hi iv => ?_) (fun H' iv => h D H' nD iv.1 iv.2))
  obtain ⟨sm, hd⟩ := iv
  refine ⟨hw _, yes_turn ?_⟩
  refine ht i H' hi sm _ (fun H2 s2 => ?_)
  refine ⟨_, s2 _ _ hd, by rw [List.length_map, List.length_range, sizeLine_eq]; omega, Same.mut nD (sm.trans s2), ?_⟩
  rw [upd_same, List.range_succ, List.map_append]
  rfl
theorem rd_prs {i : Nat} (f : Str × Int → V) (hi : σ[i]? = some (some (.ref p))) (hS : SgAt K H p sg) (h4 : sg.length ≤ 1000) (hw : ∀ x y, wipe (((wipe σ [j1, j2]).set j1 (some x)).set j2 (some y)) [j1, j2] = wipe σ [j1, j2])
    (ht : ∀ s H', s ∈ sg → Same H H' → ∀ Q', (∀ H2, Same H' H2 → Q' (f s) H2) → te (((wipe σ [j1, j2]).set j1 (some (.str s.1))).set j2 (some (.int s.2))) H' Q')
    (h : ∀ D H', H D = none → Same H H' → H' D = some (.lst (sg.map f)) → Q (.ref D) H') :
    tLc (iTup K (tVar i)) (gTup K 2 (gCons (gName j1) (gCons (gName j2) gNil))) tYes te [j1, j2] σ H Q := by
  obtain ⟨rs, hT, pr⟩ := hS.ex
  refine ⟨_, hi, p, rfl, ⟨_, hT⟩, fun D nD => lc_tup (K := K) (xs := rs.map V.ref) (fun i H' => Same H H' ∧ H' D = some (.lst ((sg.take i).map f))) ⟨Same.new nD, upd_same⟩ (fun i H' _ iv => TK.same iv.1 _ _ hT) (fun i x H' hx iv => ?_) (fun H' iv => ?_)⟩
  · rw [List.getElem?_map] at hx
    obtain ⟨r, e, rfl⟩ : ∃ r, rs[i]? = some r ∧ V.ref r = x := by
      cases e : rs[i]? with
      | none => rw [e] at hx; cases hx
      | some z => rw [e] at hx; exact ⟨z, rfl, Option.some.inj hx⟩
    obtain ⟨s, es, hr⟩ := Pg.paired_get pr e
    obtain ⟨sm, hd⟩ := iv
    refine ⟨r, _, rfl, TK.same sm _ _ hr, rfl, _, _, rfl, _, _, rfl, rfl, hw _ _, ?_⟩
    refine yes_turn (ht s H' (List.mem_of_getElem? es) sm _ fun H2 s2 => ⟨_, s2 _ _ hd, ?_, Same.mut nD (sm.trans s2), ?_⟩)
    · rw [List.length_map, List.length_take]
      exact small1000 (by omega)
    · rw [upd_same, take_snoc es, List.map_append]
      rfl
  · obtain ⟨sm, hd⟩ := iv
    rw [List.length_map, paired_len pr, List.take_length] at hd
    exact h D H' nD sm hd
end
theorem log2_small {n : Nat} (h : n ≤ 2 ^ 1200) : n.log2 ≤ 1200 := by
  by_cases e : n = 0
  · subst e; decide
  · have := (Nat.log2_lt e).mpr (show n < 2 ^ 1201 from Nat.lt_of_le_of_lt h (Nat.pow_lt_pow_right (by decide) (by decide)))
    omega
theorem mulW {a b : Nat} (ha : a ≤ 2 ^ 1200) (hb : b ≤ 2 ^ 1200) : CMulW (a : Int) (b : Int) := by
  have h1 := log2_small ha
  have h2 := log2_small hb
  show (a : Int).natAbs.log2 + (b : Int).natAbs.log2 < 1000000
  rw [Int.natAbs_natCast, Int.natAbs_natCast]
  omega
theorem cl_small {sg : Sg} (g : GSg sg) {n : Nat} (hn : n ≤ 60) (k : Nat) : (cl sg n).getD k 0 ≤ 2 ^ 1200 := by
  by_cases hk : k ≤ n
  · rw [cl_get sg hk]
    exact Nat.le_trans (ct_small g k (by omega)) (Nat.pow_le_pow_right (by decide) (by omega))
  · rw [List.getD_eq_getElem?_getD, List.getElem?_eq_none (by rw [cl_len]; omega)]
    exact Nat.zero_le _
def spCov (K : PySem.W.Frag) : Sp := fun vs H Q _ => ∃ (c : Addr) (C : List Nat) (ar m : Int) (m' : Nat), vs = [.ref c, .int ar, .int m] ∧ SqL K H c (cv C) ∧ m = (m' : Int) ∧ C.length = m' ∧ (∀ k, C.getD k 0 ≤ 2 ^ 1200) ∧ 1 ≤ m' ∧ m' ≤ 60 ∧ 0 ≤ ar ∧ ar ≤ 2 ∧ ∀ H', Same H H' → Q (.int (co1 C ar m' : Nat)) H'
def spCto (K : PySem.W.Frag) : Sp := fun vs H Q _ => ∃ (g : Addr) (sg : Sg) (n : Nat), vs = [.ref g, .int (n : Nat)] ∧ SgAt K H g sg ∧ GSg sg ∧ n ≤ 60 ∧ ∀ p H', H p = none → Same H H' → H' p = some (.lst (cv (cl sg n))) → Q (.ref p) H'
end Pg

set_option Elab.async false
set_option linter.all false
set_option maxRecDepth 100000
set_option maxHeartbeats 4000000
namespace Pg
open PySem PySem.Spec PyProof.Rows L2
theorem smallN {n : Nat} (h : n ≤ 100000) : n < sizeLine := by rw [sizeLine_eq]; omega
/-- lists of trees, by size -/
def BLat (K : PySem.W.Frag) (H : Hp) (b : Addr) (B : List (List Tr)) : Prop := ∃ rs : List Addr, SqL K H b (rs.map V.ref) ∧ Paired (fun r (ks : List Tr) => ∃ us, H r = some (.lst us) ∧ KidsAt K H us ks) rs B
section
variable {K : PySem.W.Frag} {H H' : Hp} {b : Addr} {B : List (List Tr)}
theorem BLat.same (s : Same H H') (h : BLat K H b B) : BLat K H' b B := by
  obtain ⟨rs, a, p⟩ := h
  exact ⟨rs, s.seq a, Paired.imp2 (fun _ _ ⟨us, e, k⟩ => ⟨us, s _ _ e, k.keep (TK.same s)⟩) p⟩
theorem BLat.at {k : Nat} {i : Int} (h : BLat K H b B) (e : i = (k : Int)) (hk : k < B.length) : ∃ xs r us, SqL K H b xs ∧ atI xs i = some (.ref r) ∧ H r = some (.lst us) ∧ KidsAt K H us (B.getD k []) := by
  obtain ⟨rs, a, p⟩ := h
  obtain ⟨r, er, us, h1, h2⟩ := Pg.paired_get2 p (getD_at (d := []) hk)
  exact ⟨_, r, us, a, by rw [e]; exact atI_nat (by rw [List.getElem?_map, er]; rfl), h1, h2⟩
end
section
variable {K : PySem.W.Frag} {σ : L2.St} {H : Hp} {Q : VK} {r : Addr} {us : List V} {ks : List Tr} {j : Nat} {te : TE}
/-- [f(tree) for tree in xs] over a list of trees -/
theorem rd_kidsL {wi : TI} (hwi : ∀ R, R (Itl K r) H → wi σ H R) (hS : SqL K H r us) (R : Hp → V → Tr → Prop) (mono : ∀ H H' v k, k ∈ ks → TK K H H' → R H v k → R H' v k) (pr : KidsAt K H us ks) (hlen : ks.length ≤ 100000)
    (hw : ∀ x, wipe ((wipe σ [j]).set j (some x)) [j] = wipe σ [j])
    (ht : ∀ u k H', k ∈ ks → Same H H' → TrAt K H' k u → ∀ Q', (∀ v H2, Same H' H2 → R H2 v k → Q' v H2) → te ((wipe σ [j]).set j (some u)) H' Q')
    (h : ∀ D H' ws, H D = none → Same H H' → H' D = some (.lst ws) → Paired (R H') ws ks → Q (.ref D) H') : tLc wi (gName j) tYes te [j] σ H Q := by
  refine hwi _ (fun D nD => ?_)
  have step : ∀ {H1 H2 : Hp} {ws : List V} {l : List Tr}, (∀ k ∈ l, k ∈ ks) → TK K H1 H2 → Paired (R H1) ws l → Paired (R H2) ws l := by
    intro H1 H2 ws l hl tk hp
    induction hp with
    | nil => exact .nil
    | cons a b ih => exact .cons (mono _ _ _ _ (hl _ List.mem_cons_self) tk a) (ih fun k hk => hl k (List.mem_cons_of_mem _ hk))
  refine lc_list (K := K) (xs := us) (fun i H' => Same H H' ∧ ∃ ws, H' D = some (.lst ws) ∧ Paired (R H') ws (ks.take i)) ⟨Same.new nD, [], upd_same, .nil⟩ (fun i H' _ iv => iv.1.seq hS) (fun i x H' hx iv => ?_) (fun H' iv => ?_)
  · obtain ⟨sm, ws, hd, hr⟩ := iv
    obtain ⟨k, ek, hk⟩ := Pg.paired_get pr hx
    have hlt : i < ks.length := (List.getElem?_eq_some_iff.mp ek).1
    refine ⟨hw _, yes_turn ?_⟩
    refine ht x k H' (List.mem_of_getElem? ek) sm (TrAt.keep (TK.same sm) hk) _ (fun v H2 s2 r2 => ?_)
    have hd2 := s2 _ _ hd
    refine ⟨ws, hd2, by rw [paired_len hr, List.length_take]; exact smallN (by omega), Same.mut nD (sm.trans s2), ws ++ [v], upd_same, ?_⟩
    rw [take_snoc ek]
    exact paired_app (step (fun k hk => List.mem_of_mem_take hk) ((TK.same s2).trans (TK.put hd2)) hr) (.cons (mono _ _ _ _ (List.mem_of_getElem? ek) (TK.put hd2) r2) .nil)
  · obtain ⟨sm, ws, hd, hr⟩ := iv
    rw [paired_len pr, List.take_length] at hr
    exact h D H' ws nD sm hd hr
end
theorem flat_take {α β : Type} (f : α → List β) (l : List α) (i : Nat) : ((l.take i).flatMap f).length ≤ (l.flatMap f).length := by
  have e : l.flatMap f = (l.take i).flatMap f ++ (l.drop i).flatMap f := by rw [← List.flatMap_append, List.take_append_drop]
  rw [e, List.length_append]
  omega
theorem range_take (n i : Nat) (h : i ≤ n) : (List.range n).take i = List.range i := by rw [List.take_range, Nat.min_eq_left h]
def spPov (K : PySem.W.Frag) : Sp := fun vs H Q _ => ∃ (s : Str) (b : Addr) (B : List (List Tr)) (m : Nat), vs = [.str s, .ref b, .int (m : Nat)] ∧ BLat K H b B ∧ B.length = m ∧ m ≤ 60 ∧ (∀ k, (B.getD k []).length ≤ 2000) ∧ (pr s B m).length ≤ 2000 ∧ (∀ k, ∀ t ∈ B.getD k [], Pl t) ∧
  ∀ p vs H', H p = none → Same H H' → H' p = some (.lst vs) → KidsAt K H' vs (pr s B m) → Q (.ref p) H'
def spTov (K : PySem.W.Frag) : Sp := fun vs H Q _ => ∃ (g b : Addr) (sg : Sg) (B : List (List Tr)) (m : Nat), vs = [.ref g, .ref b, .int (m : Nat)] ∧ SgAt K H g sg ∧ GSg sg ∧ BLat K H b B ∧ B.length = m ∧ 1 ≤ m ∧ m ≤ 60 ∧ (∀ k, (B.getD k []).length ≤ 2000) ∧ (ov sg B m).length ≤ 2000 ∧ (∀ k, ∀ t ∈ B.getD k [], Pl t) ∧
  ∀ p vs H', H p = none → Same H H' → H' p = some (.lst vs) → KidsAt K H' vs (ov sg B m) → Q (.ref p) H'
end Pg

set_option Elab.async false
set_option linter.all false
set_option maxRecDepth 100000
set_option maxHeartbeats 4000000
namespace Pg
open PySem PySem.Spec PyProof.Rows L2
/-! ### defs that may raise -/
structure CalX (P : Program) (w : World) (K : PySem.W.Frag) (mg : Str → Option Value) (base : Heap) (k : Nat) (x : Str) (sp : Sp) : Prop where
  ex : ∃ (f : Addr) (fd : FuncData) (ps : List Str), FnOk P w K mg base (L2.CX P w) k f fd ps sp ∧ mg x = some (.ref f) ∧ PySem.W.keepIn K (.ref f) = true ∧ Binds K fd ps []
theorem mk_calX {P : Program} {w : World} {K : PySem.W.Frag} {mg : Str → Option Value} {base : Heap} {x : Str} {st : Stmt} {f : Addr} {fd : FuncData} {N ps : List Str} {k : Nat} {sp : Sp} (F : FnP K x st f fd) (hm : mg x = some (.ref f)) (S : FnScope N ps (defScope st))
    (hb : ∀ (kV doc pm : Value) (an : Option Addr) (cdv ct : Value) (us : List Value), us.length = ps.length → bindArgs (PySem.W.fnOf x x (defArgs st) (defBody st) (defScope st) .none kV doc pm an cdv ct) ⟨us, []⟩ = pure (ps.zip us))
    (len : ∀ vs H Q E, sp vs H Q E → vs.length = ps.length)
    (body : ∀ (cdv : Value) (A : Around) (outer : List Env) (s : Shared) (H : Hp) (vs : List V) (Q : VK) (E : XK), Room k (A.deeper (envOfC x (defScope st) s.heap.objs.size f cdv)) → sp vs H Q E →
      ∃ t, PSs (cxOf (L2.CX P w) P w K mg base N x (defScope st) f cdv A outer s H E) (defBody st) t ∧ t { nx := fun _ H' => Q .non H', rt := Q } (start N vs) H) : CalX P w K mg base (k + 1) x sp :=
  ⟨f, fd, ps, F.ok S len body, hm, F.kp, F.bindsN hb⟩
section
variable {X : Cx} {k j : Nat} {x : Str} {sp : Sp} {W : WX} {p pos : Pos} {e : Expr} {es : List Expr} {t : TA}
theorem pe_cx (c : CalX X.prog X.w X.K X.mg X.base k x sp) (hr : Room j X.A) (hk : k ≤ j) (hg : Gl X x) (tk : Takes X W) (ha : PA X (e :: es) t)
    (hdb : (x == ("__debug__" : Str)) = false := by decide) (he : starEach (e :: es) X.env = (false, eval e X.env) :: starEach es X.env := by rfl) (hpl : (backTo pos (starEach es X.env)).any (·.1) = false := by rfl) :
    PE X (.Call (.Name x p) (e :: es) [] pos) (tCallS sp (WE W) t) := by
  obtain ⟨f, fd, ps, F, hm, kp, b⟩ := c.ex
  exact pe_callS F (hr.mono hk) hg hm kp b (fun σ => passAt tk σ) ha hdb he hpl
end
/-! isinstance of a caught exception whose class the reading tells -/
def rIsE2 (K : PySem.W.Frag) (cls : Value) (d : Option Addr) (D a : Addr) : List V → Hp → VK → Prop := fun xs H Q => cls = .ref D ∧ d = none ∧ rIsE K D a xs H Q
theorem call_isE2 {X : Cx} {a D : Addr} {oe : Obj} {pn : List (Addr × Obj)} {cls : Value} {d : Option Addr} (C : ExcC X.K D) (hz : Zc cls d oe) (hf : ∃ vs, oe.data = .fields vs) : CallR (X.suite a ((a, oe) :: pn)) (.builtin "isinstance") (rIsE2 X.K cls d D a) := by
  intro pins s σ H xs us Q I r ⟨e1, e2, h⟩
  subst e1 e2
  exact call_isE C hz hf pins s σ H xs us Q I r h
def rIsET (K : PySem.W.Frag) (cls : Value) (d : Option Addr) (D a : Addr) : List V → Hp → VK → Prop := fun xs H Q => cls = .ref D ∧ d = none ∧ ∃ (tp : Addr) (as : List Addr) (b : Bool), xs = [.ref a, .ref tp] ∧ H tp = some (.tup (as.map V.ref)) ∧ PySem.W.kitAny K (.ref D) (as.map Value.ref) = some b ∧ Q (.bl b) H
theorem vals_refs : ∀ {as : List Addr} {us : List Value}, Vals (as.map V.ref) us → us = as.map Value.ref
  | [], _, h => by cases h; rfl
  | a :: as, _, h => by
    cases h with
    | cons r t => cases r; rw [vals_refs t]; rfl
theorem call_isET {X : Cx} {a D : Addr} {oe : Obj} {pn : List (Addr × Obj)} {cls : Value} {d : Option Addr} (C : ExcC X.K D) (hz : Zc cls d oe) (hf : ∃ vs, oe.data = .fields vs) : CallR (X.suite a ((a, oe) :: pn)) (.builtin "isinstance") (rIsET X.K cls d D a) := by
  intro pins s σ H xs us Q I r ⟨e1, e2, tp, as, b, ex, ht, e, q⟩
  subst e1 e2 ex
  obtain ⟨u1, u2, rfl, r1, r2⟩ := vals2 r
  cases r1
  cases r2
  obtain ⟨hget, _⟩ := I.pin (a, oe) (List.mem_append.mpr (.inl List.mem_cons_self))
  obtain ⟨vs, hv⟩ := hf
  have J : PySem.W.InstAt s.heap a oe D none := by
    obtain ⟨oc, od, oda, osl⟩ := oe
    obtain ⟨h1, h2⟩ := hz
    dsimp only at h1 h2 hv
    subst h1 h2 hv
    exact ⟨hget, rfl, rfl, trivial⟩
  obtain ⟨hz', its, rv, o⟩ := I.hok tp _ ht
  obtain rfl := vals_refs rv
  obtain ⟨ob, ho, h1, n, h2⟩ := o
  obtain ⟨oc, od, oda, osl⟩ := ob
  dsimp only at h1 h2
  subst h1 h2
  exact PySem.W.kia_tup (PySem.W.handS_kitx_exc C.hg C.hk C.hs C.hd C.ha C.hn C.ht C.hm) I.kIn J ho e (fun z => nomatch z) fun tk => ⟨.bl b, H, I.kept (t' := tk) fun _ _ z => z, rfl, q⟩
structure Ex2 (K : PySem.W.Frag) (mg : Str → Option Value) (N T M Pe : Addr) : Prop where
  mc : ∃ u, mg "MAX_COUNTED" = some u ∧ RelV (.int 60) u
  ml : ∃ u, mg "MAX_LISTED" = some u ∧ RelV (.int 2000) u
  gN : mg "NotAllowed" = some (.ref N)
  gT : mg "TooLarge" = some (.ref T)
  gM : mg "Missing" = some (.ref M)
  gP : mg "PergolaError" = some (.ref Pe)
  xN : PySem.W.excIn K N He.veBase "ValueError.__new__" = true
  xT : PySem.W.excIn K T He.veBase "ValueError.__new__" = true
  kN : PySem.W.keepIn K (.ref N) = true
  kT : PySem.W.keepIn K (.ref T) = true
  bN : PySem.W.subIn K (.ref N) (.type "BaseException") = some true
  bT : PySem.W.subIn K (.ref T) (.type "BaseException") = some true
  tN : PySem.W.typeIn K (.ref N) = some (.type "type")
  tT : PySem.W.typeIn K (.ref T) = some (.type "type")
  eN : PySem.W.exmOne K (.ref N) (.ref N) = some true
  eT : PySem.W.exmOne K (.ref T) (.ref T) = some true
  cN : ExcC K N
  cT : ExcC K T
  iN : PySem.W.kitOne K (.ref N) (.ref Pe) = some true
  iT : PySem.W.kitOne K (.ref T) (.ref Pe) = some true
  aN : PySem.W.kitAny K (.ref N) [.ref T, .ref M] = some false
  aT : PySem.W.kitAny K (.ref T) [.ref N, .ref M] = some false
def spChk (N : Addr) : Sp := fun vs H Q E => ∃ n : Int, vs = [.int n] ∧ ((0 ≤ n ∧ n ≤ 60) → Q .non H) ∧ (¬ (0 ≤ n ∧ n ≤ 60) → E (.ref N) none H)
def spCnt (K : PySem.W.Frag) (N : Addr) : Sp := fun vs H Q E => ∃ (g : Addr) (sg : Sg) (n : Int), vs = [.ref g, .int n] ∧ SgAt K H g sg ∧ GSg sg ∧ ((0 ≤ n ∧ n ≤ 60) → ∀ H', Same H H' → Q (.int (ct sg n.toNat : Nat)) H') ∧ (¬ (0 ≤ n ∧ n ≤ 60) → E (.ref N) none H)
def spTrs (K : PySem.W.Frag) (N T : Addr) : Sp := fun vs H Q E => ∃ (g : Addr) (sg : Sg) (n : Int), vs = [.ref g, .int n] ∧ SgAt K H g sg ∧ GSg sg ∧ ((0 ≤ n ∧ n ≤ 60) → ct sg n.toNat ≤ 2000 → ∀ p vs H', H p = none → Same H H' → H' p = some (.lst vs) → KidsAt K H' vs (ts sg n.toNat) → Q (.ref p) H') ∧
  ((0 ≤ n ∧ n ≤ 60) → 2000 < ct sg n.toNat → ∀ H', Same H H' → E (.ref T) none H') ∧ (¬ (0 ≤ n ∧ n ≤ 60) → E (.ref N) none H)
end Pg

set_option Elab.async false
set_option linter.all false
set_option maxRecDepth 100000
set_option maxHeartbeats 4000000
namespace Pg
open PySem PySem.Spec PyProof.Rows L2
theorem mk_fng {P : Program} {w : World} {K : PySem.W.Frag} {mg : Str → Option Value} {base : Heap} {f : Addr} {fd : FuncData} {x : Str} {st : Stmt} {N ps : List Str} {k : Nat} {sp : Sp} (F : FnP K x st f fd) (S : FnScope N ps (defScope st)) (len : ∀ vs H Q E, sp vs H Q E → vs.length = ps.length)
    (body : ∀ (cdv : Value) (A : Around) (outer : List Env) (s : Shared) (H : Hp) (vs : List V) (Q : VK), (A.deeper (envOfC x (defScope st) s.heap.objs.size f cdv)).guards = some [] → Room k (A.deeper (envOfC x (defScope st) s.heap.objs.size f cdv)) → sp vs H Q E0 →
      ∃ t, PSs (cxOf CX0 P w K mg base N x (defScope st) f cdv A outer s H E0).nox (defBody st) t ∧ t { nx := fun _ H' => Q .non H', rt := Q } (start N vs) H) : FnG P w K mg base (k + 1) f fd ps sp := by
  obtain ⟨oc, od, dV, kV, doc, pm, an, cdv, ct, osl, rfl, lk, hcd, _, _⟩ := F.ex
  exact fng_of lk hcd S len fun A outer s H vs Q hg hr hsp => body cdv A outer s H vs Q hg hr hsp
theorem int_show {n : Int} (h : n.natAbs.log2 < 1920) : PyData.showable (.list [.int n]) = true ∧ PyData.hasDict (.list [.int n]) = false ∧ (PyData.shown (.list [.int n])).length ≤ sizeLine ∧ (PyData.list [.int n]).depth ≤ 70 := by
  refine ⟨?_, rfl, ?_, by simp [PyData.depth, PyData.depthAll]⟩
  · show (decide (n.natAbs.log2 < 1920) && true) = true
    rw [decide_eq_true h]; rfl
  · have e : PyData.shown (.list [.int n]) = (("[" : Str) ++ ("" : Str) ++ PySem.Str.ofString (toString n)) ++ ("]" : Str) := rfl
    rw [e, PySem.Str.length_append, PySem.Str.length_append]
    have h1 := int_text_len_1921 h
    have h2 : (("[" : Str) ++ ("" : Str)).length ≤ 10 := by decide +kernel
    have h3 : ("]" : Str).length ≤ 10 := by decide +kernel
    exact Nat.le_of_lt (smallN (Nat.le_trans (Nat.add_le_add (Nat.add_le_add h2 h1) h3) (by decide)))
def spSame1 : Sp := fun vs H Q _ => ∃ n : Int, vs = [.int n, .int n] ∧ n.natAbs.log2 < 1920 ∧ ∀ H', Same H H' → Q (.bl true) H'
def spRef (K : PySem.W.Frag) : Sp := fun vs H Q _ => ∃ (kd n : Int) (g : Addr) (sg : Sg), vs = [.int kd, .ref g, .int n] ∧ SgAt K H g sg ∧ GSg sg ∧ ¬ (0 ≤ n ∧ n ≤ 60) ∧ ∀ H', Same H H' → Q (.bl true) H'
def spLrg (K : PySem.W.Frag) : Sp := fun vs H Q _ => ∃ (n : Int) (g : Addr) (sg : Sg), vs = [.ref g, .int n] ∧ SgAt K H g sg ∧ GSg sg ∧ (0 ≤ n ∧ n ≤ 60) ∧ 2000 < ct sg n.toNat ∧ ∀ H', Same H H' → Q (.bl true) H'
end Pg

set_option Elab.async false
set_option linter.all false
set_option maxRecDepth 100000
set_option maxHeartbeats 4000000
namespace Pg
open PySem PySem.Spec PyProof.Rows L2
section
variable {K : PySem.W.Frag} {H H' : Hp}
mutual
theorem dp_same (s : Same H H') : ∀ (d : PyData) (v : V), Dp K H v d → Dp K H' v d
  | .none, _, h => by cases h; exact .non
  | .bool _, _, h => by cases h; exact .bl _
  | .int _, _, h => by cases h; exact .int _
  | .str _, _, h => by cases h; exact .str _
  | .list ds, _, h => by
    cases h with
    | lst hq ha => exact .lst (s.seq hq) (dpAll_same s ds _ ha)
  | .tuple ds, _, h => by
    cases h with
    | tup hq ha => exact .tup (TK.same s _ _ hq) (dpAll_same s ds _ ha)
  | .dict _, _, h => by cases h
theorem dpAll_same (s : Same H H') : ∀ (ds : List PyData) (vs : List V), DpAll K H vs ds → DpAll K H' vs ds
  | [], _, h => by cases h; exact .nil
  | d :: ds, _, h => by
    cases h with
    | cons a b => exact .cons (dp_same s d _ a) (dpAll_same s ds _ b)
end
end
section
variable {K : PySem.W.Frag} {σ : L2.St} {H : Hp} {Q : VK} {p r : Addr} {us : List V} {sg : Sg} {j j1 j2 : Nat} {te : TE} {tt : TT}
theorem if_of {b : Bool} {F G : Prop} (h1 : b = true → F) (h2 : b = false → G) : (if b = true then F else G) := by
  cases b with
  | true => rw [if_pos rfl]; exact h1 rfl
  | false => rw [if_neg Bool.false_ne_true]; exact h2 rfl
/-- [f(sign, arity) for sign, arity in signs if ..] -/
theorem rd_prsIf {i : Nat} (f : Str × Int → V) (b : Str × Int → Bool) (hi : σ[i]? = some (some (.ref p))) (hS : SgAt K H p sg) (h4 : sg.length ≤ 1000) (hw : ∀ x y, wipe (((wipe σ [j1, j2]).set j1 (some x)).set j2 (some y)) [j1, j2] = wipe σ [j1, j2])
    (htt : ∀ s H', s ∈ sg → Same H H' → ∀ Q' : Bool → Hp → Prop, Q' (b s) H' → tt (((wipe σ [j1, j2]).set j1 (some (.str s.1))).set j2 (some (.int s.2))) H' Q')
    (ht : ∀ s H', s ∈ sg → Same H H' → ∀ Q', (∀ H2, Same H' H2 → Q' (f s) H2) → te (((wipe σ [j1, j2]).set j1 (some (.str s.1))).set j2 (some (.int s.2))) H' Q')
    (h : ∀ D H', H D = none → Same H H' → H' D = some (.lst ((sg.filter b).map f)) → Q (.ref D) H') :
    tLc (iTup K (tVar i)) (gTup K 2 (gCons (gName j1) (gCons (gName j2) gNil))) tt te [j1, j2] σ H Q := by
  obtain ⟨rs, hT, pr⟩ := hS.ex
  refine ⟨_, hi, p, rfl, ⟨_, hT⟩, fun D nD => lc_tup (K := K) (xs := rs.map V.ref) (fun i H' => Same H H' ∧ H' D = some (.lst (((sg.take i).filter b).map f))) ⟨Same.new nD, upd_same⟩ (fun i H' _ iv => TK.same iv.1 _ _ hT) (fun i x H' hx iv => ?_) (fun H' iv => ?_)⟩
  · rw [List.getElem?_map] at hx
    obtain ⟨r, e, rfl⟩ : ∃ r, rs[i]? = some r ∧ V.ref r = x := by
      cases e : rs[i]? with
      | none => rw [e] at hx; cases hx
      | some z => rw [e] at hx; exact ⟨z, rfl, Option.some.inj hx⟩
    obtain ⟨s, es, hr⟩ := Pg.paired_get pr e
    obtain ⟨sm, hd⟩ := iv
    refine ⟨r, _, rfl, TK.same sm _ _ hr, rfl, _, _, rfl, _, _, rfl, rfl, hw _ _, ?_⟩
    refine htt s H' (List.mem_of_getElem? es) sm _ (if_of (fun e1 => ?_) fun e1 => ?_)
    · refine ht s H' (List.mem_of_getElem? es) sm _ fun H2 s2 => ⟨_, s2 _ _ hd, ?_, Same.mut nD (sm.trans s2), ?_⟩
      · rw [List.length_map]
        have := List.length_filter_le b (sg.take i)
        rw [List.length_take] at this
        exact small1000 (by omega)
      · rw [upd_same, take_snoc es, List.filter_append, List.map_append]
        have : [s].filter b = [s] := by rw [List.filter_cons_of_pos e1]; rfl
        rw [this]
        rfl
    · refine ⟨sm, ?_⟩
      rw [hd, take_snoc es, List.filter_append]
      have : [s].filter b = [] := by rw [List.filter_cons_of_neg (by rw [e1]; decide)]; rfl
      rw [this, List.append_nil]
  · obtain ⟨sm, hd⟩ := iv
    rw [List.length_map, paired_len pr, List.take_length] at hd
    exact h D H' nD sm hd
/-- [f(x) for x in xs] over a list -/
theorem rd_mapL {α : Type} {ks : List α} {wi : TI} (F : V → α → Prop) (f : α → V) (hwi : ∀ R, R (Itl K r) H → wi σ H R) (hS : SqL K H r us) (pr : Paired F us ks) (hlen : ks.length ≤ 100000) (hw : ∀ x, wipe ((wipe σ [j]).set j (some x)) [j] = wipe σ [j])
    (ht : ∀ u k H', k ∈ ks → F u k → Same H H' → ∀ Q', (∀ H2, Same H' H2 → Q' (f k) H2) → te ((wipe σ [j]).set j (some u)) H' Q')
    (h : ∀ D H', H D = none → Same H H' → H' D = some (.lst (ks.map f)) → Q (.ref D) H') : tLc wi (gName j) tYes te [j] σ H Q := by
  refine hwi _ (fun D nD => ?_)
  refine lc_list (K := K) (xs := us) (fun i H' => Same H H' ∧ H' D = some (.lst ((ks.take i).map f))) ⟨Same.new nD, upd_same⟩ (fun i H' _ iv => iv.1.seq hS) (fun i x H' hx iv => ?_) (fun H' iv => ?_)
  · obtain ⟨sm, hd⟩ := iv
    obtain ⟨k, ek, hk⟩ := Pg.paired_get pr hx
    refine ⟨hw _, yes_turn ?_⟩
    refine ht x k H' (List.mem_of_getElem? ek) hk sm _ (fun H2 s2 => ?_)
    refine ⟨_, s2 _ _ hd, ?_, Same.mut nD (sm.trans s2), ?_⟩
    · have := (List.getElem?_eq_some_iff.mp ek).1
      rw [List.length_map, List.length_take]; exact smallN (by omega)
    · rw [upd_same, take_snoc ek, List.map_append]; rfl
  · obtain ⟨sm, hd⟩ := iv
    rw [paired_len pr, List.take_length] at hd
    exact h D H' nD sm hd
end
/-! ### numbers of constants; the one pair of a word -/
theorem c0_len : ∀ l : Sg, (l.map fun s => co1 [0] s.2 1).sum = (l.filter fun s => decide (V.int s.2 = V.int 0)).length
  | [] => rfl
  | s :: l => by
    rw [List.map_cons, List.sum_cons, c0_len l]
    by_cases h : s.2 = 0
    · rw [List.filter_cons_of_pos (p := fun s : Str × Int => decide (V.int s.2 = V.int 0)) (show decide (V.int s.2 = V.int 0) = true from decide_eq_true (by rw [h])), List.length_cons]
      unfold co1
      rw [if_pos h, if_pos rfl]
      omega
    · rw [List.filter_cons_of_neg (by simp [h])]
      unfold co1
      rw [if_neg h]
      by_cases h1 : s.2 = 1
      · rw [if_pos h1]; show 0 + _ = _; omega
      · rw [if_neg h1]; show 0 + _ = _; omega
theorem cl_one (sg : Sg) : cl sg 1 = [0, (sg.filter fun s => decide (V.int s.2 = V.int 0)).length] := by
  show [0] ++ [co sg [0] 1] = _
  unfold co
  rw [c0_len]
  rfl
theorem filter_one {x : Str} {a : Int} : ∀ {sg : Sg}, (sg.map (·.1)).Nodup → (x, a) ∈ sg → (sg.filter fun s => decide (V.str s.1 = V.str x)) = [(x, a)]
  | [], _, h => absurd h List.not_mem_nil
  | s :: sg, nd, h => by
    rw [List.map_cons, List.nodup_cons] at nd
    rcases List.mem_cons.mp h with e | e
    · subst e
      rw [List.filter_cons_of_pos (p := fun s : Str × Int => decide (V.str s.1 = V.str x)) (a := (x, a)) (decide_eq_true rfl)]
      have : (sg.filter fun s => decide (V.str s.1 = V.str x)) = [] := List.filter_eq_nil_iff.mpr fun s hs z => nd.1 (List.mem_map.mpr ⟨s, hs, V.str.inj (of_decide_eq_true z)⟩)
      rw [this]
    · have : s.1 ≠ x := fun z => nd.1 (List.mem_map.mpr ⟨_, e, z.symm⟩)
      rw [List.filter_cons_of_neg (by simp [this])]
      exact filter_one nd.2 e
def spLcs (K : PySem.W.Frag) : Sp := fun vs H Q _ => ∃ (g : Addr) (sg : Sg), vs = [.ref g] ∧ SgAt K H g sg ∧ GSg sg ∧ ∀ p H', H p = none → Same H H' → H' p = some (.lst (cv (cl sg 60))) → Q (.ref p) H'
def spIst (K : PySem.W.Frag) (d : Nat) : Sp := fun vs H Q _ => ∃ (g : Addr) (sg : Sg) (v : V) (t : Tr), vs = [.ref g, v] ∧ SgAt K H g sg ∧ GSg sg ∧ TrAt K H t v ∧ Wf sg [] t ∧ t.dep ≤ d ∧ ∀ H', Same H H' → Q (.bl true) H'
end Pg

set_option Elab.async false
set_option linter.all false
set_option maxRecDepth 100000
set_option maxHeartbeats 4000000
namespace Pg
open PySem PySem.Spec PyProof.Rows L2
/-- a tree as data -/
def trD : Tr → PyData
  | .nm x => .str x
  | .c0 s => .tuple [.str s]
  | .c1 s t => .tuple [.str s, trD t]
  | .c2 s t u => .tuple [.str s, trD t, trD u]
theorem tr_dp {K : PySem.W.Frag} {H : Hp} : ∀ {t : Tr} {v : V}, TrAt K H t v → Dp K H v (trD t)
  | .nm _, _, h => by rw [show _ = _ from h]; exact .str _
  | .c0 _, _, ⟨p, e, q⟩ => by rw [e]; exact .tup q (.cons (.str _) .nil)
  | .c1 _ _, _, ⟨p, u, e, q, r⟩ => by rw [e]; exact .tup q (.cons (.str _) (.cons (tr_dp r) .nil))
  | .c2 _ _ _, _, ⟨p, u, u', e, q, r, r'⟩ => by rw [e]; exact .tup q (.cons (.str _) (.cons (tr_dp r) (.cons (tr_dp r') .nil)))
theorem kids_dp {K : PySem.W.Frag} {H : Hp} : ∀ {us : List V} {ks : List Tr}, KidsAt K H us ks → DpAll K H us (ks.map trD)
  | _, _, .nil => .nil
  | _, _, .cons a b => .cons (tr_dp a) (kids_dp b)
theorem Wd.ok {i : Nat} {w : Str} (h : Wd i w) : PyData.strOk w = true := by
  have hc : ∀ c ∈ cs w, c < 0x110000 := fun c hc => by
    rcases h with h | ⟨h1, h2⟩
    · rcases h.2.2 c hc with e | e | e | e <;> omega
    · rw [h2] at hc
      rcases List.mem_cons.mp hc with e | e
      · omega
      · rw [List.mem_singleton] at e
        omega
  show w.cps.all (· < 0x110000) = true
  rw [← Array.all_toList]
  exact List.all_eq_true.mpr fun c h => decide_eq_true (hc c h)
theorem GSg.ok {sg : Sg} (g : GSg sg) {x : Str} {a : Int} (h : (x, a) ∈ sg) : PyData.strOk x = true := let ⟨_, w⟩ := g.wd _ h; w.ok
theorem tr_lay {sg : Sg} (g : GSg sg) : ∀ {t : Tr}, Wf sg [] t → (trD t).canLay0 = true
  | .nm _, h => absurd h List.not_mem_nil
  | .c0 s, h => by simp only [trD, PyData.canLay0, PyData.canLayAll0, g.ok (show (s, 0) ∈ sg from h), Bool.and_self]
  | .c1 s t, h => by simp only [trD, PyData.canLay0, PyData.canLayAll0, g.ok h.1, tr_lay g (t := t) h.2, Bool.and_self]
  | .c2 s t u, h => by simp only [trD, PyData.canLay0, PyData.canLayAll0, g.ok h.1, tr_lay g (t := t) h.2.1, tr_lay g (t := u) h.2.2, Bool.and_self]
theorem tr_depth : ∀ t : Tr, (trD t).depth ≤ t.dep
  | .nm _ => Nat.zero_le _
  | .c0 s => by simp [trD, PyData.depth, PyData.depthAll, Tr.dep]
  | .c1 s t => by
    have := tr_depth t
    simp only [trD, PyData.depth, PyData.depthAll, Tr.dep]
    omega
  | .c2 s t u => by
    have := tr_depth t
    have := tr_depth u
    simp only [trD, PyData.depth, PyData.depthAll, Tr.dep]
    omega
theorem tr_alike : ∀ t : Tr, PySem.W.alike (trD t) (trD t) = true
  | .nm _ => rfl
  | .c0 s => rfl
  | .c1 s t => by simp only [trD, PySem.W.alike, PySem.W.alikeAll, tr_alike t, Bool.and_self]
  | .c2 s t u => by simp only [trD, PySem.W.alike, PySem.W.alikeAll, tr_alike t, tr_alike u, Bool.and_self]
theorem trs_alike : ∀ ts : List Tr, PySem.W.alikeAll (ts.map trD) (ts.map trD) = true
  | [] => rfl
  | t :: ts => by rw [List.map_cons, PySem.W.alikeAll, tr_alike t, trs_alike ts]; rfl
theorem trs_lay {sg : Sg} (g : GSg sg) : ∀ {ts : List Tr}, (∀ t ∈ ts, Wf sg [] t) → PyData.canLayAll0 (ts.map trD) = true
  | [], _ => rfl
  | t :: ts, h => by
    rw [List.map_cons, PyData.canLayAll0, tr_lay g (h t List.mem_cons_self), trs_lay g fun k hk => h k (List.mem_cons_of_mem _ hk)]
    rfl
theorem trs_depth : ∀ {ts : List Tr}, (∀ t ∈ ts, t.dep ≤ 60) → PyData.depthAll (ts.map trD) ≤ 60
  | [], _ => by show PyData.depthAll [] ≤ 60; decide
  | t :: ts, h => by
    have h1 := h t List.mem_cons_self
    have h2 := tr_depth t
    have h3 := trs_depth fun k hk => h k (List.mem_cons_of_mem _ hk)
    rw [List.map_cons, PyData.depthAll]
    omega
theorem trs_shaped {sg : Sg} (g : GSg sg) {ts : List Tr} (h : ∀ t ∈ ts, Wf sg [] t) (hd : ∀ t ∈ ts, t.dep ≤ 60) : SeqAt.shaped (.list (ts.map trD)) = true := by
  have h1 := trs_depth hd
  have h2 : (PyData.list (ts.map trD)).canLay0 = true := by rw [PyData.canLay0]; exact trs_lay g h
  have h3 : (PyData.list (ts.map trD)).depth ≤ 64 := by rw [PyData.depth]; omega
  unfold SeqAt.shaped
  rw [h2, decide_eq_true h3]
  rfl
theorem trs_eqv (ts : List Tr) : PyData.eqv (.list (ts.map trD)) (.list (ts.map trD)) = true := PySem.W.eqv_refl_alike _ (by rw [PySem.W.alike]; exact trs_alike ts)
theorem ts_next {sg : Sg} (g : GSg sg) {n k : Nat} (h : k + 1 < (ts sg n).length) : PySem.W.dataLt (keyD sg ((ts sg n)[k]'(by omega))) (keyD sg ((ts sg n)[k + 1])) = true :=
  LtK.lt (List.pairwise_iff_getElem.mp (ts_asc g n) k (k + 1) (by omega) h (by omega))
theorem tyX_lst {K : PySem.W.Frag} {H : Hp} {p : Addr} {xs : List V} (h : H p = some (.lst xs)) : TyX K H (.ref p) (.type "list") := .base (.lst h)
theorem all_true {α : Type} (l : List α) : (l.map fun _ => true).all id = true := by rw [List.all_map]; exact List.all_eq_true.mpr fun _ _ => rfl
def spLst (K : PySem.W.Frag) : Sp := fun vs H Q _ => ∃ (g : Addr) (sg : Sg) (n : Nat), vs = [.ref g, .int (n : Nat), .int (ct sg n : Nat)] ∧ SgAt K H g sg ∧ GSg sg ∧ n ≤ 60 ∧ ct sg n ≤ 2000 ∧ ∀ H', Same H H' → Q (.bl true) H'
end Pg

set_option Elab.async false
set_option linter.all false
set_option maxRecDepth 100000
set_option maxHeartbeats 4000000
namespace Pg
open PySem PySem.Spec PyProof.Rows L2
theorem at_ct {sg : Sg} {i : Int} {k : Nat} (e : i = (k : Int)) (h : k ≤ 60) : atI (cv (cl sg 60)) i = some (.int (ct sg k : Nat)) := by
  rw [at_cv e (by rw [cl_len]; omega), cl_get sg h]
section
variable {K : PySem.W.Frag} {σ : L2.St} {H : Hp} {Q : VK} {j : Nat} {tt : TT} {te : TE}
theorem rd_rngIf {n : Nat} {wi : TI} (b : Nat → Bool) (hwi : ∀ R, R (Itr 0 n) H → wi σ H R) (hn : n ≤ 1000) (hw : ∀ x, wipe ((wipe σ [j]).set j (some x)) [j] = wipe σ [j])
    (hv : ∀ x, ((wipe σ [j]).set j (some x))[j]? = some (some x))
    (ht : ∀ i H', i < n → Same H H' → ∀ Q' : Bool → Hp → Prop, Q' (b i) H' → tt ((wipe σ [j]).set j (some (.int (i : Nat)))) H' Q')
    (h : ∀ D H', H D = none → Same H H' → H' D = some (.lst (cv ((List.range n).filter b))) → Q (.ref D) H') : tLc wi (gName j) tt (tVar j) [j] σ H Q := by
  refine hwi _ (fun D nD => lc_range (lo := 0) (fun i H' => Same H H' ∧ H' D = some (.lst (cv ((List.range i).filter b)))) ⟨Same.new nD, upd_same⟩ (fun i H' hi iv => ?_) (fun H' iv => h D H' nD iv.1 iv.2))
  obtain ⟨sm, hd⟩ := iv
  rw [Int.zero_add]
  refine ⟨hw _, ht i H' hi sm _ (if_of (fun e => ?_) fun e => ?_)⟩
  · refine ⟨_, hv _, _, hd, ?_, Same.mut nD sm, ?_⟩
    · show (List.map _ _).length < sizeLine
      have := List.length_filter_le b (List.range i)
      rw [List.length_range] at this
      rw [List.length_map]
      exact smallN (by omega)
    · rw [upd_same, List.range_succ, List.filter_append]
      have : [i].filter b = [i] := by rw [List.filter_cons_of_pos e]; rfl
      rw [this]
      show _ = some (HO.lst ((_ ++ [i]).map _))
      rw [List.map_append]
      rfl
  · refine ⟨sm, ?_⟩
    rw [hd, List.range_succ, List.filter_append]
    have : [i].filter b = [] := by rw [List.filter_cons_of_neg (by rw [e]; decide)]; rfl
    rw [this, List.append_nil]
end
/-- the sizes that the law chooses from -/
structure FitI (sg : Sg) (i : Nat) (F : List Nat) : Prop where
  len : F.length ≤ i
  ok : ∀ k ∈ F, k < i ∧ ct sg k ≤ 2000
  ne : 0 < i → F ≠ []
theorem FitI.snoc {sg : Sg} {i : Nat} {F : List Nat} (f : FitI sg i F) (h : ct sg i ≤ 2000) : FitI sg (i + 1) (F ++ [i]) :=
  ⟨by rw [List.length_append, List.length_singleton]; have := f.len; omega, fun k hk => by
    rcases List.mem_append.mp hk with e | e
    · have := f.ok k e; omega
    · rw [List.mem_singleton] at e; rw [e]; exact ⟨by omega, h⟩, fun _ => by simp⟩
theorem FitI.skip {sg : Sg} {i : Nat} {F : List Nat} (f : FitI sg i F) (h : i ≠ 0) : FitI sg (i + 1) F := ⟨by have := f.len; omega, fun k hk => by have := f.ok k hk; omega, fun _ => f.ne (by omega)⟩
def spLaw (K : PySem.W.Frag) : Sp := fun vs H Q _ => ∃ (a : Addr) (ns : List Int), vs = [.ref a] ∧ SqL K H a (ns.map V.int) ∧ ns.length ≤ 63 ∧ ∀ H', Q (.bl true) H'
end Pg

set_option Elab.async false
set_option linter.all false
set_option maxRecDepth 100000
set_option maxHeartbeats 4000000
namespace Pg
open PySem PySem.Spec PyProof.Rows L2
/-! ### words of the program -/
def lowC (c : Nat) : Bool := decide (97 ≤ c) && decide (c ≤ 122)
def rsv : List Str := ["sign", "mark", "if", "not", "all", "some", "and", "or", "end"]
def isW (x : Str) : Bool := (decide (1 ≤ x.length) && decide (x.length ≤ 8)) && (!decide (x ∈ rsv) && (cs x).all lowC)
/-- the number beside a word, or -1 -/
def numB : Sg → Str → Int
  | [], _ => -1
  | s :: sg, x => if s.1 = x then s.2 else numB sg x
def spLow : Sp := fun vs H Q _ => ∃ c : Nat, vs = [.str ⟨#[c]⟩] ∧ ∀ H', Same H H' → Q (.bl (lowC c)) H'
def spIsw : Sp := fun vs H Q _ => ∃ x : Str, vs = [.str x] ∧ x.length ≤ 100000 ∧ ∀ H', Same H H' → Q (.bl (isW x)) H'
def spNub (K : PySem.W.Frag) : Sp := fun vs H Q _ => ∃ (g : Addr) (sg : Sg) (x : Str), vs = [.ref g, .str x] ∧ SgAt K H g sg ∧ sg.length ≤ 1000 ∧ ∀ H', Same H H' → Q (.int (numB sg x)) H'
def spIsn (K : PySem.W.Frag) : Sp := fun vs H Q _ => ∃ (g : Addr) (sg : Sg) (x : Str), vs = [.ref g, .str x] ∧ SgAt K H g sg ∧ sg.length ≤ 1000 ∧ x.length ≤ 100000 ∧ ∀ H', Same H H' → Q (.bl (isW x && decide (numB sg x = -1))) H'
theorem numB_cons {s : Str × Int} {sg : Sg} {x : Str} : numB (s :: sg) x = if s.1 = x then s.2 else numB sg x := rfl
/-- facts of the words' constants -/
structure Wo (K : PySem.W.Frag) (mg : Str → Option Value) (rsa : Addr) : Prop where
  mw : ∃ u, mg "MAX_WORD" = some u ∧ RelV (.int 8) u
  rs : mg "RESERVED" = some (.ref rsa)
  rt : ∀ H, SqT K H rsa (rsv.map V.str)
theorem one_lt (a b : Nat) : ([a] < [b]) ↔ a < b := by
  rw [List.cons_lt_cons_iff]
  exact ⟨fun h => h.elim id fun h => absurd h.2 (List.not_lt_nil _), .inl⟩
theorem le_a (c : Nat) : (!decide (cs (⟨#[c]⟩ : Str) < cs (PySem.Str.ofString "a"))) = decide (97 ≤ c) := by
  have e : cs (PySem.Str.ofString "a") = [97] := by decide +kernel
  rw [e, cs_one, Bool.eq_iff_iff, Bool.not_eq_true', decide_eq_false_iff_not, decide_eq_true_iff, one_lt]
  omega
theorem le_z (c : Nat) : (!decide (cs (PySem.Str.ofString "z") < cs (⟨#[c]⟩ : Str))) = decide (c ≤ 122) := by
  have e : cs (PySem.Str.ofString "z") = [122] := by decide +kernel
  rw [e, cs_one, Bool.eq_iff_iff, Bool.not_eq_true', decide_eq_false_iff_not, decide_eq_true_iff, one_lt]
  omega
/-- [f(char) for char in text] -/
theorem rd_str {σ : L2.St} {H : Hp} {Q : VK} {j : Nat} {te : TE} {wi : TI} {x : Str} (f : Nat → V) (hwi : ∀ R, R (Its x) H → wi σ H R) (hn : x.length ≤ 100000) (hw : ∀ x, wipe ((wipe σ [j]).set j (some x)) [j] = wipe σ [j])
    (ht : ∀ c H', c ∈ cs x → Same H H' → ∀ Q', (∀ H2, Same H' H2 → Q' (f c) H2) → te ((wipe σ [j]).set j (some (.str ⟨#[c]⟩))) H' Q')
    (h : ∀ D H', H D = none → Same H H' → H' D = some (.lst ((cs x).map f)) → Q (.ref D) H') : tLc wi (gName j) tYes te [j] σ H Q := by
  have hsz : x.cps.size = (cs x).length := by simp [cs]
  have hxl : x.length = (cs x).length := cs_len x
  refine hwi _ (fun D nD => lc_it (walk_str (z := x)) (fun i H' => Same H H' ∧ H' D = some (.lst (((cs x).take i).map f))) ⟨Same.new nD, upd_same⟩ (fun _ _ _ _ => True.intro) (fun i y H' H'' hi iv yv => ?_) (fun H' iv => ?_))
  · obtain ⟨rfl, c, hc, rfl⟩ := yv
    obtain ⟨sm, hd⟩ := iv
    have ec : (cs x)[i]? = some c := by rw [← hc]; simp [cs]
    refine ⟨hw _, yes_turn ?_⟩
    refine ht c _ (List.mem_of_getElem? ec) sm _ fun H2 s2 => ⟨_, s2 _ _ hd, ?_, Same.mut nD (sm.trans s2), ?_⟩
    · rw [List.length_map, List.length_take]; exact smallN (by omega)
    · rw [upd_same, take_snoc ec, List.map_append]; rfl
  · obtain ⟨sm, hd⟩ := iv
    rw [hsz, List.take_length] at hd
    exact h D H' nD sm hd
end Pg

set_option Elab.async false
set_option linter.all false
set_option maxRecDepth 100000
set_option maxHeartbeats 4000000
namespace Pg
open PySem PySem.Spec PyProof.Rows L2
/-! ### any nest of tuples and texts: its nodes, from left to right -/
mutual
def preD : PyData → List PyData
  | .tuple ds => .tuple ds :: preT ds
  | d => [d]
def preT : List PyData → List PyData
  | [] => []
  | _ :: ds => preDs ds
def preDs : List PyData → List PyData
  | [] => []
  | d :: ds => preD d ++ preDs ds
end
mutual
def nest : PyData → Bool
  | .str _ => true
  | .tuple ds => nestAll ds
  | _ => false
def nestAll : List PyData → Bool
  | [] => true
  | d :: ds => nest d && nestAll ds
end
theorem preDs_flat : ∀ ds : List PyData, preDs ds = ds.flatMap preD
  | [] => rfl
  | d :: ds => by rw [preDs, preDs_flat ds, List.flatMap_cons]
theorem preD_tup (ds : List PyData) : preD (.tuple ds) = .tuple ds :: (ds.drop 1).flatMap preD := by
  cases ds with
  | nil => rfl
  | cons d ds => rw [preD, preT, preDs_flat]; rfl
theorem preD_str (x : Str) : preD (.str x) = [.str x] := rfl
theorem preD_pos (d : PyData) : 1 ≤ (preD d).length := by cases d <;> first | exact Nat.le_refl _ | (rw [preD_tup]; show 1 ≤ _ + 1; omega)
theorem nestAll_mem : ∀ {ds : List PyData}, nestAll ds = true → ∀ d ∈ ds, nest d = true
  | [], _, d, h => absurd h List.not_mem_nil
  | e :: ds, h, d, m => by
    rw [nestAll, Bool.and_eq_true] at h
    rcases List.mem_cons.mp m with e1 | e1
    · rw [e1]; exact h.1
    · exact nestAll_mem h.2 d e1
section
variable {K : PySem.W.Frag} {H H' : Hp}
mutual
theorem dp_tk (k : TK K H H') : ∀ (d : PyData) (v : V), nest d = true → Dp K H v d → Dp K H' v d
  | .str _, _, _, h => by cases h; exact .str _
  | .tuple ds, _, n, h => by
    cases h with
    | tup hq ha => exact .tup (k _ _ hq) (dpAll_tk k ds _ n ha)
  | .none, _, n, _ => by cases n
  | .bool _, _, n, _ => by cases n
  | .int _, _, n, _ => by cases n
  | .list _, _, n, _ => by cases n
  | .dict _, _, n, _ => by cases n
theorem dpAll_tk (k : TK K H H') : ∀ (ds : List PyData) (vs : List V), nestAll ds = true → DpAll K H vs ds → DpAll K H' vs ds
  | [], _, _, h => by cases h; exact .nil
  | d :: ds, _, n, h => by
    have n' : (nest d && nestAll ds) = true := n
    rw [Bool.and_eq_true] at n'
    cases h with
    | cons a b => exact .cons (dp_tk k d _ n'.1 a) (dpAll_tk k ds _ n'.2 b)
end
theorem dpAll_paired : ∀ {vs : List V} {ds : List PyData}, DpAll K H vs ds → Paired (Dp K H) vs ds
  | _, [], h => by cases h; exact .nil
  | _, d :: ds, h => by cases h with | cons a b => exact .cons a (dpAll_paired b)
theorem paired_dpAll : ∀ {vs : List V} {ds : List PyData}, Paired (Dp K H) vs ds → DpAll K H vs ds
  | _, _, .nil => .nil
  | _, _, .cons a b => .cons a (paired_dpAll b)
/-- values that are nests -/
abbrev NsAt (K : PySem.W.Frag) (H : Hp) (vs : List V) (ds : List PyData) : Prop := Paired (fun v d => Dp K H v d ∧ nest d = true) vs ds
theorem NsAt.keep {vs : List V} {ds : List PyData} (k : TK K H H') (h : NsAt K H vs ds) : NsAt K H' vs ds := Paired.imp2 (fun _ _ ⟨a, b⟩ => ⟨dp_tk k _ _ b a, b⟩) h
theorem ns_of : ∀ {vs : List V} {ds : List PyData}, DpAll K H vs ds → nestAll ds = true → NsAt K H vs ds
  | _, [], h, _ => by cases h; exact .nil
  | _, d :: ds, h, n => by
    rw [nestAll, Bool.and_eq_true] at n
    cases h with
    | cons a b => exact .cons ⟨a, n.1⟩ (ns_of b n.2)
theorem NsAt.drop1 {vs : List V} {ds : List PyData} (h : NsAt K H vs ds) : NsAt K H (vs.drop 1) (ds.drop 1) := by
  cases h with
  | nil => exact .nil
  | cons a b => exact b
end
def most (d : PyData) : Option Nat → List PyData
  | none => preD d
  | some m => (preD d).take m
def mostV : Option Nat → V
  | none => .non
  | some m => .int (m : Nat)
def spNds (K : PySem.W.Frag) : Sp := fun vs H Q _ => ∃ (v : V) (d : PyData) (o : Option Nat), vs = [v, mostV o] ∧ Dp K H v d ∧ nest d = true ∧ (preD d).length ≤ 100000 ∧ ∀ p H' ws, H p = none → Same H H' → H' p = some (.lst ws) → NsAt K H' ws (most d o) → Q (.ref p) H'
theorem mul_len_le : ∀ {ds : List PyData}, ds.length ≤ (ds.map fun d => (preD d).length).sum
  | [] => Nat.le_refl _
  | d :: ds => by have := preD_pos d; have := mul_len_le (ds := ds); rw [List.length_cons, List.map_cons, List.sum_cons]; omega
theorem flat_lenD : ∀ ds : List PyData, (ds.flatMap preD).length = (ds.map fun d => (preD d).length).sum
  | [] => rfl
  | d :: ds => by rw [List.flatMap_cons, List.length_append, flat_lenD ds]; rfl
theorem sum_revD (ds : List PyData) : (ds.reverse.map fun d => (preD d).length).sum = (ds.map fun d => (preD d).length).sum := by
  rw [List.map_reverse]
  exact List.sum_reverse _
/-- a def with one default None, called with all its arguments -/
theorem mk_cal2 {P : Program} {w : World} {K : PySem.W.Frag} {mg : Str → Option Value} {base : Heap} {x : Str} {st : Stmt} {f : Addr} {fd : FuncData} {N ps : List Str} {k n : Nat} {sp : Sp} (F : FunD K x x (defArgs st) (defBody st) (defScope st) [.non] [] f fd) (hm : mg x = some (.ref f)) (S : FnScope N ps (defScope st)) (hn : n = ps.length)
    (hb : ∀ (T : Addr) (kV doc pm : Value) (an : Option Addr) (cdv ct : Value) (us its : List Value), us.length = n → its.length = 1 → ∃ k, bindArgs (PySem.W.fnOf x x (defArgs st) (defBody st) (defScope st) (.ref T) kV doc pm an cdv ct) ⟨us, []⟩ = seqItems? (.ref T) >>= k ∧ k (some its.toArray) = pure (ps.zip (us ++ its.drop 1)))
    (len : ∀ vs H Q E, sp vs H Q E → vs.length = ps.length)
    (body : ∀ (cdv : Value) (A : Around) (outer : List Env) (s : Shared) (H : Hp) (vs : List V) (Q : VK) (E : XK), Room k (A.deeper (envOfC x (defScope st) s.heap.objs.size f cdv)) → sp vs H Q E →
      ∃ t, PSs (cxOf CX0 P w K mg base N x (defScope st) f cdv A outer s H E).nox (defBody st) t ∧ t { nx := fun _ H' => Q .non H', rt := Q } (start N vs) H) : Cal P w K mg base (k + 1) x sp [] := by
  obtain ⟨ds, hv, hbn⟩ := F.binds1 (ps := ps) n 1 (by simp) (by simpa using hn) (fun T kV doc pm an cdv ct us its h1 h2 => hb T kV doc pm an cdv ct us its h1 (by simpa using h2))
  exact ⟨f, fd, ps, ds, F.ok S len (fun cdv A outer s H vs Q E hr h => let ⟨t, a, b⟩ := body cdv A outer s H vs Q E hr h; ⟨t, a.nox, b⟩), hm, F.kp, hbn, hv⟩
end Pg

set_option Elab.async false
set_option linter.all false
set_option maxRecDepth 100000
set_option maxHeartbeats 4000000
namespace Pg
open PySem PySem.Spec PyProof.Rows L2 LamX
/-! ### lambdas without captured names, as values -/
/-- the object at f is the lambda -/
def LamO (f : Addr) (q : Str) (params : Arguments) (body : Expr) (scope : Scope) (c' : Addr) : HO := .ext fun h => ∃ pm ctv : Value, h.get? f = some (PySem.W.kla_obj "<lambda>" q params body scope [] pm c' ctv)
/-- all but the table at P -/
def ButP (P : Addr) (H H' : Hp) : Prop := ∀ b o, b ≠ P → H b = some o → H' b = some o
def tLamV (P : Addr) (q : Str) (params : Arguments) (body : Expr) (scope : Scope) : TE := fun _ H Q => TabS H P q ∧ ∀ (f c' : Addr) (H1 : Hp), ButP P H H1 → TabS H1 P q → H f = none → H1 f = some (LamO f q params body scope c') → H1 c' = some (CodeO c' q) → Q (.ref f) H1
theorem lamO_ok {Pr : Program} {w : World} {H : Hp} {h : Heap} {f c' : Addr} {q : Str} {params : Arguments} {body : Expr} {scope : Scope} {pm ctv : Value} (e : h.get? f = some (PySem.W.kla_obj "<lambda>" q params body scope [] pm c' ctv)) : ObjOk Pr w H h f (LamO f q params body scope c') :=
  ⟨⟨pm, ctv, e⟩, ⟨_, e⟩, fun h1 h2 ⟨p, t, z⟩ st => ⟨p, t, st _ z⟩⟩
section
variable {X : Cx}
theorem pe_lamV {c P : Addr} {params : Arguments} {body : Expr} {scope : Scope} {pos : Pos} (TB : TabB X.base X.mg c P) (hcode : X.env.code = .ref c) (hdef : defaultsOf params X.env = ([], [])) (hcl : closureFor scope X.env = pure []) :
    PE X (.Lambda params body scope pos) (tLamV P (X.env.qual ++ "<lambda>") params body scope) := by
  refine ⟨fun pins s σ H Q I h => ?_⟩
  obtain ⟨⟨ps, hP, ht, ha⟩, k⟩ := h
  refine PySem.W.kla_eval hdef ?_
  have tabAt : s.heap.get? P = some { cls := .none, data := .fields ps } := I.hok P _ hP
  cases hc : codeAmong pos ps.toList with
  | none =>
    refine PySem.W.kla_makeFunction (mg := X.mg) (c := c) (P := P) (ps := ps) hcl I.ok.glob (I.mod.glob.keeps I.bk) hcode (TB.code.keeps I.bk) tabAt ht hc TB.gP (TB.bm.keeps I.bk) fun c' ctv h' tk hx hge hlt hrec htb => ?_
    obtain ⟨c2, oc, vs, t, e2, hoc, hd, hv⟩ := hrec
    cases e2
    have freeC : H c' = none := I.hok.fresh hge
    have J := inv_table (t' := tk) (more := #[rawInt pos.line, rawInt pos.col, .ref c']) (h' := h') (q := X.env.qual ++ "<lambda>") I hP (fun b o hb e => hx b o hb e) htb hge ⟨oc, vs, t, hoc, hd, hv⟩
    have nPc : P ≠ c' := ne_of_none hP freeC
    have freeF := J.hok.fresh (Nat.le_refl h'.objs.size)
    have J2 := J.laid (t' := tk) (a := h'.objs.size) (h' := h'.push (PySem.W.kla_obj "<lambda>" (X.env.qual ++ "<lambda>") params body scope [] ((X.mg "__name__").getD .none) c' ctv)) (fun b u e => Heap.get?_push_of_some _ e) (Nat.le_refl _) (lamO_ok (f := h'.objs.size) (q := X.env.qual ++ "<lambda>") (Heap.get?_push_size _ rfl))
    have kept : ButP P H (upd (upd (upd H P (.tbl (ps ++ #[rawInt pos.line, rawInt pos.col, .ref c']))) c' (CodeO c' (X.env.qual ++ "<lambda>"))) h'.objs.size (LamO h'.objs.size (X.env.qual ++ "<lambda>") params body scope c')) := fun b o nb e => by
      have e1 : upd (upd H P (.tbl (ps ++ #[rawInt pos.line, rawInt pos.col, .ref c']))) c' (CodeO c' (X.env.qual ++ "<lambda>")) b = some o := by rw [upd_ne (ne_of_none e freeC), upd_ne nb]; exact e
      rw [upd_ne (ne_of_none e1 freeF)]
      exact e1
    have hPF : P ≠ h'.objs.size := ne_of_none (show upd (upd H P (.tbl (ps ++ #[rawInt pos.line, rawInt pos.col, .ref c']))) c' (CodeO c' (X.env.qual ++ "<lambda>")) P = some (.tbl (ps ++ #[rawInt pos.line, rawInt pos.col, .ref c'])) by rw [upd_ne nPc]; exact upd_same) freeF
    have hcF : c' ≠ h'.objs.size := Nat.ne_of_lt hlt
    refine ⟨.ref h'.objs.size, _, J2, rfl, k _ c' _ kept ⟨ps ++ #[rawInt pos.line, rawInt pos.col, .ref c'], by rw [upd_ne hPF, upd_ne nPc]; exact upd_same, ?_, fun p' cv hcv => ?_⟩ (I.hok.fresh (Nat.le_trans hge (Nat.le_of_lt hlt))) upd_same (by rw [upd_ne hcF]; exact upd_same)⟩
    · rw [show (ps ++ #[rawInt pos.line, rawInt pos.col, Value.ref c']).toList = ps.toList ++ [rawInt pos.line, rawInt pos.col, .ref c'] by simp]
      exact PySem.TriplesOk_snoc _ _ _ _ ht
    · rw [show (ps ++ #[rawInt pos.line, rawInt pos.col, Value.ref c']).toList = ps.toList ++ [rawInt pos.line, rawInt pos.col, .ref c'] by simp] at hcv
      rcases among_app _ ht hcv with z | z
      · obtain ⟨c0, z1, z2⟩ := ha p' cv z
        have nc0 : c0 ≠ P := fun y => by
          rw [y, hP] at z2
          exact codeO_ne ps (Option.some.inj z2).symm
        exact ⟨c0, z1, kept _ _ nc0 z2⟩
      · exact ⟨c', z, by rw [upd_ne hcF]; exact upd_same⟩
  | some cv =>
    obtain ⟨c', e, hco⟩ := ha pos cv hc
    subst e
    refine PySem.W.kla_makeFunctionHit (mg := X.mg) (c := c) (P := P) (ps := ps) hcl I.ok.glob (I.mod.glob.keeps I.bk) hcode (TB.code.keeps I.bk) tabAt ht hc (TB.bm.keeps I.bk) fun ctv h' tk hx hsz => ?_
    have J : Inv X pins σ H { s with heap := h', toks := tk } := I.kept hx
    have freeF := J.hok.fresh (Nat.le_refl h'.objs.size)
    have J2 := J.laid (t' := tk) (a := h'.objs.size) (h' := h'.push (PySem.W.kla_obj "<lambda>" (X.env.qual ++ "<lambda>") params body scope [] ((X.mg "__name__").getD .none) c' ctv)) (fun b u e => Heap.get?_push_of_some _ e) (Nat.le_refl _) (lamO_ok (f := h'.objs.size) (q := X.env.qual ++ "<lambda>") (Heap.get?_push_size _ rfl))
    have kept : ∀ b o, H b = some o → (upd H h'.objs.size (LamO h'.objs.size (X.env.qual ++ "<lambda>") params body scope c')) b = some o := fun b o e => by
      rw [upd_ne (ne_of_none e freeF)]
      exact e
    exact ⟨.ref h'.objs.size, _, J2, rfl, k _ c' _ (fun b o _ e => kept b o e) ⟨ps, kept _ _ hP, ht, fun p' cv hcv => let ⟨c0, z1, z2⟩ := ha p' cv hcv; ⟨c0, z1, kept _ _ z2⟩⟩ freeF upd_same (kept _ _ hco)⟩
end
end Pg

set_option Elab.async false
set_option linter.all false
set_option maxRecDepth 100000
set_option maxHeartbeats 4000000
namespace Pg
open PySem PySem.Spec PyProof.Rows L2 LamX
/-! ### the promise of a lambda; a slot that holds a def of the program or a lambda -/
structure LamOk (P : Program) (w : World) (K : PySem.W.Frag) (mg : Str → Option Value) (base : Heap) (k : Nat) (q : Str) (params : Arguments) (body : Expr) (scope : Scope) (sp : Sp) : Prop where
  run : ∀ (f c' : Addr) (A : Around) (outer : List Env) (s : Shared) (H : Hp) (us : List Value) (vs : List V) (Q : VK), Room k A → Env0 P w K mg base A outer s H → H f = some (LamO f q params body scope c') → H c' = some (CodeO c' q) → Vals vs us → sp vs H Q E0 →
    codeAny (model P w) A (.call (.ref f) ⟨us, []⟩) (CR CX0 outer P w H s Q E0) s
theorem lam_ok {P : Program} {w : World} {K : PySem.W.Frag} {mg : Str → Option Value} {base : Heap} {k : Nat} {q : Str} {params : Arguments} {body : Expr} {scope : Scope} {N ps : List Str} {sp : Sp} (S : FnScope N ps scope)
    (hb : ∀ (pm cv ctv : Value) (us : List Value), us.length = ps.length → bindArgs (PySem.W.kla_fn "<lambda>" q params body scope [] pm cv ctv) ⟨us, []⟩ = pure (ps.zip us)) (len : ∀ vs H Q E, sp vs H Q E → vs.length = ps.length)
    (hbody : ∀ (f c' : Addr) (A : Around) (outer : List Env) (s : Shared) (H : Hp) (vs : List V) (Q : VK), Room k (A.deeper (envOfC q scope s.heap.objs.size f (.ref c'))) → sp vs H Q E0 →
      ∃ te, PE (cxOf CX0 P w K mg base N q scope f (.ref c') A outer s H E0).nox body te ∧ te (start N vs) H Q) : LamOk P w K mg base (k + 1) q params body scope sp := by
  refine ⟨fun f c' A outer s H us vs Q room env hf hc rv hsp => ?_⟩
  obtain ⟨⟨pm, ctv, hobj⟩, _, _⟩ := env.hok f _ hf
  obtain ⟨⟨oc, fs, t, hoc, hdc, hvc⟩, _, _⟩ := env.hok c' _ hc
  have lim : s.heap.NoLimit := env.mod.nolimit.keeps fun b o e => (env.bs b o e).1
  have hl := len _ _ _ _ hsp
  refine PySem.W.kla_callFunE room.depth hobj rfl S.co S.gen rfl ⟨c', oc, fs, t, rfl, hoc, hdc, hvc⟩ ?_
  rw [hb _ _ _ us (by rw [← rv.length]; exact hl)]
  have kinds : ∀ y ∈ ps.zip us, scope.names.lookup y.1 = some .local ∨ (scope.names.lookup y.1 = some .cell ∧ ((cellsFrom (s.heap.objs.size + 1) scope.names []).lookup y.1).isSome = true) := fun ⟨n, v⟩ hy =>
    (S.par n (List.of_mem_zip hy).1).imp_right fun z => ⟨z, PySem.W.cellsFrom_some _ _ _ (.inl z)⟩
  refine wpAny_pure (wpAny_newFunctionEnv_cells S.kind kinds fun ev he s1 x => ?_)
  subst he
  refine ⟨lim.keeps x.toInCall.keep, ?_⟩
  obtain ⟨te, ht, hq⟩ := hbody f c' A outer s H vs Q (room.deeper _) hsp
  have I := inv_start (CX := CX0) (E := E0) S room.hd env hl rv x
  refine PySem.W.kla_codeExpr (wpAny_mono (ht.nox.run [] s1 (start N vs) H Q I hq) (fun u s' hs => ?_) fun e s' hs => hs)
  obtain ⟨v, H', J, rv, q⟩ := hs
  exact ⟨v, H', J.os, J.bare, J.base, J.hok, rv, q⟩
/-- v may be called with this promise -/
def Calb (P : Program) (w : World) (K : PySem.W.Frag) (mg : Str → Option Value) (base : Heap) (k : Nat) (sp : Sp) (H : Hp) (v : V) : Prop :=
  (∃ (f : Addr) (fd : FuncData) (ps : List Str), v = .ref f ∧ FnOk P w K mg base CX0 k f fd ps sp ∧ PySem.W.keepIn K (.ref f) = true ∧ Binds K fd ps []) ∨
  ∃ (f c' : Addr) (q : Str) (params : Arguments) (body : Expr) (scope : Scope), v = .ref f ∧ LamOk P w K mg base k q params body scope sp ∧ H f = some (LamO f q params body scope c') ∧ H c' = some (CodeO c' q)
theorem lamO_tbl {f c' : Addr} {q : Str} {params : Arguments} {body : Expr} {scope : Scope} (ps : Array Value) : LamO f q params body scope c' ≠ .tbl ps := fun z => by
  unfold LamO at z
  cases z
theorem Calb.keep {P : Program} {w : World} {K : PySem.W.Frag} {mg : Str → Option Value} {base : Heap} {k : Nat} {sp : Sp} {H H' : Hp} {v : V} (s : Same H H') (c : Calb P w K mg base k sp H v) : Calb P w K mg base k sp H' v := by
  rcases c with c | ⟨f, c', q, pa, bo, sc, e, l, h1, h2⟩
  · exact .inl c
  · exact .inr ⟨f, c', q, pa, bo, sc, e, l, s _ _ h1, s _ _ h2⟩
section
variable {X : Cx} {k j i : Nat} {x : Str} {sp : Sp} {p pos : Pos} {e : Expr} {es : List Expr} {t : TA}
/-- what is known by a property of the real heap is known still -/
def ExtK (H H' : Hp) : Prop := ∀ b φ, H b = some (HO.ext φ) → H' b = some (HO.ext φ)
def tCallV (P : Program) (w : World) (K : PySem.W.Frag) (mg : Str → Option Value) (base : Heap) (k i : Nat) (sp : Sp) (t : TA) : TE := fun σ H Q => ∃ v, σ[i]? = some (some v) ∧ Calb P w K mg base k sp H v ∧ t σ H fun vs H1 => ExtK H H1 ∧ sp vs H1 Q E0
theorem pe_callV (hr : Room j X.A) (hk : k ≤ j) (hN : X.N[i]? = some x) (hv : Vis X.env.scope x) (ha : PA X (e :: es) t)
    (hdb : (x == ("__debug__" : Str)) = false := by decide) (hcd : (x == ("__classdict__" : Str)) = false := by decide)
    (he : starEach (e :: es) X.env = (false, eval e X.env) :: starEach es X.env := by rfl) (hpl : (backTo pos (starEach es X.env)).any (·.1) = false := by rfl) :
    PE X (.Call (.Name x p) (e :: es) [] pos) (tCallV X.prog X.w X.K X.mg X.base k i sp t) := by
  refine ⟨fun pins s σ H Q I h => ?_⟩
  obtain ⟨v, hs, hc, ht⟩ := h
  refine wpAny_Call_Name_kw (thn ((pe_var (pos := p) hN hv hdb hcd).run pins s σ H (fun y Hy => y = v ∧ Hy = H) I ⟨v, hs, rfl, rfl⟩) fun u s1 ⟨y, Hy, I1, ry, ey, eH⟩ => ?_)
  rw [ey] at ry
  rw [eH] at I1
  rcases hc with ⟨f, fd, ps, rfl, F, hkp, hbd⟩ | ⟨f, c', q, pa, bo, sc, rfl, L, hf, hcode⟩
  · obtain rfl : u = Value.ref f := ry
    refine PySem.W.callWith_K (h₀ := X.base) I.ok.mod.kin hkp (thn (ha.run pos pins s1 σ H _ I1 ht) fun us s2 ⟨vs, H2, I2, r, z⟩ => ⟨I2.kIn, ?_⟩) he hpl
    exact run_fn F (hr.mono hk) hbd .nil pass0 I2 r (by rw [List.append_nil]; exact z.2)
  · obtain rfl : u = Value.ref f := ry
    have here : ∀ {s' : Shared} {H' : Hp}, Inv X pins σ H' s' → H' f = some (LamO f q pa bo sc c') → PySem.W.FnAt f s'.heap := fun J hf' => by
      obtain ⟨⟨pm, ctv, ho⟩, _, _⟩ := J.hok f _ hf'
      exact ⟨_, _, _, _, ho⟩
    refine PySem.W.callWith_F (first := []) (here I1 hf) (thn (ha.run pos pins s1 σ H _ I1 ht) fun us s2 ⟨vs, H2, I2, r, z1, z2⟩ => ⟨here I2 (z1 f _ hf), ?_⟩) he hpl
    show wpAny _ _ (call (.ref f) us) _ _ _
    refine wpAny_call (codeAny_mono (L.run f c' X.A X.stack s2 H2 us vs Q (hr.mono hk) I2.env0 (z1 f _ hf) (z1 c' _ hcode) r z2) fun r s' hq => ?_)
    cases r with
    | error e => exact (show False from hq).elim
    | ok fl =>
      cases fl with
      | ret u => exact I2.after hq
      | next => exact False.elim hq
      | brk => exact False.elim hq
      | cont => exact False.elim hq
end
end Pg

set_option Elab.async false
set_option linter.all false
set_option maxRecDepth 100000
set_option maxHeartbeats 4000000
namespace Pg
open PySem PySem.Spec PyProof.Rows L2
/-! ### terms as nests -/
theorem dp_tr {K : PySem.W.Frag} {H : Hp} : ∀ {t : Tr} {v : V}, Dp K H v (trD t) → TrAt K H t v
  | .nm x, v, h => by
    cases (show Dp K H v (.str x) from h)
    rfl
  | .c0 s, v, h => by
    cases (show Dp K H v (.tuple [.str s]) from h) with
    | tup hq ha =>
      cases ha with
      | cons a b => cases a; cases b; exact ⟨_, rfl, hq⟩
  | .c1 s t, v, h => by
    cases (show Dp K H v (.tuple [.str s, trD t]) from h) with
    | tup hq ha =>
      cases ha with
      | cons a b => cases a; cases b with
        | cons c d => cases d; exact ⟨_, _, rfl, hq, dp_tr c⟩
  | .c2 s t u, v, h => by
    cases (show Dp K H v (.tuple [.str s, trD t, trD u]) from h) with
    | tup hq ha =>
      cases ha with
      | cons a b => cases a; cases b with
        | cons c d => cases d with
          | cons e f => cases f; exact ⟨_, _, _, rfl, hq, dp_tr c, dp_tr e⟩
theorem nest_tr : ∀ t : Tr, nest (trD t) = true
  | .nm _ => rfl
  | .c0 _ => rfl
  | .c1 _ t => by simp only [trD, nest, nestAll, nest_tr t, Bool.and_self]
  | .c2 _ t u => by simp only [trD, nest, nestAll, nest_tr t, nest_tr u, Bool.and_self]
theorem preD_tr : ∀ t : Tr, preD (trD t) = (pre t).map trD
  | .nm _ => rfl
  | .c0 _ => rfl
  | .c1 s t => by
    show preD (.tuple [.str s, trD t]) = _
    rw [preD_tup]
    show _ :: [trD t].flatMap preD = trD (.c1 s t) :: (pre t).map trD
    rw [List.flatMap_cons, List.flatMap_nil, List.append_nil, preD_tr t]
    rfl
  | .c2 s t u => by
    show preD (.tuple [.str s, trD t, trD u]) = _
    rw [preD_tup]
    show _ :: [trD t, trD u].flatMap preD = trD (.c2 s t u) :: (pre t ++ pre u).map trD
    rw [List.flatMap_cons, List.flatMap_cons, List.flatMap_nil, List.append_nil, preD_tr t, preD_tr u, List.map_append]
    rfl
theorem ns_kids {K : PySem.W.Frag} {H : Hp} : ∀ {ws : List V} {ts : List Tr}, NsAt K H ws (ts.map trD) → KidsAt K H ws ts
  | _, [], h => by cases h; exact .nil
  | _, t :: ts, h => by
    cases h with
    | cons a b => exact .cons (dp_tr a.1) (ns_kids b)
/-- what a term's tuple is -/
theorem TrAt.split {K : PySem.W.Frag} {H : Hp} {t : Tr} {v : V} (h : TrAt K H t v) : (∃ x, t = .nm x ∧ v = .str x) ∨ ((∀ x, t ≠ .nm x) ∧ ∃ p us, v = .ref p ∧ SqT K H p (.str t.sym :: us) ∧ KidsAt K H us t.kids) := by
  cases t with
  | nm x => exact .inl ⟨x, rfl, h⟩
  | c0 s => obtain ⟨p, e, q⟩ := h; exact .inr ⟨(fun x z => by cases z), p, [], e, q, .nil⟩
  | c1 s t => obtain ⟨p, u, e, q, r⟩ := h; exact .inr ⟨(fun x z => by cases z), p, [u], e, q, .cons r .nil⟩
  | c2 s t t' => obtain ⟨p, u, u', e, q, r, r'⟩ := h; exact .inr ⟨(fun x z => by cases z), p, [u, u'], e, q, .cons r (.cons r' .nil)⟩
/-! ### fold: R tells of each term the value that is made of it -/
/-- of_name's promise -/
def spOn (Ok : Tr → Prop) (R : Hp → Tr → V → Prop) : Sp := fun vs H Q _ => ∃ x : Str, vs = [.str x] ∧ Ok (.nm x) ∧ ∀ r H', Same H H' → R H' (.nm x) r → Q r H'
/-- of_sign's promise: what was made of the parts stands in a list -/
def spOs (Ok : Tr → Prop) (R : Hp → Tr → V → Prop) : Sp := fun vs H Q _ => ∃ (t : Tr) (p : Addr) (rs : List V), vs = [.str t.sym, .ref p] ∧ (∀ x, t ≠ .nm x) ∧ Ok t ∧ H p = some (.lst rs) ∧ Paired (fun r k => R H k r) rs t.kids ∧ ∀ r H', Same H H' → R H' t r → Q r H'
def spFold (P : Program) (w : World) (K : PySem.W.Frag) (mg : Str → Option Value) (base : Heap) (k : Nat) (Ok : Tr → Prop) (R : Hp → Tr → V → Prop) : Sp := fun vs H Q _ => ∃ (v fn fs : V) (t : Tr), vs = [v, fn, fs] ∧ TrAt K H t v ∧ t.size ≤ 100000 ∧ (∀ k ∈ pre t, Ok k) ∧ Calb P w K mg base k (spOn Ok R) H fn ∧ Calb P w K mg base k (spOs Ok R) H fs ∧
  ∀ r H', Same H H' → R H' t r → Q r H'
end Pg

set_option Elab.async false
set_option linter.all false
set_option maxRecDepth 100000
set_option maxHeartbeats 4000000
namespace K03
open PySem PySem.Spec PyProof.Rows L2 Pg
def top (i : Nat) : Stmt := PySem.Challenge.pw_pergola_k03_texts_of_terms.main.body.getD i (.Pass ⟨0, 0, 0, 0⟩)
structure Zs (mg : Str → Option Value) : Prop where
  len : mg "len" = none
  abs : mg "abs" = none
  int : mg "int" = none
  max : mg "max" = none
  sum : mg "sum" = none
  tuple : mg "tuple" = none
  list : mg "list" = none
  isinstance : mg "isinstance" = none
  repr : mg "repr" = none
  range : mg "range" = none
  reversed : mg "reversed" = none
  all : mg "all" = none
  str : mg "str" = none
section
variable {P : Program} {w : World} {K : PySem.W.Frag} {mg : Str → Option Value} {base : Heap} {f : Addr} {fd : FuncData}
abbrev s_next : Stmt := top 30
abbrev N_next : List Str := ["state", "many", "turn"]
abbrev P_next : List Str := ["state", "many"]
theorem sc_next : FnScope N_next P_next (defScope s_next) := ⟨rfl, rfl, rfl, by decide +kernel, rfl, by decide +kernel, by decide +kernel⟩

theorem ok_next (F : FnP K "_law_next" s_next f fd) (hm : mg "_law_next" = some (.ref f)) (Z : Zs mg) : Cal P w K mg base 1 "_law_next" spNext [] := by
  refine mk_cal F hm sc_next (fun _ _ _ _ _ _ us hl => match us, hl with | [_, _], _ => rfl) (fun vs H Q E h => ?_) (fun cdv A outer s H vs Q E hr h => ?_)
  · obtain ⟨a, n, many, m, rfl, _⟩ := h
    rfl
  obtain ⟨a, n, many, m, rfl, hmany, st, hlt, q⟩ := h
  refine ⟨_, (pss_cons (ps_asg (pe_op op_add (pe_ix ix_list (pv 0) pe_int (fun _ _ => rfl)) pe_int) (pg_sub (pv 0) pe_int set_list))
      (pss_cons (ps_set (i := 2) sc_next.nd rfl (by first | exact Or.inl rfl | exact Or.inr rfl) (pe_op op_fdiv (pe_ix ix_list (pv 0) pe_int (fun _ _ => rfl)) (pe_callB call_len_seq (by rfl) Z.len (by decide +kernel) (pa_cons (pe_ix ix_list (pv 0) pe_int (fun _ _ => rfl)) pa_nil))))
      (pss_one (ps_ret (pe_op op_mod (pe_callTy call_int1 (by rfl) Z.int (by decide +kernel) (pa_cons (pe_op op_add (pe_op op_add (pe_ix ix_list (pe_ix ix_list (pv 0) pe_int (fun _ _ => rfl)) (pe_op op_mod (pe_ix ix_list (pv 0) pe_int (fun _ _ => rfl)) (pe_callB call_len_seq (by rfl) Z.len (by decide +kernel) (pa_cons (pe_ix ix_list (pv 0) pe_int (fun _ _ => rfl)) pa_nil))) (fun _ _ => rfl)) (pe_op op_mul (pv 2) pe_int)) (pe_op op_mul (pe_op op_mul (pe_ix ix_list (pv 0) pe_int (fun _ _ => rfl)) (pv 2)) pe_int)) pa_nil)) (pv 1)))))), ?_⟩
  obtain ⟨ns, c, h1, h2, h3, h4, h5, h6, h7, h8⟩ := st.ex
  have hl : (ns.map V.int).length = ns.length := List.length_map _
  have hp : 0 < ns.length := List.length_pos_iff.mpr h4
  have z1 : upd H a (.lst (([V.ref n, V.int c]).set 1 (V.int (c + 1)))) a = some (.lst [V.ref n, V.int (c + 1)]) := upd_same
  have z2 : upd H a (.lst (([V.ref n, V.int c]).set 1 (V.int (c + 1)))) n = some (.lst (ns.map V.int)) := by rw [upd_ne h3]; exact h2
  refine ⟨_, rfl, a, _, 1, _, rfl, rfl, SqL.mk h1, rfl, _, _, rfl, rfl, _, rfl, a, _, 1, 1, rfl, rfl, h1, rfl, ?_⟩
  refine ⟨_, rfl, a, _, 1, _, rfl, rfl, SqL.mk z1, rfl, _, rfl, a, _, 0, _, rfl, rfl, SqL.mk z1, rfl, n, _, rfl, .inl (SqL.mk z2), _, _, rfl, rfl, ⟨by rw [hl]; omega, by rw [hl]; omega⟩, ?_⟩
  have hk : ((c + 1) % (((ns.map V.int).length : Nat) : Int)).toNat < ns.length := by
    rw [hl]
    have := Int.emod_lt_of_pos (c + 1) (show (0 : Int) < (ns.length : Int) by omega)
    have := Int.emod_nonneg (c + 1) (show (ns.length : Int) ≠ 0 by omega)
    omega
  have hnn : 0 ≤ (c + 1) % (((ns.map V.int).length : Nat) : Int) := Int.emod_nonneg _ (by rw [hl]; omega)
  have hat : atI (ns.map V.int) ((c + 1) % (((ns.map V.int).length : Nat) : Int)) = some (.int (ns[((c + 1) % (((ns.map V.int).length : Nat) : Int)).toNat]'hk)) :=
    at_of (Int.toNat_of_nonneg hnn).symm (by rw [List.getElem?_map, List.getElem?_eq_getElem hk]; rfl)
  have hx := h6 _ (List.getElem_mem hk)
  have hd1 : 0 ≤ (c + 1) / (((ns.map V.int).length : Nat) : Int) := Int.ediv_nonneg (by omega) (by omega)
  have hd2 : (c + 1) / (((ns.map V.int).length : Nat) : Int) ≤ c + 1 := Int.ediv_le_self _ (by omega)
  refine ⟨_, rfl, a, _, 0, _, rfl, rfl, SqL.mk z1, rfl, _, rfl, a, _, 1, _, rfl, rfl, SqL.mk z1, rfl, _, rfl, a, _, 0, _, rfl, rfl, SqL.mk z1, rfl, n, _, rfl, .inl (SqL.mk z2), _, _, rfl, rfl, (by show (0 : Int) < _; rw [hl]; omega),
    n, _, _, _, rfl, rfl, SqL.mk z2, hat, ?_⟩
  refine ⟨_, rfl, _, _, rfl, rfl, .inr ⟨by decide, by decide⟩, _, _, rfl, rfl, _, rfl, a, _, 1, _, rfl, rfl, SqL.mk z1, rfl, _, rfl, _, _, rfl, rfl, .inl ⟨by omega, by omega⟩, _, _, rfl, rfl, .inr ⟨by decide, by decide⟩, _, _, rfl, rfl, .inl ⟨_, rfl, ?_⟩⟩
  refine ⟨_, rfl, _, _, rfl, rfl, (by show (0 : Int) < many; omega), ?_⟩
  refine q _ _ (Int.emod_nonneg _ (by omega)) (Int.emod_lt_of_pos _ (by omega)) Fr.own ⟨ns, c + 1, z1, z2, h3, h4, h5, h6, by omega, by omega⟩
abbrev s_word : Stmt := top 31
abbrev N_word : List Str := ["state", "taken", "word", "k"]
abbrev P_word : List Str := ["state", "taken"]
theorem sc_word : FnScope N_word P_word (defScope s_word) := ⟨rfl, rfl, rfl, by decide +kernel, rfl, by decide +kernel, by decide +kernel⟩

theorem cs_abyz : cs (PySem.Str.ofString "abyz") = [97, 98, 121, 122] := by decide +kernel
theorem cs_az : cs (PySem.Str.ofString "abcdefghijklmnopqrstuvwxyz") = (List.range 26).map (97 + ·) := by decide +kernel
theorem ok_word (F : FnP K "_law_word" s_word f fd) (hm : mg "_law_word" = some (.ref f)) (Z : Zs mg) (c_next : Cal P w K mg base 1 "_law_next" spNext []) : Cal P w K mg base 2 "_law_word" (spWord K) [] := by
  refine mk_cal F hm sc_word (fun _ _ _ _ _ _ us hl => match us, hl with | [_, _], _ => rfl) (fun vs H Q E h => ?_) (fun cdv A outer s H vs Q E hr h => ?_)
  · obtain ⟨a, n, l, ts, m, rfl, _⟩ := h
    rfl
  obtain ⟨a, n, l, ts, m, rfl, st, hlt, hl, hla, wd, h26, q⟩ := h
  refine ⟨_, (pss_cons (ps_set (i := 2) sc_word.nd rfl (by first | exact Or.inl rfl | exact Or.inr rfl) pe_str)
      (pss_cons (ps_for PassesOwn.never rfl (pi_range1 (by rfl) Z.range (pa_cons (pe_ix ix_list (pe_lst (pa_cons pe_int (pa_cons pe_int (pa_cons (pe_op op_add pe_int (C8.pe_c c_next hr (by first | decide | omega) rfl (pa_cons (pv 0) (pa_cons pe_int pa_nil)))) pa_nil)))) (C8.pe_c c_next hr (by first | decide | omega) rfl (pa_cons (pv 0) (pa_cons pe_int pa_nil))) (fun _ _ => rfl)) pa_nil)) (pg_name (i := 3) sc_word.nd rfl (by first | exact Or.inl rfl | exact Or.inr rfl)) (pss_one (ps_set (i := 2) sc_word.nd rfl (by first | exact Or.inl rfl | exact Or.inr rfl) (pe_op op_add_str (pv 2) (pe_ix ix_str pe_str (C8.pe_c c_next hr (by first | decide | omega) rfl (pa_cons (pv 0) (pa_cons pe_int pa_nil))) (fun _ _ => rfl))))))
      (pss_cons (ps_if (pt_cmpR op_in_seq (pv 2) (pv 1) (by rfl)) (pss_one (ps_ret (pe_op op_add_str pe_str (pe_ix ix_str pe_str (pe_callB call_len_seq (by rfl) Z.len (by decide +kernel) (pa_cons (pv 1) pa_nil)) (fun _ _ => rfl))))) pss_nil)
      (pss_one (ps_ret (pv 2)))))), ?_⟩
  refine ⟨_, rfl, a, n, 8, m, rfl, by decide, st, by omega, fun r H1 r0 r8 f1 st1 => ?_⟩
  refine ⟨_, _, rfl, rfl, (by show 3 ≤ sizeLine; decide), fun p np => ?_⟩
  refine ⟨_, rfl, a, n, 3, m + 1, rfl, by decide, st1.new np, by omega, fun r2 H2 t0 t3 f2 st2 => ?_⟩
  obtain ⟨j, hj, j1, j8⟩ : ∃ j : Int, atI [V.int 1, V.int 2, V.int (1 + r)] r2 = some (.int j) ∧ 1 ≤ j ∧ j ≤ 8 := by
    have : r2 = 0 ∨ r2 = 1 ∨ r2 = 2 := by omega
    rcases this with rfl | rfl | rfl
    · exact ⟨1, rfl, by omega, by omega⟩
    · exact ⟨2, rfl, by omega, by omega⟩
    · exact ⟨1 + r, rfl, by omega, by omega⟩
  refine ⟨p, _, r2, _, rfl, rfl, SqL.mk (f2 _ _ (st1.ne np).1 upd_same), hj, j, rfl, by omega, by omega, ?_⟩
  have F2 : Pg.Fr a H H2 := f1.trans ((Fr.new np).trans f2)
  refine for_range (lo := 0) (n := j.toNat) (fun i σ H' => ∃ (x : Str) (k : Option V), σ = [some (.ref a), some (.ref l), some (.str x), k] ∧ (cs x).length = i ∧ (∀ c ∈ cs x, c = 97 ∨ c = 98 ∨ c = 121 ∨ c = 122) ∧ Pg.Fr a H H' ∧ StA H' a n (m + 2 + i))
    ⟨PySem.Str.ofString "", none, rfl, by decide +kernel, by decide +kernel, F2, st2.mono (by omega)⟩ ?_ ?_
  · rintro i σ H' hi ⟨x, k, rfl, hx, hc, f3, st3⟩
    refine ⟨_, rfl, _, rfl, a, n, 4, _, rfl, by decide, st3, by omega, fun r3 H3 u0 u4 f4 st4 => ?_⟩
    obtain ⟨c, hat, hcc⟩ : ∃ c, atI (cs (PySem.Str.ofString "abyz")) r3 = some c ∧ (c = 97 ∨ c = 98 ∨ c = 121 ∨ c = 122) := by
      rw [cs_abyz]
      have : r3 = 0 ∨ r3 = 1 ∨ r3 = 2 ∨ r3 = 3 := by omega
      rcases this with rfl | rfl | rfl | rfl
      · exact ⟨97, rfl, by omega⟩
      · exact ⟨98, rfl, by omega⟩
      · exact ⟨121, rfl, by omega⟩
      · exact ⟨122, rfl, by omega⟩
    refine ⟨_, r3, c, rfl, rfl, by decide +kernel, hat, _, _, rfl, rfl, ?_, ?_⟩
    · have e1 : x.length ≤ 8 := by rw [cs_len]; omega
      have e2 : (⟨#[c]⟩ : Str).length = 1 := rfl
      rw [e2]
      exact Nat.le_trans (Nat.add_le_add_right e1 1) (by decide)
    refine ⟨x ++ ⟨#[c]⟩, _, rfl, ?_, ?_, f3.trans f4, st4.mono (by omega)⟩
    · rw [cs_app, List.length_append, hx, cs_one]; rfl
    · intro d hd
      rw [cs_app, cs_one] at hd
      rcases List.mem_append.mp hd with h | h
      · exact hc d h
      · rw [List.mem_singleton] at h
        rw [h]
        exact hcc
  · rintro σ H' ⟨x, k, rfl, hx, hc, f3, st3⟩
    have hl' : H' l = some (.lst (ts.map V.str)) := f3 _ _ hla hl
    refine ⟨_, rfl, _, rfl, l, _, rfl, .inl (SqL.mk hl'), rfl, Pg.flat_strs ts, _, rfl, ?_⟩
    rw [inV_strs]
    refine ite2 (fun hin => ?_) (fun hin => ?_)
    · refine ⟨_, rfl, l, _, rfl, .inl (SqL.mk hl'), _, _, 97 + ts.length, rfl, rfl, by decide +kernel, ?_, _, _, rfl, rfl, ?_, ?_⟩
      · show atI (cs (PySem.Str.ofString "abcdefghijklmnopqrstuvwxyz")) _ = _
        rw [cs_az, List.length_map]
        exact atI_nat (by rw [List.getElem?_map, List.getElem?_range h26]; rfl)
      · show (PySem.Str.ofString "c").length + 1 ≤ sizeLine
        decide +kernel
      · have ew : cs (PySem.Str.ofString "c" ++ ⟨#[97 + ts.length]⟩) = [99, 97 + ts.length] := by
          rw [cs_app, cs_one]
          have : cs (PySem.Str.ofString "c") = [99] := by decide +kernel
          rw [this]
          rfl
        exact q _ H' (wd.fresh ew) (.inr ⟨h26, ew⟩) f3 (st3.mono (by omega))
    · refine ⟨_, rfl, ?_⟩
      exact q x H' (fun z => hin (decide_eq_true z)) (.inl ⟨by omega, by omega, hc⟩) f3 (st3.mono (by omega))
abbrev s_signs : Stmt := top 32
abbrev N_signs : List Str := ["state", "many", "found", "k", "at", "word", "sign", "arity"]
abbrev P_signs : List Str := ["state", "many"]
theorem sc_signs : FnScope N_signs P_signs (defScope s_signs) := ⟨rfl, rfl, rfl, by decide +kernel, rfl, by decide +kernel, by decide +kernel⟩

/-- what stands behind k turns -/
structure SgInv (K : PySem.W.Frag) (a n fl : Addr) (H H' : Hp) (m : Int) (k : Nat) (rs : List Addr) (sg : Sg) : Prop where
  at_ : H' fl = some (.lst (rs.map V.ref))
  pr : SgR K H' rs sg
  ln : sg.length = k
  wd : Wds (sg.map (·.1))
  ar : ∀ s ∈ sg, 0 ≤ s.2 ∧ s.2 ≤ 2
  c0 : 0 < k → ∃ s ∈ sg, s.2 = 0
  ne : fl ≠ a ∧ fl ≠ n
  fr : Pg.Fr a H H'
  st : StA H' a n (m + 11 * k)
theorem ok_signs (F : FnP K "_law_signs" s_signs f fd) (hm : mg "_law_signs" = some (.ref f)) (Z : Zs mg) (c_next : Cal P w K mg base 1 "_law_next" spNext []) (c_word : Cal P w K mg base 2 "_law_word" (spWord K) []) : Cal P w K mg base 3 "_law_signs" (spSigns K) [] := by
  refine mk_cal F hm sc_signs (fun _ _ _ _ _ _ us hl => match us, hl with | [_, _], _ => rfl) (fun vs H Q E h => ?_) (fun cdv A outer s H vs Q E hr h => ?_)
  · obtain ⟨a, n, many, m, rfl, _⟩ := h
    rfl
  obtain ⟨a, n, many, m, rfl, st, hlt, h1, h4, q⟩ := h
  refine ⟨_, (pss_cons (ps_set (i := 2) sc_signs.nd rfl (by first | exact Or.inl rfl | exact Or.inr rfl) (pe_lst pa_nil))
      (pss_cons (ps_for PassesOwn.never rfl (pi_range1 (by rfl) Z.range (pa_cons (pv 1) pa_nil)) (pg_name (i := 3) sc_signs.nd rfl (by first | exact Or.inl rfl | exact Or.inr rfl)) (pss_cons (ps_set (i := 5) sc_signs.nd rfl (by first | exact Or.inl rfl | exact Or.inr rfl) (C8.pe_c c_word hr (by first | decide | omega) rfl (pa_cons (pv 0) (pa_cons (pe_lc (own := [("sign", 6), ("arity", 7)]) (g := (gTup K 2 (gCons (gName 6) (gCons (gName 7) gNil)))) (tt := tYes) (te := (tVar 6)) rfl sc_signs.nd (pi_list (pv 2)) (blkOk_by (N := N_signs) (sc := defScope s_signs) (by decide +kernel)) (fun _ _ _ _ _ => by exact (pg_tup rfl (pgs_cons (pg_name (i := 6) sc_signs.nd rfl (Or.inl rfl)) (pgs_cons (pg_name (i := 7) sc_signs.nd rfl (Or.inl rfl)) pgs_nil)))) (fun _ _ _ _ _ => by exact pts_nil) (fun _ _ _ _ _ => by exact (pv 6))) pa_nil))))
      (pss_one (ps_expr (pe_bm PySem.F.plainAttrs_list PySem.F.slot_list_append PySem.F.type_list_append mt_append (pv 2) (pa_cons (pe_tup (pa_cons (pv 5) (pa_cons (pe_ix ix_list (pe_lst (pa_cons pe_int (pa_cons (C8.pe_c c_next hr (by first | decide | omega) rfl (pa_cons (pv 0) (pa_cons pe_int pa_nil))) pa_nil))) (pe_callTy call_int1 (by rfl) Z.int (by decide +kernel) (pa_cons (pe_cmpR op_gt (pv 3) pe_int (nomark _)) pa_nil)) (fun _ _ => rfl)) pa_nil))) pa_nil))))))
      (pss_cons (ps_set (i := 4) sc_signs.nd rfl (by first | exact Or.inl rfl | exact Or.inr rfl) (C8.pe_c c_next hr (by first | decide | omega) rfl (pa_cons (pv 0) (pa_cons (pv 1) pa_nil))))
      (pss_one (ps_ret (pe_callTy call_tuple_of (by rfl) Z.tuple (by decide +kernel) (pa_cons (pe_op op_cat (pe_slice sl_list (pv 2) (po_some (pv 4)) po_none) (pe_slice sl_list (pv 2) po_none (po_some (pv 4)))) pa_nil))))))), ?_⟩
  refine ⟨by decide, fun fl nfl => ?_⟩
  refine ⟨_, rfl, many, rfl, by omega, by omega, ?_⟩
  refine for_range (lo := 0) (n := many.toNat) (fun i σ H' => ∃ (k w : Option V) (rs : List Addr) (sg : Sg), σ = [some (.ref a), some (.int many), some (.ref fl), k, none, w, none, none] ∧ SgInv K a n fl H H' m i rs sg)
    ⟨none, none, [], [], rfl, ⟨upd_same, .nil, rfl, Wds.nil, (fun _ h => absurd h List.not_mem_nil), (fun h => absurd h (Nat.lt_irrefl 0)), st.ne nfl, Fr.new nfl, (st.new nfl).mono (by omega)⟩⟩ ?_ ?_
  · rintro i σ H1 hi ⟨k, w0, rs, sg, rfl, iv⟩
    have hi4 : i < 4 := by omega
    refine ⟨_, rfl, rd_fstL (i := 2) rfl (SqL.mk iv.at_) iv.pr (by rw [iv.ln]; omega) (fun _ _ => rfl) (fun _ _ => rfl) (fun D H2 nD sm hD => ?_)⟩
    refine ⟨a, n, D, sg.map (·.1), m + 11 * i, rfl, iv.st.same sm, by omega, hD, (iv.st.ne nD).1, iv.wd, by rw [List.length_map, iv.ln]; omega, fun wd H3 w1 w2 f3 st3 => ?_⟩
    have hf3 : H3 fl = some (.lst (rs.map V.ref)) := f3 _ _ iv.ne.1 (sm _ _ iv.at_)
    refine ⟨_, rfl, .inl ⟨rfl, _, SqL.mk hf3⟩, _, rfl, _, rfl, a, n, 3, m + 11 * i + 10, rfl, by decide, st3, by omega, fun r H4 r0 r3 f4 st4 => ?_⟩
    have hf4 : H4 fl = some (.lst (rs.map V.ref)) := f4 _ _ iv.ne.1 hf3
    refine ⟨(by show 2 ≤ sizeLine; decide), fun p np => ?_⟩
    obtain ⟨ar, hat, ha0, ha2, hz⟩ : ∃ ar : Int, atI [V.int 0, V.int r] (if decide ((0 : Int) < 0 + (i : Int)) = true then 1 else 0) = some (.int ar) ∧ 0 ≤ ar ∧ ar ≤ 2 ∧ (i = 0 → ar = 0) := by
      by_cases h : i = 0
      · subst h
        exact ⟨0, rfl, by omega, by omega, fun _ => rfl⟩
      · have e : decide ((0 : Int) < 0 + (i : Int)) = true := decide_eq_true (by omega)
        rw [e]
        exact ⟨r, rfl, r0, by omega, fun z => absurd z h⟩
    refine ⟨_, rfl, _, _, rfl, rfl, .inr ⟨_, rfl, p, _, _, _, rfl, rfl, SqL.mk upd_same, hat, (by show 2 ≤ sizeLine; decide), fun t nt => ?_⟩⟩
    have nt4 : t ≠ fl := (ne_of_none (show upd H4 p _ fl = some (.lst (rs.map V.ref)) by rw [upd_ne (ne_of_none hf4 np)]; exact hf4) nt).symm
    have hf5 : (upd (upd H4 p (.lst [V.int 0, V.int r])) t (.tup [.str wd, .int ar])) fl = some (.lst (rs.map V.ref)) := by
      rw [upd_ne nt4.symm, upd_ne (ne_of_none hf4 np)]
      exact hf4
    have hlen : (rs.map V.ref).length = i := by rw [List.length_map, paired_len iv.pr, iv.ln]
    refine ⟨fl, _, _, rfl, rfl, hf5, by rw [hlen]; exact small1000 (by omega), ?_⟩
    have tk : TK K H1 (upd (upd (upd H4 p (.lst [V.int 0, V.int r])) t (.tup [.str wd, .int ar])) fl (.lst (rs.map V.ref ++ [V.ref t]))) :=
      (TK.same sm).trans (((iv.st.same sm).tk f3).trans ((st3.tk f4).trans ((TK.new np).trans ((TK.new nt).trans (TK.put hf5)))))
    refine ⟨some (.int (0 + (i : Int))), some (.str wd), rs ++ [t], sg ++ [(wd, ar)], rfl, ⟨?_, ?_, ?_, ?_, ?_, ?_, iv.ne, ?_, ?_⟩⟩
    · rw [List.map_append]; exact upd_same
    · exact paired_app (SgR.keep tk iv.pr) (.cons (SqT.mk (by rw [upd_ne nt4]; exact upd_same)) .nil)
    · rw [List.length_append, iv.ln]; rfl
    · rw [List.map_append]
      exact iv.wd.snoc w1 w2
    · intro s hs
      rcases List.mem_append.mp hs with h | h
      · exact iv.ar s h
      · rw [List.mem_singleton] at h
        subst h
        exact ⟨ha0, ha2⟩
    · intro _
      by_cases h : i = 0
      · exact ⟨(wd, ar), List.mem_append_right _ (List.mem_singleton.mpr rfl), hz h⟩
      · obtain ⟨s, h1, h2⟩ := iv.c0 (by omega)
        exact ⟨s, List.mem_append_left _ h1, h2⟩
    · have g1 : Pg.Fr a H H4 := iv.fr.trans ((Fr.of sm).trans (f3.trans f4))
      have g2 : Pg.Fr a H (upd (upd H4 p (.lst [V.int 0, V.int r])) t (.tup [.str wd, .int ar])) := g1.trans ((Fr.new np).trans (Fr.new nt))
      intro b o nb hb
      have hbf : b ≠ fl := ne_of_none hb nfl
      rw [upd_ne hbf]
      exact g2 b o nb hb
    · exact (((st4.new np).new nt).put iv.ne).mono (by omega)
  · rintro σ H1 ⟨k, w0, rs, sg, rfl, iv⟩
    have hm4 : ((many.toNat : Nat) : Int) = many := Int.toNat_of_nonneg (by omega)
    refine ⟨_, rfl, _, rfl, a, n, many, m + 11 * many, rfl, h1, by rw [← hm4]; exact iv.st, by omega, fun r H2 r0 r1 f2 st2 => ?_⟩
    obtain ⟨r', rfl⟩ := Int.eq_ofNat_of_zero_le r0
    have hf2 : H2 fl = some (.lst (rs.map V.ref)) := f2 _ _ iv.ne.1 iv.at_
    refine ⟨_, rfl, _, rfl, _, rfl, fl, _, rfl, SqL.mk hf2, fun p np => ?_⟩
    have hf3 := (show upd H2 p (.lst (cutV (rs.map V.ref) (some (r' : Int)) none)) fl = some (.lst (rs.map V.ref)) by rw [upd_ne (ne_of_none hf2 np)]; exact hf2)
    refine ⟨_, rfl, _, rfl, _, rfl, fl, _, rfl, SqL.mk hf3, fun p2 np2 => ?_⟩
    have hp := (show upd (upd H2 p (.lst (cutV (rs.map V.ref) (some (r' : Int)) none))) p2 (.lst (cutV (rs.map V.ref) none (some (r' : Int)))) p = some (.lst (cutV (rs.map V.ref) (some (r' : Int)) none)) by rw [upd_ne (ne_of_none upd_same np2)]; exact upd_same)
    refine ⟨p, p2, _, _, rfl, rfl, hp, upd_same, ?_, fun p3 np3 => ?_⟩
    · have hlen : (rs.map V.ref).length ≤ 4 := by rw [List.length_map, paired_len iv.pr, iv.ln]; omega
      have b1 := cutV_length (rs.map V.ref) (some (r' : Int)) none
      have b2 := cutV_length (rs.map V.ref) none (some (r' : Int))
      exact Nat.le_of_lt (small1000 (by omega))
    refine ⟨p3, _, rfl, .inl ⟨SqL.mk upd_same, fun t nt => ?_⟩⟩
    have f6 : Pg.Fr a H1 (upd (upd (upd (upd H2 p (.lst (cutV (rs.map V.ref) (some (r' : Int)) none))) p2 (.lst (cutV (rs.map V.ref) none (some (r' : Int))))) p3 (.lst (cutV (rs.map V.ref) (some (r' : Int)) none ++ cutV (rs.map V.ref) none (some (r' : Int))))) t (.tup (cutV (rs.map V.ref) (some (r' : Int)) none ++ cutV (rs.map V.ref) none (some (r' : Int))))) :=
      f2.trans ((Fr.new np).trans ((Fr.new np2).trans ((Fr.new np3).trans (Fr.new nt))))
    have e6 : cutV (rs.map V.ref) (some (r' : Int)) none ++ cutV (rs.map V.ref) none (some (r' : Int)) = (rs.drop r' ++ rs.take r').map V.ref := by rw [cutV_drop, cutV_take, ← List.map_drop, ← List.map_take, ← List.map_append]
    refine q t (sg.drop r' ++ sg.take r') _ ⟨rs.drop r' ++ rs.take r', SqT.mk (by rw [upd_same, e6]), ?_⟩ ?_ (iv.fr.trans f6) ?_
    · exact SgR.keep (iv.st.tk f6) (paired_app (paired_drop r' iv.pr) (paired_take r' iv.pr))
    · refine GSg.rot ⟨by rw [iv.ln]; omega, iv.wd.nd, iv.ar, iv.c0 (by omega), fun s hs => ?_⟩ r'
      obtain ⟨i, hi, e⟩ := List.getElem_of_mem hs
      exact ⟨i, iv.wd.wd i s.1 (by rw [List.getElem?_map, List.getElem?_eq_getElem hi, e]; rfl)⟩
    · exact ((((st2.new np).new np2).new np3).new nt).mono (by omega)
abbrev s_stream : Stmt := top 29
abbrev N_stream : List Str := ["script", "numbers", "cell", "rest", "k", "mixed"]
abbrev P_stream : List Str := ["script"]
theorem sc_stream : FnScope N_stream P_stream (defScope s_stream) := ⟨rfl, rfl, rfl, by decide +kernel, rfl, by decide +kernel, by decide +kernel⟩

theorem ok_stream (F : FnP K "_law_stream" s_stream f fd) (hm : mg "_law_stream" = some (.ref f)) (Z : Zs mg) : Cal P w K mg base 1 "_law_stream" (spStream K) [] := by
  refine mk_cal F hm sc_stream (fun _ _ _ _ _ _ us hl => match us, hl with | [_], _ => rfl) (fun vs H Q E h => ?_) (fun cdv A outer s H vs Q E hr h => ?_)
  · obtain ⟨a, zs, rfl, _⟩ := h
    rfl
  obtain ⟨a, zs, rfl, hS, h63, q⟩ := h
  refine ⟨_, (pss_cons (ps_set (i := 1) sc_stream.nd rfl (by first | exact Or.inl rfl | exact Or.inr rfl) (pe_lst pa_nil))
      (pss_cons (ps_for PassesOwn.never rfl (pi_list (pe_slice sl_list (pv 0) po_none (po_some pe_int))) (pg_name (i := 2) sc_stream.nd rfl (by first | exact Or.inl rfl | exact Or.inr rfl)) (pss_cons (ps_set (i := 3) sc_stream.nd rfl (by first | exact Or.inl rfl | exact Or.inr rfl) (pe_callB call_abs (by rfl) Z.abs (by decide +kernel) (pa_cons (pe_callTy call_int1 (by rfl) Z.int (by decide +kernel) (pa_cons (pv 2) pa_nil)) pa_nil)))
      (pss_one (ps_if (pt_cmpR op_ge (pv 3) (pe_op op_pow pe_int pe_int) (nomark _)) (pss_one (ps_for PassesOwn.never rfl (pi_range1 (by rfl) Z.range (pa_cons pe_int pa_nil)) (pg_name (i := 4) sc_stream.nd rfl (by first | exact Or.inl rfl | exact Or.inr rfl)) (pss_cons (ps_expr (pe_bm PySem.F.plainAttrs_list PySem.F.slot_list_append PySem.F.type_list_append mt_append (pv 1) (pa_cons (pe_op op_mod (pe_callTy call_int1 (by rfl) Z.int (by decide +kernel) (pa_cons (pv 3) pa_nil)) pe_int) pa_nil)))
      (pss_cons (ps_set (i := 3) sc_stream.nd rfl (by first | exact Or.inl rfl | exact Or.inr rfl) (pe_op op_fdiv (pv 3) pe_int))
      (pss_one (ps_if (pt_cmpR op_eq (pv 3) pe_int (nomark _)) (pss_one ps_break) pss_nil)))))) (pss_cons (ps_set (i := 5) sc_stream.nd rfl (by first | exact Or.inl rfl | exact Or.inr rfl) (pe_op op_mod (pe_callTy call_int1 (by rfl) Z.int (by decide +kernel) (pa_cons (pv 3) pa_nil)) pe_int))
      (pss_one (ps_for PassesOwn.never rfl (pi_range1 (by rfl) Z.range (pa_cons pe_int pa_nil)) (pg_name (i := 4) sc_stream.nd rfl (by first | exact Or.inl rfl | exact Or.inr rfl)) (pss_cons (ps_set (i := 5) sc_stream.nd rfl (by first | exact Or.inl rfl | exact Or.inr rfl) (pe_op op_mod (pe_callTy call_int1 (by rfl) Z.int (by decide +kernel) (pa_cons (pe_op op_add (pe_op op_add (pe_op op_mul (pv 5) pe_int) (pe_op op_mul pe_int (pv 4))) pe_int) pa_nil)) pe_int))
      (pss_one (ps_expr (pe_bm PySem.F.plainAttrs_list PySem.F.slot_list_append PySem.F.type_list_append mt_append (pv 1) (pa_cons (pe_op op_mod (pe_op op_mod (pe_callTy call_int1 (by rfl) Z.int (by decide +kernel) (pa_cons (pe_op op_add (pe_op op_mul (pv 5) pe_int) (pv 4)) pa_nil)) pe_int) pe_int) pa_nil))))))))))))
      (pss_cons (ps_if (pt_cmpR op_eq (pe_callB call_len_seq (by rfl) Z.len (by decide +kernel) (pa_cons (pv 1) pa_nil)) pe_int (nomark _)) (pss_one (ps_expr (pe_bm PySem.F.plainAttrs_list PySem.F.slot_list_append PySem.F.type_list_append mt_append (pv 1) (pa_cons pe_int pa_nil)))) pss_nil)
      (pss_one (ps_ret (pv 1)))))), ?_⟩
  refine ⟨by decide, fun fl nfl => ?_⟩
  have hS1 : SqL K (upd H fl (.lst [])) a (zs.map V.int) := (Same.new nfl).seq hS
  refine ⟨_, rfl, 63, rfl, a, _, rfl, hS1, fun g ng => ?_⟩
  have eg : cutV (zs.map V.int) none (some 63) = zs.map V.int := by
    show cutV (zs.map V.int) none (some ((63 : Nat) : Int)) = _
    rw [cutV_take, List.take_of_length_le (by rw [List.length_map]; exact h63)]
  rw [eg]
  have nfg : g ≠ fl := (ne_of_none upd_same ng).symm
  refine ⟨g, rfl, ⟨_, SqL.mk upd_same⟩, for_list (K := K) (xs := zs.map V.int) (fun i σ H' => ∃ (v1 v2 v3 v4 : Option V) (ns : List Int), σ = [some (.ref a), some (.ref fl), v1, v2, v3, v4] ∧ H' fl = some (.lst (ns.map V.int)) ∧ ns.length ≤ 60 * i ∧ InR ns ∧ Same H H' ∧ H' g = some (.lst (zs.map V.int)))
    ⟨none, none, none, none, [], rfl, by rw [upd_ne nfg.symm]; exact upd_same, by simp, (fun _ h => absurd h List.not_mem_nil), Same.mut (same_free (Same.new nfl) ng) (Same.new nfl), upd_same⟩ (fun i σ H' _ ⟨_, _, _, _, _, _, _, _, _, _, hg⟩ => SqL.mk hg) ?_ ?_⟩
  · rintro i x σ H1 hx ⟨v1, v2, v3, v4, ns, rfl, hf, hl, hn, sm, hg⟩
    obtain ⟨z, hz, rfl⟩ : ∃ z, zs[i]? = some z ∧ V.int z = x := by
      rw [List.getElem?_map] at hx
      cases e : zs[i]? with
      | none => rw [e] at hx; cases hx
      | some z => rw [e] at hx; exact ⟨z, rfl, Option.some.inj hx⟩
    have hi : i < zs.length := (List.getElem?_eq_some_iff.mp hz).1
    refine ⟨_, rfl, .inl ⟨_, rfl, _, rfl, ?_⟩⟩
    have hr0 : 0 ≤ (if z < 0 then -z else z) := by split <;> omega
    generalize (if z < 0 then -z else z) = rs at hr0 ⊢
    refine ⟨_, rfl, _, _, rfl, rfl, ⟨by decide, by decide, by decide⟩, _, _, rfl, rfl, _, rfl, ?_⟩
    refine ite2 (fun _ => ?_) (fun _ => ?_)
    · refine ⟨60, rfl, by decide, by decide, for_range (lo := 0) (n := 60) (fun j σ H' => ∃ (v4 v5 : Option V) (rs : Int) (ns : List Int), σ = [some (.ref a), some (.ref fl), some (.int z), some (.int rs), v4, v5] ∧ 0 ≤ rs ∧ H' fl = some (.lst (ns.map V.int)) ∧ ns.length ≤ 60 * i + j ∧ InR ns ∧ Same H H' ∧ H' g = some (.lst (zs.map V.int)))
        ⟨_, _, rs, ns, rfl, hr0, hf, by omega, hn, sm, hg⟩ ?_ ?_⟩
      · rintro j σ H2 hj ⟨u4, u5, rs, ns, rfl, hr0, hf, hl, hn, sm, hg⟩
        have hsz : (ns.map V.int).length < sizeLine := by rw [List.length_map]; exact Nat.lt_of_le_of_lt hl (Nat.lt_of_lt_of_le (show 60 * i + j < 4000 by omega) (by decide))
        refine ⟨_, rfl, .inl ⟨rfl, _, SqL.mk hf⟩, _, rfl, .inl ⟨_, rfl, _, _, rfl, rfl, (by show (0 : Int) < 1009; decide), fl, _, _, rfl, rfl, hf, hsz, ?_⟩⟩
        have hf2 : (upd H2 fl (.lst (ns.map V.int ++ [V.int (rs % 1009)]))) fl = some (.lst ((ns ++ [rs % 1009]).map V.int)) := by rw [List.map_append]; exact upd_same
        have hl2 : (ns ++ [rs % 1009]).length ≤ 60 * i + (j + 1) := by rw [List.length_append, List.length_singleton]; omega
        have sm2 : Same H (upd H2 fl (.lst (ns.map V.int ++ [V.int (rs % 1009)]))) := Same.mut nfl sm
        have hg2 : (upd H2 fl (.lst (ns.map V.int ++ [V.int (rs % 1009)]))) g = some (.lst (zs.map V.int)) := by rw [upd_ne nfg]; exact hg
        have hn2 : InR (ns ++ [rs % 1009]) := hn.snoc (mod_in rs).1 (mod_in rs).2
        refine ⟨_, rfl, _, _, rfl, rfl, ⟨by decide, by decide⟩, ?_⟩
        refine ⟨_, rfl, rfl, _, rfl, ?_⟩
        refine ite2 (fun _ => ?_) (fun _ => ?_)
        · exact ⟨_, _, _, _, ns ++ [rs % 1009], rfl, hf2, by omega, hn2, sm2, hg2⟩
        · exact ⟨_, _, _, ns ++ [rs % 1009], rfl, Int.ediv_nonneg hr0 (by decide), hf2, hl2, hn2, sm2, hg2⟩
      · rintro σ H2 ⟨u4, u5, rs, ns, rfl, hr0, hf, hl, hn, sm, hg⟩
        exact ⟨_, _, _, _, ns, rfl, hf, by omega, hn, sm, hg⟩
    · refine ⟨_, rfl, .inl ⟨_, rfl, _, _, rfl, rfl, (by show (0 : Int) < 2147483647; decide), ?_⟩⟩
      refine ⟨10, rfl, by decide, by decide, for_range (lo := 0) (n := 10) (fun j σ H' => ∃ (v4 : Option V) (mx : Int) (ns : List Int), σ = [some (.ref a), some (.ref fl), some (.int z), some (.int rs), v4, some (.int mx)] ∧ H' fl = some (.lst (ns.map V.int)) ∧ ns.length ≤ 60 * i + j ∧ InR ns ∧ Same H H' ∧ H' g = some (.lst (zs.map V.int)))
        ⟨_, _, ns, rfl, hf, by omega, hn, sm, hg⟩ ?_ ?_⟩
      · rintro j σ H2 hj ⟨u4, mx, ns, rfl, hf, hl, hn, sm, hg⟩
        refine ⟨_, rfl, _, _, rfl, rfl, .inr ⟨by decide, by decide⟩, _, rfl, _, _, rfl, rfl, .inl ⟨by decide, by decide⟩, _, _, rfl, rfl, _, _, rfl, rfl, .inl ⟨_, rfl, _, _, rfl, rfl, (by show (0 : Int) < 2147483647; decide), ?_⟩⟩
        have hsz : (ns.map V.int).length < sizeLine := by rw [List.length_map]; exact Nat.lt_of_le_of_lt hl (Nat.lt_of_lt_of_le (show 60 * i + j < 4000 by omega) (by decide))
        refine ⟨_, rfl, .inl ⟨rfl, _, SqL.mk hf⟩, _, rfl, _, _, rfl, rfl, .inr ⟨by decide, by decide⟩, _, rfl, _, _, rfl, rfl, .inl ⟨_, rfl, _, _, rfl, rfl, (by show (0 : Int) < 2147483629; decide), _, _, rfl, rfl, (by show (0 : Int) < 1009; decide), fl, _, _, rfl, rfl, hf, hsz, ?_⟩⟩
        refine ⟨_, _, ns ++ [_], rfl, by rw [List.map_append]; exact upd_same, by rw [List.length_append, List.length_singleton]; omega, hn.snoc (mod_in _).1 (mod_in _).2, Same.mut nfl sm, by rw [upd_ne nfg]; exact hg⟩
      · rintro σ H2 ⟨u4, mx, ns, rfl, hf, hl, hn, sm, hg⟩
        exact ⟨_, _, _, _, ns, rfl, hf, by omega, hn, sm, hg⟩
  · rintro σ H1 ⟨v1, v2, v3, v4, ns, rfl, hf, hl, hn, sm, hg⟩
    rw [List.length_map] at hl
    refine ⟨_, rfl, fl, _, rfl, .inl (SqL.mk hf), rfl, _, rfl, ?_⟩
    refine ite2 (fun he => ?_) (fun he => ?_)
    · have hsz : (ns.map V.int).length < sizeLine := by rw [List.length_map]; exact Nat.lt_of_le_of_lt hl (Nat.lt_of_lt_of_le (show 60 * zs.length < 4000 by omega) (by decide))
      refine ⟨_, rfl, .inl ⟨rfl, _, SqL.mk hf⟩, fl, _, _, rfl, rfl, hf, hsz, ?_⟩
      refine ⟨_, rfl, ?_⟩
      exact q fl (ns ++ [0]) _ nfl (Same.mut nfl sm) (by rw [List.map_append]; exact upd_same) (by simp) (by rw [List.length_append, List.length_singleton]; omega) (hn.snoc (by decide) (by decide))
    · refine ⟨_, rfl, ?_⟩
      refine q fl ns _ nfl sm hf (fun z => ?_) (by omega) hn
      subst z
      exact he (decide_eq_true rfl)
abbrev s_term : Stmt := top 33
abbrev N_term : List Str := ["state", "signs", "names", "room", "pick", "fit", "sign", "arity", "left", "first", "one"]
abbrev P_term : List Str := ["state", "signs", "names", "room"]
theorem sc_term : FnScope N_term P_term (defScope s_term) := ⟨rfl, rfl, rfl, by decide +kernel, rfl, by decide +kernel, by decide +kernel⟩

theorem turn_term {lvl : Nat} (F : FnP K "_law_term" s_term f fd) (hm : mg "_law_term" = some (.ref f)) (Z : Zs mg) (c_next : Cal P w K mg base 1 "_law_next" spNext []) (c_term : Cal P w K mg base (lvl + 2) "_law_term" (spTerm K lvl) []) :
    Cal P w K mg base (lvl + 3) "_law_term" (spTerm K (lvl + 1)) [] := by
  refine mk_cal F hm sc_term (fun _ _ _ _ _ _ us hl => match us, hl with | [_, _, _, _], _ => rfl) (fun vs H Q E h => ?_) (fun cdv A outer s H vs Q E hr h => ?_)
  · obtain ⟨a, n, g, l, sg, nms, room, m, rfl, _⟩ := h
    rfl
  obtain ⟨a, n, g, l, sg, nms, room, m, rfl, st, hlt, hsg, gs, hl, hla, hnm, r1, rl, q⟩ := h
  refine ⟨_, (pss_cons (ps_set (i := 4) sc_term.nd rfl (by first | exact Or.inl rfl | exact Or.inr rfl) (C8.pe_c c_next hr (by first | decide | omega) rfl (pa_cons (pv 0) (pa_cons pe_int pa_nil))))
      (pss_cons (ps_if (PW.pt (pw_and (pt_cmpR op_gt (pe_callB call_len_seq (by rfl) Z.len (by decide +kernel) (pa_cons (pv 2) pa_nil)) pe_int (nomark _)) (pw_and (PW.pt (pw_or (pt_cmpR op_le (pv 3) pe_int (nomark _)) (pw_or1 (pt_cmpR op_eq (pe_op op_mod (pv 4) pe_int) pe_int (nomark _))))) (pw_and1 (pt_cmpR op_gt (pe_op op_mod (pe_op op_fdiv (pv 4) pe_int) pe_int) pe_int (nomark _)))))) (pss_one (ps_ret (pe_ix ix_list (pv 2) (pe_op op_mod (pe_op op_fdiv (pv 4) pe_int) (pe_callB call_len_seq (by rfl) Z.len (by decide +kernel) (pa_cons (pv 2) pa_nil))) (fun _ _ => rfl)))) pss_nil)
      (pss_cons (ps_setLc (i := 5) (own := [("one", 10)]) (g := (gName 10)) (tt := (tAnd (tTest (tOp _ (tOp (rIxT K) (tVar 10) _) (tVar 3))) (tOr (tTest (tOp _ (tOp (rIxT K) (tVar 10) _) _)) (tOr (tTest (tOp _ (tVar 3) _)) (tTest (tOp _ (tOp _ (tVar 4) _) _)))))) (te := (tVar 10)) rfl sc_term.nd rfl rfl (sw_true rfl rfl rfl (by decide +kernel)) (pi_tup (pv 1)) (blkOk_by (N := N_term) (sc := defScope s_term) (by decide +kernel)) (fun _ _ _ _ _ => by exact (pg_name (i := 10) sc_term.nd rfl (Or.inl rfl))) (fun _ _ _ _ _ => by exact (pts_one (PW.pt (pw_and (pt_cmpR op_lt (pe_ix ix_tup (pv 10) pe_int (fun _ _ => rfl)) (pv 3) (nomark _)) (pw_and1 (PW.pt (pw_or (pt_cmpR op_gt (pe_ix ix_tup (pv 10) pe_int (fun _ _ => rfl)) pe_int (nomark _)) (pw_or (pt_cmpR op_le (pv 3) pe_int (nomark _)) (pw_or1 (pt_cmpR op_lt (pe_op op_mod (pv 4) pe_int) pe_int (nomark _))))))))))) (fun _ _ _ _ _ => by exact (pv 10)))
      (C8.pss_cut (ps_if (pt_cmpR op_eq (pe_callB call_len_seq (by rfl) Z.len (by decide +kernel) (pa_cons (pv 5) pa_nil)) pe_int (nomark _)) (pss_one (ps_setLc (i := 5) (own := [("one", 10)]) (g := (gName 10)) (tt := (tTest (tOp _ (tOp (rIxT K) (tVar 10) _) _))) (te := (tVar 10)) rfl sc_term.nd rfl rfl (sw_true rfl rfl rfl (by decide +kernel)) (pi_tup (pv 1)) (blkOk_by (N := N_term) (sc := defScope s_term) (by decide +kernel)) (fun _ _ _ _ _ => by exact (pg_name (i := 10) sc_term.nd rfl (Or.inl rfl))) (fun _ _ _ _ _ => by exact (pts_one (pt_cmpR op_eq (pe_ix ix_tup (pv 10) pe_int (fun _ _ => rfl)) pe_int (nomark _)))) (fun _ _ _ _ _ => by exact (pv 10)))) pss_nil)
      (pss_cons (ps_asg (pe_ix ix_list (pv 5) (C8.pe_c c_next hr (by first | decide | omega) rfl (pa_cons (pv 0) (pa_cons (pe_callB call_len_seq (by rfl) Z.len (by decide +kernel) (pa_cons (pv 5) pa_nil)) pa_nil))) (fun _ _ => rfl)) (pg_tup rfl (pgs_cons (pg_name (i := 6) sc_term.nd rfl (by first | exact Or.inl rfl | exact Or.inr rfl)) (pgs_cons (pg_name (i := 7) sc_term.nd rfl (by first | exact Or.inl rfl | exact Or.inr rfl)) pgs_nil))))
      (pss_cons (ps_if (pt_cmpR op_eq (pv 7) pe_int (nomark _)) (pss_one (ps_ret (pe_tup (pa_cons (pv 6) pa_nil)))) pss_nil)
      (pss_cons (ps_if (pt_cmpR op_eq (pv 7) pe_int (nomark _)) (pss_one (ps_ret (pe_tup (pa_cons (pv 6) (pa_cons (C8.pe_c c_term hr (by first | decide | omega) rfl (pa_cons (pv 0) (pa_cons (pv 1) (pa_cons (pv 2) (pa_cons (pe_op op_sub (pv 3) pe_int) pa_nil))))) pa_nil))))) pss_nil)
      (pss_cons (ps_set (i := 8) sc_term.nd rfl (by first | exact Or.inl rfl | exact Or.inr rfl) (pe_op op_add pe_int (C8.pe_c c_next hr (by first | decide | omega) rfl (pa_cons (pv 0) (pa_cons (pe_callB (call_max2 rfl) (by rfl) Z.max (by decide +kernel) (pa_cons pe_int (pa_cons (pe_op op_sub (pv 3) pe_int) pa_nil))) pa_nil)))))
      (pss_cons (ps_set (i := 9) sc_term.nd rfl (by first | exact Or.inl rfl | exact Or.inr rfl) (C8.pe_c c_term hr (by first | decide | omega) rfl (pa_cons (pv 0) (pa_cons (pv 1) (pa_cons (pv 2) (pa_cons (pv 8) pa_nil))))))
      (pss_one (ps_ret (pe_tup (pa_cons (pv 6) (pa_cons (pv 9) (pa_cons (C8.pe_c c_term hr (by first | decide | omega) rfl (pa_cons (pv 0) (pa_cons (pv 1) (pa_cons (pv 2) (pa_cons (pe_callB (call_max2 rfl) (by rfl) Z.max (by decide +kernel) (pa_cons pe_int (pa_cons (pe_op op_sub (pe_op op_sub (pv 3) pe_int) (pv 8)) pa_nil))) pa_nil))))) pa_nil))))))))))))))), ?_⟩
  refine ⟨_, rfl, a, n, 60, m, rfl, by decide, st, by omega, fun pk H1 p0 p60 f1 st1 => ?_⟩
  have hl1 : SqL K H1 l (nms.map V.str) := f1.seq hla hl
  dsimp only [gName, tSeq]
  refine TV.ifs (TV.and (fun Q q => ⟨_, rfl, l, _, rfl, .inl hl1, _, _, rfl, rfl, _, rfl, q⟩) (TV.and (TV.or (fun Q q => ⟨_, rfl, _, _, rfl, rfl, _, rfl, q⟩) (fun Q q => ⟨_, rfl, _, _, rfl, rfl, (by show (0 : Int) < 4; decide), rfl, _, rfl, q⟩))
    (fun Q q => ⟨_, rfl, _, _, rfl, rfl, ⟨by decide, by decide⟩, _, _, rfl, rfl, (by show (0 : Int) < 5; decide), _, _, rfl, rfl, _, rfl, q⟩))) (fun hb => ?_) (fun _ => ?_)
  · have hp : (0 : Int) < (((nms.map V.str).length : Nat) : Int) := of_decide_eq_true (Bool.and_eq_true_iff.mp hb).1
    have hk0 : 0 ≤ pk / 20 % (((nms.map V.str).length : Nat) : Int) := Int.emod_nonneg _ (by omega)
    have hk1 : pk / 20 % (((nms.map V.str).length : Nat) : Int) < (((nms.map V.str).length : Nat) : Int) := Int.emod_lt_of_pos _ hp
    have hk : (pk / 20 % (((nms.map V.str).length : Nat) : Int)).toNat < nms.length := by rw [List.length_map] at hk1 hk0 ⊢; omega
    have hat : atI (nms.map V.str) (pk / 20 % (((nms.map V.str).length : Nat) : Int)) = some (.str (nms[(pk / 20 % (((nms.map V.str).length : Nat) : Int)).toNat]'hk)) :=
      at_of (Int.toNat_of_nonneg hk0).symm (by rw [List.getElem?_map, List.getElem?_eq_getElem hk]; rfl)
    refine ⟨_, rfl, _, rfl, _, _, rfl, rfl, ⟨by decide, by decide⟩, _, rfl, l, _, rfl, .inl hl1, _, _, rfl, rfl, hp, l, _, _, _, rfl, rfl, hl1, hat, ?_⟩
    exact q _ (.nm _) H1 rfl (List.getElem_mem hk) (by show 1 ≤ room.toNat; omega) f1 (st1.mono (by omega))
  obtain ⟨rs, hS1, pr1⟩ := (hsg.keep (st.tk (K := K) f1)).ex
  dsimp only [tNext, tSeq, tAsg]
  refine rd_pick (i := 1) (j := 10) (C := fun s => s.2 < room) (Z := fun _ => False) (by rfl) hS1 pr1 (by have := gs.len; omega) (by intro _; rfl) (by intro _; rfl) (fun r s H' hr hs => ?_) (fun D H2 rs' sg' nD sm hD pr' hl' hc hz => ?_)
  · exact ⟨_, TV.and (fun Q q => ⟨_, rfl, r, _, 1, _, rfl, rfl, hr, rfl, _, rfl, _, _, rfl, rfl, _, rfl, q⟩) (TV.or (fun Q q => ⟨_, rfl, r, _, 1, _, rfl, rfl, hr, rfl, _, _, rfl, rfl, _, rfl, q⟩) (TV.or (fun Q q => ⟨_, rfl, _, _, rfl, rfl, _, rfl, q⟩)
      (fun Q q => ⟨_, rfl, _, _, rfl, rfl, (by show (0 : Int) < 4; decide), _, _, rfl, rfl, _, rfl, q⟩))), fun e => of_decide_eq_true (Bool.and_eq_true_iff.mp e).1, fun _ z => z⟩
  refine ⟨fun σ' H' => ∃ (D : Addr) (rs' : List Addr) (sg' : Sg), σ' = [some (.ref a), some (.ref g), some (.ref l), some (.int room), some (.int pk), some (.ref D), none, none, none, none, none] ∧ H' D = some (.lst (rs'.map V.ref)) ∧ SgR K H' rs' sg' ∧ sg' ≠ [] ∧ sg'.length ≤ 4 ∧
    (∀ s ∈ sg', s ∈ sg ∧ s.2 < room) ∧ D ≠ a ∧ Pg.Fr a H H' ∧ StA H' a n (m + 1), ?_, ?_⟩
  · refine ⟨_, rfl, D, _, rfl, .inl (SqL.mk hD), rfl, _, rfl, ite2 (fun he => ?_) (fun he => ?_)⟩
    · obtain ⟨rs2, hS2, pr2⟩ := ((hsg.keep (st.tk (K := K) f1)).keep (TK.same sm)).ex
      dsimp only [tAsg]
      refine rd_pick (i := 1) (j := 10) (C := fun s => s.2 = 0) (Z := fun s => s.2 = 0) (by rfl) hS2 pr2 (by have := gs.len; omega) (by intro _; rfl) (by intro _; rfl) (fun r s H' hr hs => ?_) (fun D2 H3 rs3 sg3 nD3 sm3 hD3 pr3 hl3 hc3 hz3 => ?_)
      · refine ⟨_, fun Q q => ⟨_, rfl, r, _, 1, _, rfl, rfl, hr, rfl, rfl, _, rfl, q⟩, fun e => ?_, fun e z => ?_⟩
        · exact V.int.inj (of_decide_eq_true e)
        · exact absurd (congrArg V.int z) (of_decide_eq_false e)
      · obtain ⟨c, hc0, ec⟩ := gs.c0
        exact ⟨D2, rs3, sg3, rfl, hD3, pr3, hz3 c hc0 ec, Nat.le_trans hl3 gs.len.2, fun s hs => ⟨(hc3 s hs).1, by rw [(hc3 s hs).2]; omega⟩, ((st1.same sm).ne nD3).1, f1.trans (Fr.of (sm.trans sm3)), (st1.same sm).same sm3⟩
    · refine ⟨D, rs', sg', rfl, hD, pr', fun z => ?_, Nat.le_trans hl' gs.len.2, hc, (st1.ne nD).1, f1.trans (Fr.of sm), st1.same sm⟩
      have e0 : rs' = [] := List.eq_nil_of_length_eq_zero (by rw [paired_len pr', z]; rfl)
      rw [e0] at he
      exact he (decide_eq_true rfl)
  rintro σ' H2 ⟨D, rs', sg', rfl, hD, pr', hne, hl4, hc, nDa, f2, st2⟩
  have hlr : (rs'.map V.ref).length = sg'.length := by rw [List.length_map, paired_len pr']
  have hpos : 0 < sg'.length := List.length_pos_iff.mpr hne
  refine ⟨_, rfl, _, rfl, _, rfl, D, _, rfl, .inl (SqL.mk hD), a, n, _, m + 1, rfl, by rw [hlr]; omega, st2, by omega, fun r H3 r0 r1' f3 st3 => ?_⟩
  rw [hlr] at r1'
  obtain ⟨k, rfl⟩ := Int.eq_ofNat_of_zero_le r0
  have hk : k < sg'.length := by omega
  have hD3 : H3 D = some (.lst (rs'.map V.ref)) := f3 _ _ nDa hD
  obtain ⟨rr, er, hrr⟩ := paired_get2 (SgR.keep (st2.tk (K := K) f3) pr') (List.getElem?_eq_getElem hk)
  have hcs := hc _ (List.getElem_mem hk)
  obtain ⟨s, har⟩ : ∃ s, sg'[k] = s := ⟨_, rfl⟩
  rw [har] at hrr hcs
  have ar := gs.ar s hcs.1
  refine ⟨D, _, _, _, rfl, rfl, SqL.mk hD3, atI_nat (v := V.ref rr) (by rw [List.getElem?_map, er]; rfl), rr, _, rfl, hrr, rfl, _, _, rfl, _, _, rfl, rfl, ?_⟩
  have F3 := f2.trans f3
  have tk3 : TK K H H3 := st.tk F3
  refine ⟨_, rfl, rfl, _, rfl, ite2 (fun e0 => ?_) (fun e0 => ?_)⟩
  · have e0 : s.2 = 0 := V.int.inj (of_decide_eq_true e0)
    refine ⟨_, rfl, (by show 1 ≤ sizeLine; decide), fun p np => ?_⟩
    refine q _ (.c0 s.1) _ ⟨p, rfl, SqT.mk upd_same⟩ ?_ (by show 1 ≤ room.toNat; omega) (F3.trans (Fr.new np)) ((st3.new np).mono (by omega))
    exact mem_ar hcs.1 e0
  have e0' : s.2 ≠ 0 := fun z => e0 (decide_eq_true (congrArg V.int z))
  refine ⟨_, rfl, rfl, _, rfl, ite2 (fun e1 => ?_) (fun e1 => ?_)⟩
  · have e1 : s.2 = 1 := V.int.inj (of_decide_eq_true e1)
    refine ⟨_, rfl, _, rfl, _, rfl, _, rfl, _, rfl, _, _, rfl, rfl, a, n, g, l, sg, nms, room - 1, m + 2, rfl, st3.mono (by omega), by omega, hsg.keep tk3, gs, F3.seq hla hl, hla, hnm, by omega, by omega, fun v t H4 ht hw hz f4 st4 => ?_⟩
    refine ⟨(by show 2 ≤ sizeLine; decide), fun p np => ?_⟩
    refine q _ (.c1 s.1 t) _ ⟨p, v, rfl, SqT.mk upd_same, TrAt.keep (TK.new np) ht⟩ ⟨?_, hw⟩ (by show 1 + t.size ≤ room.toNat; omega) (F3.trans (f4.trans (Fr.new np))) ((st4.new np).mono (by omega))
    exact mem_ar hcs.1 e1
  have e2 : s.2 = 2 := by
    have : s.2 ≠ 1 := fun z => e1 (decide_eq_true (congrArg V.int z))
    omega
  refine ⟨_, rfl, _, rfl, _, _, rfl, rfl, _, _, rfl, a, n, _, m + 2, rfl, by split <;> omega, st3.mono (by omega), by omega, fun r H4 r0 r1 f4 st4 => ?_⟩
  have hr2 : r ≤ room - 3 := by split at r1 <;> omega
  refine ⟨_, _, rfl, rfl, ?_⟩
  have F4 := F3.trans f4
  refine ⟨_, rfl, _, rfl, _, rfl, _, rfl, a, n, g, l, sg, nms, 1 + r, m + 3, rfl, st4.mono (by omega), by omega, hsg.keep (st.tk F4), gs, F4.seq hla hl, hla, hnm, by omega, by omega, fun v t H5 ht hw hz f5 st5 => ?_⟩
  have F5 := F4.trans f5
  have hmx : (if room - 1 - (1 + r) > 1 then room - 1 - (1 + r) else 1) = room - 1 - (1 + r) := by split <;> omega
  refine ⟨_, rfl, _, rfl, _, rfl, _, rfl, _, rfl, _, rfl, _, _, rfl, rfl, _, rfl, _, _, rfl, rfl, _, _, rfl, a, n, g, l, sg, nms, _, m + 3 + 3 * (1 + r), rfl, st5, by rw [hmx]; omega, hsg.keep (st.tk F5), gs, F5.seq hla hl, hla, hnm, by rw [hmx]; omega, by rw [hmx]; omega, fun v2 t2 H6 ht2 hw2 hz2 f6 st6 => ?_⟩
  rw [hmx] at hz2 st6
  refine ⟨(by show 3 ≤ sizeLine; decide), fun p np => ?_⟩
  refine q _ (.c2 s.1 t t2) _ ⟨p, v, v2, rfl, SqT.mk upd_same, TrAt.keep (TK.new np) (TrAt.keep (st5.tk f6) ht), TrAt.keep (TK.new np) ht2⟩ ⟨?_, hw, hw2⟩ (by show 1 + t.size + t2.size ≤ room.toNat; omega) (F5.trans (f6.trans (Fr.new np))) ((st6.new np).mono (by omega))
  exact mem_ar hcs.1 e2
theorem ok_term (F : FnP K "_law_term" s_term f fd) (hm : mg "_law_term" = some (.ref f)) (Z : Zs mg) (c_next : Cal P w K mg base 1 "_law_next" spNext []) : ∀ lvl : Nat, Cal P w K mg base (lvl + 2) "_law_term" (spTerm K lvl) []
  | 0 => mk_none (ps := P_term) F hm (fun _ _ _ _ _ _ us hl => match us, hl with | [_, _, _, _], _ => rfl) (fun vs H Q E h => by
    obtain ⟨a, n, g, l, sg, nms, room, m, _, _, _, _, _, _, _, _, r1, rl, _⟩ := h
    omega)
  | lvl + 1 => turn_term F hm Z c_next (ok_term F hm Z c_next lvl)
end
end K03

set_option Elab.async false
set_option linter.all false
set_option maxRecDepth 100000
set_option maxHeartbeats 4000000
namespace K03
open PySem PySem.Spec PyProof.Rows L2 Pg
section
variable {P : Program} {w : World} {K : PySem.W.Frag} {mg : Str → Option Value} {base : Heap} {f : Addr} {fd : FuncData} {rsa : Addr}
abbrev s_nodes : Stmt := top 12
abbrev N_nodes : List Str := ["value", "most", "nodes", "waiting", "node"]
abbrev P_nodes : List Str := ["value", "most"]
theorem sc_nodes : FnScope N_nodes P_nodes (defScope s_nodes) := ⟨rfl, rfl, rfl, by decide +kernel, rfl, by decide +kernel, by decide +kernel⟩

theorem body_nodes (Z : Zs mg) (cdv : Value) (A : Around) (outer : List Env) (s : Shared) (H : Hp) (vs : List V) (Q : VK) (E : XK) (hr : Room 0 (A.deeper (envOfC "nodes_of" (defScope s_nodes) s.heap.objs.size f cdv))) (h : spNds K vs H Q E) :
    ∃ t, PSs (cxOf CX0 P w K mg base N_nodes "nodes_of" (defScope s_nodes) f cdv A outer s H E).nox (defBody s_nodes) t ∧ t { nx := fun _ H' => Q .non H', rt := Q } (start N_nodes vs) H := by
  obtain ⟨v, d, o, rfl, hd, hn, hz, q⟩ := h
  refine ⟨_, (pss_cons (ps_set (i := 2) sc_nodes.nd rfl (by first | exact Or.inl rfl | exact Or.inr rfl) (pe_lst pa_nil))
      (pss_cons (ps_set (i := 3) sc_nodes.nd rfl (by first | exact Or.inl rfl | exact Or.inr rfl) (pe_lst (pa_cons (pv 0) pa_nil)))
      (pss_cons (ps_while PassesOwn.never (PW.pt (pw_and (pt_truth (pv 3) (fun _ => rfl)) (pw_and1 (PW.pt (pw_or (pt_cmpR op_isN (pv 1) pe_non (nomark _)) (pw_or1 (pt_cmpR op_lt (pe_callB call_len_seq (by rfl) Z.len (by decide +kernel) (pa_cons (pv 2) pa_nil)) (pv 1) (nomark _)))))))) (pss_cons (ps_set (i := 4) sc_nodes.nd rfl (by first | exact Or.inl rfl | exact Or.inr rfl) (pe_bm0 PySem.F.plainAttrs_list PySem.F.slot_list_pop PySem.F.type_list_pop mt_pop (pv 3)))
      (pss_cons (ps_expr (pe_bm PySem.F.plainAttrs_list PySem.F.slot_list_append PySem.F.type_list_append mt_append (pv 2) (pa_cons (pv 4) pa_nil)))
      (pss_one (ps_if (pt_val (pe_callB call_isi (by rfl) Z.isinstance (by decide +kernel) (pa_cons (pv 4) (pa_cons (pe_bltn (v := .ty "tuple") rfl Z.tuple (by decide +kernel) rfl) pa_nil)))) (pss_one (ps_expr (pe_bm PySem.F.plainAttrs_list PySem.F.slot_list_extend PySem.F.type_list_extend mt_extT (pv 3) (pa_cons (pe_down (pv 4)) pa_nil)))) pss_nil)))))
      (pss_one (ps_ret (pv 2)))))), ?_⟩
  refine ⟨by decide, fun fl nfl => ?_⟩
  refine ⟨_, rfl, (by show 1 ≤ sizeLine; decide), fun wl nwl => ?_⟩
  have nwf : wl ≠ fl := (ne_of_none upd_same nwl).symm
  have nwl0 : H wl = none := same_free (Same.new nfl) nwl
  dsimp only [tSeq, gName]
  refine while_tv (fun m σ H' => ∃ (nv : Option V) (ds ws : List V) (dt wt : List PyData), σ = [some v, some (mostV o), some (.ref fl), some (.ref wl), nv] ∧ H' fl = some (.lst ds) ∧ H' wl = some (.lst ws) ∧ NsAt K H' ds dt ∧ NsAt K H' ws wt ∧ dt ++ wt.reverse.flatMap preD = preD d ∧ (∀ m, o = some m → dt.length ≤ m) ∧ m = (wt.map fun d => (preD d).length).sum ∧ Same H H')
    ⟨_, none, [], [v], [], [d], rfl, by rw [upd_ne nwf.symm]; exact upd_same, upd_same, .nil, .cons ⟨dp_tk ((TK.new nfl).trans (TK.new nwl)) _ _ hn hd, hn⟩ .nil, by simp, fun _ _ => Nat.zero_le _, rfl, (Same.new nfl).trans (Same.new nwl)⟩ ?_
  rintro m σ H1 ⟨nv, ds, ws, dt, wt, rfl, hf, hwl, hds, hws, heq, hlim, rfl, sm⟩
  have lds := paired_len hds
  refine ⟨!ws.isEmpty && (match o with | none => true | some m => decide (ds.length < m)), TV.and (fun Q q => ⟨_, rfl, !ws.isEmpty, .inl ⟨ws, SqL.mk hwl, rfl⟩, q⟩) ?_, fun e => ?_, fun e => ?_⟩
  · cases o with
    | none => exact TV.or_left (fun Q q => ⟨_, rfl, rfl, _, rfl, q⟩)
    | some m => exact TV.or (a := false) (fun Q q => ⟨_, rfl, rfl, _, rfl, q⟩) (fun Q q => ⟨_, rfl, fl, _, rfl, .inl (SqL.mk hf), _, rfl, _, _, rfl, rfl, _, rfl, by rw [show decide (((ds.length : Nat) : Int) < ((m : Nat) : Int)) = decide (ds.length < m) by rw [Bool.eq_iff_iff, decide_eq_true_iff, decide_eq_true_iff]; omega]; exact q⟩)
  · rw [Bool.and_eq_true] at e
    have hlen := congrArg List.length heq
    rw [List.length_append, flat_lenD, sum_revD] at hlen
    rcases List.eq_nil_or_concat wt with rfl | ⟨wt', k, ewt⟩
    · cases hws
      cases e.1
    · rw [List.concat_eq_append] at ewt
      subst ewt
      obtain ⟨ws', y, rfl, hws', hy, hnk⟩ := paired_snoc hws
      have hsum : ((wt' ++ [k]).map fun d => (preD d).length).sum = (wt'.map fun d => (preD d).length).sum + (preD k).length := by rw [List.map_append, List.sum_append]; simp
      have hkpos := preD_pos k
      refine ⟨_, rfl, .inl ⟨rfl, _, SqL.mk hwl⟩, wl, _, y, rfl, rfl, hwl, ?_, ?_⟩
      · rw [List.length_append, List.length_singleton, Nat.add_sub_cancel, List.getElem?_append_right (Nat.le_refl _), Nat.sub_self]; rfl
      rw [List.dropLast_concat]
      have tkw : TK K H1 (upd H1 wl (.lst ws')) := TK.put hwl
      have hf1 : (upd H1 wl (.lst ws')) fl = some (.lst ds) := by rw [upd_ne nwf.symm]; exact hf
      refine ⟨_, rfl, .inl ⟨rfl, _, SqL.mk hf1⟩, _, rfl, fl, _, _, rfl, rfl, hf1, by rw [lds]; exact smallN (by omega), ?_⟩
      have tkf : TK K (upd H1 wl (.lst ws')) (upd (upd H1 wl (.lst ws')) fl (.lst (ds ++ [y]))) := TK.put hf1
      have hwl2 : (upd (upd H1 wl (.lst ws')) fl (.lst (ds ++ [y]))) wl = some (.lst ws') := by rw [upd_ne nwf]; exact upd_same
      have tk2 := tkw.trans tkf
      have hlim2 : ∀ m, o = some m → dt.length + 1 ≤ m := fun m em => by
        subst em
        have := of_decide_eq_true e.2
        omega
      have heq2 : dt ++ [k] ++ ((preD k).drop 1 ++ wt'.reverse.flatMap preD) = preD d := by
        rw [← heq, List.reverse_append, List.reverse_singleton, List.flatMap_append]
        have : [k].flatMap preD = k :: (preD k).drop 1 := by
          rw [List.flatMap_cons, List.flatMap_nil, List.append_nil]
          cases k <;> first | rfl | (rw [preD_tup]; rfl)
        rw [this]
        simp
      have smF : Same H (upd (upd H1 wl (.lst ws')) fl (.lst (ds ++ [y]))) := Same.mut nfl (Same.mut nwl0 sm)
      cases k with
      | str x =>
        have ey : y = .str x := by cases hy; rfl
        subst ey
        refine ⟨_, rfl, _, _, .type "str", .type "tuple", false, rfl, .ty "tuple", .base (.str x), kit_ty (by decide +kernel), _, rfl, ite2 (fun z => by cases z) (fun _ => ?_)⟩
        exact ⟨_, by omega, _, ds ++ [.str x], ws', dt ++ [.str x], wt', rfl, upd_same, hwl2, paired_app (hds.keep tk2) (.cons ⟨.str x, rfl⟩ .nil), NsAt.keep tk2 hws', by rw [← heq2, preD_str]; simp, fun m em => by rw [List.length_append]; exact hlim2 m em, rfl, smF⟩
      | tuple ks =>
        cases hy with
        | @tup p us _ hq ha =>
          have nsk := ns_of ha hnk
          have hq2 := tk2 _ _ hq
          refine ⟨_, rfl, _, _, .type "tuple", .type "tuple", true, rfl, .ty "tuple", tyX_tup hq2, kit_ty (by decide +kernel), _, rfl, ite2 (fun _ => ?_) (fun z => absurd rfl z)⟩
          refine ⟨_, rfl, .inl ⟨rfl, _, SqL.mk hwl2⟩, _, rfl, p, _, rfl, hq2, fun r nr => ?_⟩
          have hwl3 : (upd (upd (upd H1 wl (.lst ws')) fl (.lst (ds ++ [V.ref p]))) r (.tup (us.drop 1).reverse)) wl = some (.lst ws') := by rw [upd_ne (ne_of_none hwl2 nr)]; exact hwl2
          have hkl : ((preD (.tuple ks)).drop 1).length = ((ks.drop 1).map fun d => (preD d).length).sum := by rw [preD_tup]; show ((ks.drop 1).flatMap preD).length = _; rw [flat_lenD]
          have hk1 := mul_len_le (ds := ks.drop 1)
          have hkl2 : (preD (.tuple ks)).length = 1 + ((ks.drop 1).map fun d => (preD d).length).sum := by rw [preD_tup, List.length_cons, flat_lenD]; omega
          have hwl' := paired_len hws'
          have hw1 := mul_len_le (ds := wt')
          have hdl := paired_len nsk.drop1
          refine ⟨wl, r, _, _, rfl, rfl, hwl3, SqT.mk upd_same, ?_, ?_⟩
          · show ws'.length + ((us.drop 1).reverse).length ≤ sizeLine
            rw [List.length_reverse, hwl', hdl]
            exact Nat.le_of_lt (smallN (by omega))
          have tk4 := tk2.trans ((TK.new (o := .tup (us.drop 1).reverse) nr).trans (TK.put (o := .lst (ws' ++ (us.drop 1).reverse)) hwl3))
          have hf2 : (upd (upd (upd H1 wl (.lst ws')) fl (.lst (ds ++ [V.ref p]))) r (.tup (us.drop 1).reverse)) fl = some (.lst (ds ++ [V.ref p])) := by rw [upd_ne (ne_of_none upd_same nr)]; exact upd_same
          refine ⟨(wt'.map fun d => (preD d).length).sum + ((ks.drop 1).map fun d => (preD d).length).sum, by omega, _, ds ++ [V.ref p], ws' ++ (us.drop 1).reverse, dt ++ [.tuple ks], wt' ++ (ks.drop 1).reverse, rfl, by rw [upd_ne nwf.symm]; exact hf2, upd_same, ?_, ?_, ?_, fun m em => by rw [List.length_append]; exact hlim2 m em, ?_, ?_⟩
          · exact paired_app (hds.keep tk4) (.cons ⟨dp_tk tk4 _ _ hnk (.tup hq ha), hnk⟩ .nil)
          · exact paired_app (NsAt.keep tk4 hws') (paired_rev ((nsk.drop1).keep tk4))
          · rw [← heq2, List.reverse_append, List.reverse_reverse, List.flatMap_append, preD_tup]
            rfl
          · rw [List.map_append, List.sum_append, sum_revD]
          · exact Same.mut nwl0 (smF.trans (Same.new nr))
      | none => cases hnk
      | bool _ => cases hnk
      | int _ => cases hnk
      | list _ => cases hnk
      | dict _ => cases hnk
  · have hmost : dt = most d o := by
      rw [Bool.and_eq_false_iff] at e
      rcases e with e | e
      · have : ws = [] := by
          cases ws with
          | nil => rfl
          | cons a b => cases e
        subst this
        cases hws
        rw [List.reverse_nil, List.flatMap_nil, List.append_nil] at heq
        subst heq
        cases o with
        | none => rfl
        | some m => exact (List.take_of_length_le (hlim m rfl)).symm
      · cases o with
        | none => cases e
        | some m =>
          have e := of_decide_eq_false e
          have := hlim m rfl
          show dt = (preD d).take m
          rw [← heq, List.take_append_of_le_length (by omega), List.take_of_length_le (by omega)]
    rw [hmost] at hds
    exact ⟨_, rfl, q fl H1 ds nfl sm hf hds⟩
theorem ok_nodes1 (F : FunD K "nodes_of" "nodes_of" (defArgs s_nodes) (defBody s_nodes) (defScope s_nodes) [.non] [] f fd) (hm : mg "nodes_of" = some (.ref f)) (Z : Zs mg) : Cal P w K mg base 1 "nodes_of" (spNds K) [.non] :=
  mk_cal1 (n := 1) F hm sc_nodes rfl (fun _ _ _ _ _ _ _ us its h1 h2 => match us, its, h1, h2 with | [_], [_], _, _ => ⟨_, rfl, rfl⟩) (fun vs H Q E h => by obtain ⟨v, d, o, rfl, _⟩ := h; rfl) (fun cdv A outer s H vs Q E hr h => body_nodes Z cdv A outer s H vs Q E hr h)
theorem ok_nodes2 (F : FunD K "nodes_of" "nodes_of" (defArgs s_nodes) (defBody s_nodes) (defScope s_nodes) [.non] [] f fd) (hm : mg "nodes_of" = some (.ref f)) (Z : Zs mg) : Cal P w K mg base 1 "nodes_of" (spNds K) [] :=
  mk_cal2 (n := 2) F hm sc_nodes rfl (fun _ _ _ _ _ _ _ us its h1 h2 => match us, its, h1, h2 with | [_, _], [_], _, _ => ⟨_, rfl, rfl⟩) (fun vs H Q E h => by obtain ⟨v, d, o, rfl, _⟩ := h; rfl) (fun cdv A outer s H vs Q E hr h => body_nodes Z cdv A outer s H vs Q E hr h)
end
end K03

set_option Elab.async false
set_option linter.all false
set_option maxRecDepth 100000
set_option maxHeartbeats 4000000
namespace K03
open PySem PySem.Spec PyProof.Rows L2 Pg
section
variable {P : Program} {w : World} {K : PySem.W.Frag} {mg : Str → Option Value} {base : Heap} {f : Addr} {fd : FuncData} {rsa : Addr}
abbrev s_fold : Stmt := top 13
abbrev N_fold : List Str := ["term", "of_name", "of_sign", "done", "node", "parts", "_"]
abbrev P_fold : List Str := ["term", "of_name", "of_sign"]
theorem sc_fold : FnScope N_fold P_fold (defScope s_fold) := ⟨rfl, rfl, rfl, by decide +kernel, rfl, by decide +kernel, by decide +kernel⟩

theorem ok_fold {j : Nat} {Ok : Tr → Prop} {R : Hp → Tr → V → Prop} (mono : ∀ H H' t r, TK K H H' → R H t r → R H' t r) (F : FnP K "fold" s_fold f fd) (hm : mg "fold" = some (.ref f)) (Z : Zs mg) (c_nodes : Cal P w K mg base 1 "nodes_of" (spNds K) [.non]) : Cal P w K mg base (j + 2) "fold" (spFold P w K mg base (j + 1) Ok R) [] := by
  refine mk_cal F hm sc_fold (fun _ _ _ _ _ _ us hl => match us, hl with | [_, _, _], _ => rfl) (fun vs H Q E h => ?_) (fun cdv A outer s H vs Q E hr h => ?_)
  · obtain ⟨v, fn, fs, t, rfl, _⟩ := h
    rfl
  obtain ⟨v, fn, fs, t, rfl, ht, hz, hok, cn, cs, q⟩ := h
  refine ⟨_, (pss_cons (ps_set (i := 3) sc_fold.nd rfl (by first | exact Or.inl rfl | exact Or.inr rfl) (pe_lst pa_nil))
      (pss_cons (ps_for PassesOwn.never rfl (RT.pi_revA (by rfl) Z.reversed (C8.pe_c c_nodes hr (by first | decide | omega) rfl (pa_cons (pv 0) pa_nil))) (pg_name (i := 4) sc_fold.nd rfl (by first | exact Or.inl rfl | exact Or.inr rfl)) (pss_one (ps_if (pt_val (pe_callB call_isi (by rfl) Z.isinstance (by decide +kernel) (pa_cons (pv 4) (pa_cons (pe_bltn (v := .ty "tuple") rfl Z.tuple (by decide +kernel) rfl) pa_nil)))) (pss_cons (ps_setLc (i := 5) (own := [("_", 6)]) (g := (gName 6)) (tt := tYes) (te := (tBM0 K "list" rPop (tVar 3))) rfl sc_fold.nd rfl rfl (sw_true rfl rfl rfl (by decide +kernel)) (pi_tup (pe_slice sl_tupA (pv 4) (po_some pe_int) po_none)) (blkOk_by (N := N_fold) (sc := defScope s_fold) (by decide +kernel)) (fun _ _ _ _ _ => by exact (pg_name (i := 6) sc_fold.nd rfl (Or.inl rfl))) (fun _ _ _ _ _ => by exact pts_nil) (fun _ _ _ _ _ => by exact (pe_bm0 PySem.F.plainAttrs_list PySem.F.slot_list_pop PySem.F.type_list_pop mt_pop (pv 3))))
      (pss_one (ps_expr (pe_bm PySem.F.plainAttrs_list PySem.F.slot_list_append PySem.F.type_list_append mt_append (pv 3) (pa_cons (pe_callV (k := j + 1) (i := 2) (sp := spOs Ok R) hr (Nat.le_refl _) rfl (by first | exact Or.inl rfl | exact Or.inr rfl) (pa_cons (pe_ix ix_tup (pv 4) pe_int (fun _ _ => rfl)) (pa_cons (pv 5) pa_nil))) pa_nil))))) (pss_one (ps_expr (pe_bm PySem.F.plainAttrs_list PySem.F.slot_list_append PySem.F.type_list_append mt_append (pv 3) (pa_cons (pe_callV (k := j + 1) (i := 1) (sp := spOn Ok R) hr (Nat.le_refl _) rfl (by first | exact Or.inl rfl | exact Or.inr rfl) (pa_cons (pv 4) pa_nil)) pa_nil)))))))
      (pss_one (ps_ret (pe_ix ix_list (pv 3) pe_int (fun _ _ => rfl)))))), ?_⟩
  refine ⟨by decide, fun dl ndl => ?_⟩
  refine ⟨_, rfl, v, trD t, none, rfl, tr_dp (ht.keep (TK.new ndl)), nest_tr t, by rw [preD_tr, List.length_map, pre_len]; exact hz, fun wl H1 ws nw sm1 hwl hws0 => ?_⟩
  have hws : KidsAt K H1 ws (pre t) := ns_kids (by rw [← preD_tr]; exact hws0)
  have hn : ws.length = t.size := by rw [paired_len hws, pre_len]
  have hpos := t.size_pos
  have nwd : wl ≠ dl := (ne_of_none upd_same nw).symm
  have hdl1 : H1 dl = some (.lst []) := sm1 _ _ upd_same
  have smH1 : Same H H1 := (Same.new ndl).trans sm1
  have back : ∀ {H' : Hp}, Fr dl H1 H' → Same H H' := fun fr b o hb => fr b o (fun e => by rw [e, ndl] at hb; cases hb) (smH1 _ _ hb)
  have two : ∀ {H' : Hp}, Fr dl H1 H' → TK K H1 H' := fun fr => TK.fr fr hdl1
  have up : ∀ {H' H'' : Hp} {rs : List V} {ks : List Tr}, TK K H' H'' → Paired (fun r k => R H' k r) rs ks → Paired (fun r k => R H'' k r) rs ks := fun k h => Paired.imp2 (fun _ _ z => mono _ _ _ _ k z) h
  refine ⟨wl, ws, rfl, .inl ⟨SqL.mk hwl, RT.for_Itv (K := K) (xs := ws) (fun i σ H' => ∃ (v4 v5 v6 : Option V) (rs : List V), σ = [some v, some fn, some fs, some (.ref dl), v4, v5, v6] ∧ H' dl = some (.lst rs) ∧ Paired (fun r k => R H' k r) rs (restN (ws.length - i) [t]).reverse ∧ Fr dl H1 H')
    ⟨none, none, none, [], rfl, hdl1, ?_, Fr.refl⟩ (fun i σ H' ⟨_, _, _, _, _, _, _, fr⟩ => SqL.mk (fr _ _ nwd hwl)) ?_ ?_⟩⟩
  · rw [Nat.sub_zero, hn, restN_end t]; exact .nil
  · rintro i x σ Hc hi hx ⟨v4, v5, v6, rs, rfl, hdl, hrs, fr⟩
    obtain ⟨k, ek, hk⟩ := Pg.paired_get hws hx
    obtain ⟨jj, ej⟩ : ∃ jj, jj = ws.length - 1 - i := ⟨_, rfl⟩
    have ej1 : ws.length - i = jj + 1 := by omega
    have ej2 : ws.length - (i + 1) = jj := by omega
    rw [← ej] at ek
    rw [ej1] at hrs
    obtain ⟨G, eG⟩ := restN_at ek
    have eR : restN (jj + 1) [t] = k.kids ++ G := by show rest (restN jj [t]) = _; rw [eG]; rfl
    rw [eR] at hrs
    have hGl : G.length + 1 ≤ t.size := by
      have h2 : (restN jj [t]).flatMap pre = (pre t).drop jj := by rw [restN_flat, List.flatMap_cons]; simp
      have h3 := congrArg List.length h2
      rw [eG, flat_len, List.length_drop, pre_len] at h3
      have h4 := len_le_sum (k :: G)
      rw [List.length_cons] at h4
      omega
    have hkc := TrAt.keep (two fr) hk
    rcases hkc.split with ⟨x0, rfl, rfl⟩ | ⟨nk, p, us, rfl, hS, hkids⟩
    · refine ⟨_, rfl, _, _, .type "str", .type "tuple", false, rfl, .ty "tuple", .base (.str x0), kit_ty (by decide +kernel), _, rfl, ite2 (fun z => by cases z) (fun _ => ?_)⟩
      refine ⟨_, rfl, .inl ⟨rfl, _, SqL.mk hdl⟩, fn, rfl, cn.keep (back fr), _, rfl, (fun _ _ h => h), x0, rfl, hok _ (List.mem_of_getElem? ek), fun r H5 s5 hr5 => ?_⟩
      have hdl5 := s5 _ _ hdl
      have lrs := paired_len hrs
      refine ⟨dl, _, _, rfl, rfl, hdl5, by rw [lrs, List.length_reverse]; show G.length < sizeLine; exact smallN (by omega), ?_⟩
      have tk5 : TK K Hc (upd H5 dl (.lst (rs ++ [r]))) := (TK.same s5).trans (TK.put hdl5)
      refine ⟨_, _, _, rs ++ [r], rfl, upd_same, ?_, fr.trans ((Fr.of s5).trans Fr.own)⟩
      rw [ej2, eG, List.reverse_cons]
      exact paired_app (up tk5 hrs) (.cons (mono _ _ _ _ (TK.put hdl5) hr5) .nil)
    · refine ⟨_, rfl, _, _, .type "tuple", .type "tuple", true, rfl, .ty "tuple", tyX_tup hS, kit_ty (by decide +kernel), _, rfl, ite2 (fun _ => ?_) (fun z => absurd rfl z)⟩
      have hul := paired_len hkids
      have hkl := k.kids_le
      dsimp only [tSeq, tAsg]
      refine it_tail (i := 4) rfl hS _ (fun q2 H2 sm2 hS2 D nD => ?_)
      have hdl2 := sm2 _ _ hdl
      have nDd : D ≠ dl := (ne_of_none hdl2 nD).symm
      refine lc_tup (K := K) (xs := us) (fun m H' => ∃ (rs1 ps : List V), H' dl = some (.lst rs1) ∧ Paired (fun r k => R H' k r) rs1 ((k.kids.drop m) ++ G).reverse ∧ H' D = some (.lst ps) ∧ Paired (fun r k => R H' k r) ps (k.kids.take m) ∧ Fr dl H2 H')
        ⟨rs, [], by rw [upd_ne nDd.symm]; exact hdl2, up ((TK.same sm2).trans (TK.new nD)) hrs, upd_same, .nil, Fr.new nD⟩ (fun m H' _ ⟨_, _, _, _, _, _, fr2⟩ => TK.fr fr2 hdl2 _ _ hS2) (fun m y H' hy iv => ?_) (fun H' iv => ?_)
      · obtain ⟨rs1, ps, h1, p1, h2, p2, fr2⟩ := iv
        obtain ⟨c, ec, _⟩ := Pg.paired_get hkids hy
        have hlt : m < k.kids.length := (List.getElem?_eq_some_iff.mp ec).1
        have ed : k.kids.drop m = c :: k.kids.drop (m + 1) := by
          rw [List.drop_eq_getElem_cons hlt]
          congr 1
          exact (List.getElem?_eq_some_iff.mp ec).2
        rw [ed, List.cons_append, List.reverse_cons] at p1
        obtain ⟨rs2, r, rfl, p1', hr1⟩ := paired_snoc p1
        refine ⟨rfl, yes_turn ?_⟩
        refine ⟨_, rfl, .inl ⟨rfl, _, SqL.mk h1⟩, dl, _, r, rfl, rfl, h1, ?_, ?_⟩
        · rw [List.length_append, List.length_singleton, Nat.add_sub_cancel, List.getElem?_append_right (Nat.le_refl _), Nat.sub_self]; rfl
        rw [List.dropLast_concat]
        have hD4 : (upd H' dl (.lst rs2)) D = some (.lst ps) := by rw [upd_ne nDd]; exact h2
        have lps := paired_len p2
        have tkA : TK K H' (upd (upd H' dl (.lst rs2)) D (.lst (ps ++ [r]))) := (TK.put h1).trans (TK.put hD4)
        refine ⟨ps, hD4, by rw [lps, List.length_take]; exact smallN (by omega), rs2, ps ++ [r], by rw [upd_ne nDd.symm]; exact upd_same, up tkA p1', upd_same, ?_, (fr2.trans Fr.own).mut nD⟩
        rw [take_snoc ec]
        exact paired_app (up tkA p2) (.cons (mono _ _ _ _ tkA hr1) .nil)
      · obtain ⟨rs1, ps, h1, p1, h2, p2, fr2⟩ := iv
        rw [hul, List.drop_length, List.nil_append] at p1
        rw [hul, List.take_length] at p2
        have frc : Fr dl Hc H' := (Fr.of sm2).trans fr2
        have hS' := TK.fr frc hdl _ _ hS
        refine ⟨_, rfl, .inl ⟨rfl, _, SqL.mk h1⟩, fs, rfl, cs.keep (back (fr.trans frc)), _, rfl, p, _, 0, _, rfl, rfl, hS', at0 _ _, _, rfl, (fun _ _ h => h), k, D, ps, rfl, nk, hok _ (List.mem_of_getElem? ek), h2, p2, fun r H5 s5 hr5 => ?_⟩
        have hdl5 := s5 _ _ h1
        have lrs := paired_len p1
        refine ⟨dl, _, _, rfl, rfl, hdl5, by rw [lrs, List.length_reverse]; exact smallN (by omega), ?_⟩
        have tk5 : TK K H' (upd H5 dl (.lst (rs1 ++ [r]))) := (TK.same s5).trans (TK.put hdl5)
        refine ⟨_, _, _, rs1 ++ [r], rfl, upd_same, ?_, fr.trans (frc.trans ((Fr.of s5).trans Fr.own))⟩
        rw [ej2, eG, List.reverse_cons]
        exact paired_app (up tk5 p1) (.cons (mono _ _ _ _ (TK.put hdl5) hr5) .nil)
  · rintro σ H2 ⟨v4, v5, v6, rs, rfl, hdl, hrs, fr⟩
    rw [Nat.sub_self] at hrs
    cases (show Paired (fun r k => R H2 k r) rs [t] from hrs) with
    | cons a b =>
      cases b
      exact ⟨_, rfl, dl, _, 0, _, rfl, rfl, SqL.mk hdl, at0 _ _, q _ H2 (back fr) a⟩
end
end K03

set_option Elab.async false
set_option linter.all false
set_option maxRecDepth 100000
set_option maxHeartbeats 4000000
namespace Pg
open PySem PySem.Spec PyProof.Rows L2 LamX NdefX
/-! ### lambdas with captured names; promises told of the very state -/
def LamOC (f : Addr) (F : NF) (body : Expr) : HO := .ext fun h => ∃ pm ctv : Value, h.get? f = some (PySem.W.kla_obj "<lambda>" F.qual F.params body F.scope F.cl pm F.c ctv)
theorem lamOC_ok {Pr : Program} {w : World} {H : Hp} {h : Heap} {f : Addr} {F : NF} {body : Expr} {pm ctv : Value} (e : h.get? f = some (PySem.W.kla_obj "<lambda>" F.qual F.params body F.scope F.cl pm F.c ctv)) : ObjOk Pr w H h f (LamOC f F body) :=
  ⟨⟨pm, ctv, e⟩, ⟨_, e⟩, fun h1 h2 ⟨p, t, z⟩ st => ⟨p, t, st _ z⟩⟩
def lamF (X : Cx) (params : Arguments) (scope : Scope) (c' : Addr) : NF := ⟨"<lambda>", X.env.qual ++ "<lambda>", params, [], scope, cloFrom X.env.cells scope.names [], c'⟩
def tLamC (X : Cx) (P : Addr) (params : Arguments) (body : Expr) (scope : Scope) : TE := fun _ H Q => TabS H P (X.env.qual ++ "<lambda>") ∧ ∀ (f c' : Addr) (H1 : Hp), ButP P H H1 → TabS H1 P (X.env.qual ++ "<lambda>") → H f = none → H1 f = some (LamOC f (lamF X params scope c') body) → H1 c' = some (CodeO c' (X.env.qual ++ "<lambda>")) → Q (.ref f) H1
section
variable {X : Cx}
theorem pe_lamC {c P : Addr} {params : Arguments} {body : Expr} {scope : Scope} {pos : Pos} (TB : TabB X.base X.mg c P) (hcode : X.env.code = .ref c) (hdef : defaultsOf params X.env = ([], [])) (hk : ∀ y ∈ scope.names, y.2 = .free → X.env.scope.names.lookup y.1 = some .cell ∨ X.env.scope.names.lookup y.1 = some .free) :
    PE X (.Lambda params body scope pos) (tLamC X P params body scope) := by
  refine ⟨fun pins s σ H Q I h => ?_⟩
  have hfree : ∀ y ∈ scope.names, y.2 = .free → ∃ c, X.env.cells.lookup y.1 = some c := fun y hy e => (hk y hy e).elim (fun z => I.ok.has _ (.inl z)) fun z => I.ok.has _ (.inr z)
  obtain ⟨⟨ps, hP, ht, ha⟩, k⟩ := h
  refine PySem.W.kla_eval hdef ?_
  have tabAt : s.heap.get? P = some { cls := .none, data := .fields ps } := I.hok P _ hP
  cases hc : codeAmong pos ps.toList with
  | none =>
    refine PySem.W.kla_makeFunction (mg := X.mg) (c := c) (P := P) (ps := ps) (closure_ok hfree) I.ok.glob (I.mod.glob.keeps I.bk) hcode (TB.code.keeps I.bk) tabAt ht hc TB.gP (TB.bm.keeps I.bk) fun c' ctv h' tk hx hge hlt hrec htb => ?_
    obtain ⟨c2, oc, vs, t, e2, hoc, hd, hv⟩ := hrec
    cases e2
    have freeC : H c' = none := I.hok.fresh hge
    have J := inv_table (t' := tk) (more := #[rawInt pos.line, rawInt pos.col, .ref c']) (h' := h') (q := X.env.qual ++ "<lambda>") I hP (fun b o hb e => hx b o hb e) htb hge ⟨oc, vs, t, hoc, hd, hv⟩
    have nPc : P ≠ c' := ne_of_none hP freeC
    have freeF := J.hok.fresh (Nat.le_refl h'.objs.size)
    have J2 := J.laid (t' := tk) (a := h'.objs.size) (h' := h'.push (PySem.W.kla_obj "<lambda>" (X.env.qual ++ "<lambda>") params body scope (cloFrom X.env.cells scope.names []) ((X.mg "__name__").getD .none) c' ctv)) (fun b u e => Heap.get?_push_of_some _ e) (Nat.le_refl _) (lamOC_ok (f := h'.objs.size) (F := lamF X params scope c') (Heap.get?_push_size _ rfl))
    have kept : ButP P H (upd (upd (upd H P (.tbl (ps ++ #[rawInt pos.line, rawInt pos.col, .ref c']))) c' (CodeO c' (X.env.qual ++ "<lambda>"))) h'.objs.size (LamOC h'.objs.size (lamF X params scope c') body)) := fun b o nb e => by
      have e1 : upd (upd H P (.tbl (ps ++ #[rawInt pos.line, rawInt pos.col, .ref c']))) c' (CodeO c' (X.env.qual ++ "<lambda>")) b = some o := by rw [upd_ne (ne_of_none e freeC), upd_ne nb]; exact e
      rw [upd_ne (ne_of_none e1 freeF)]
      exact e1
    have hPF : P ≠ h'.objs.size := ne_of_none (show upd (upd H P (.tbl (ps ++ #[rawInt pos.line, rawInt pos.col, .ref c']))) c' (CodeO c' (X.env.qual ++ "<lambda>")) P = some (.tbl (ps ++ #[rawInt pos.line, rawInt pos.col, .ref c'])) by rw [upd_ne nPc]; exact upd_same) freeF
    have hcF : c' ≠ h'.objs.size := Nat.ne_of_lt hlt
    refine ⟨.ref h'.objs.size, _, J2, rfl, k _ c' _ kept ⟨ps ++ #[rawInt pos.line, rawInt pos.col, .ref c'], by rw [upd_ne hPF, upd_ne nPc]; exact upd_same, ?_, fun p' cv hcv => ?_⟩ (I.hok.fresh (Nat.le_trans hge (Nat.le_of_lt hlt))) upd_same (by rw [upd_ne hcF]; exact upd_same)⟩
    · rw [show (ps ++ #[rawInt pos.line, rawInt pos.col, Value.ref c']).toList = ps.toList ++ [rawInt pos.line, rawInt pos.col, .ref c'] by simp]
      exact PySem.TriplesOk_snoc _ _ _ _ ht
    · rw [show (ps ++ #[rawInt pos.line, rawInt pos.col, Value.ref c']).toList = ps.toList ++ [rawInt pos.line, rawInt pos.col, .ref c'] by simp] at hcv
      rcases among_app _ ht hcv with z | z
      · obtain ⟨c0, z1, z2⟩ := ha p' cv z
        have nc0 : c0 ≠ P := fun y => by
          rw [y, hP] at z2
          exact codeO_ne ps (Option.some.inj z2).symm
        exact ⟨c0, z1, kept _ _ nc0 z2⟩
      · exact ⟨c', z, by rw [upd_ne hcF]; exact upd_same⟩
  | some cv =>
    obtain ⟨c', e, hco⟩ := ha pos cv hc
    subst e
    refine PySem.W.kla_makeFunctionHit (mg := X.mg) (c := c) (P := P) (ps := ps) (closure_ok hfree) I.ok.glob (I.mod.glob.keeps I.bk) hcode (TB.code.keeps I.bk) tabAt ht hc (TB.bm.keeps I.bk) fun ctv h' tk hx hsz => ?_
    have J : Inv X pins σ H { s with heap := h', toks := tk } := I.kept hx
    have freeF := J.hok.fresh (Nat.le_refl h'.objs.size)
    have J2 := J.laid (t' := tk) (a := h'.objs.size) (h' := h'.push (PySem.W.kla_obj "<lambda>" (X.env.qual ++ "<lambda>") params body scope (cloFrom X.env.cells scope.names []) ((X.mg "__name__").getD .none) c' ctv)) (fun b u e => Heap.get?_push_of_some _ e) (Nat.le_refl _) (lamOC_ok (f := h'.objs.size) (F := lamF X params scope c') (Heap.get?_push_size _ rfl))
    have kept : ∀ b o, H b = some o → (upd H h'.objs.size (LamOC h'.objs.size (lamF X params scope c') body)) b = some o := fun b o e => by
      rw [upd_ne (ne_of_none e freeF)]
      exact e
    exact ⟨.ref h'.objs.size, _, J2, rfl, k _ c' _ (fun b o _ e => kept b o e) ⟨ps, kept _ _ hP, ht, fun p' cv hcv => let ⟨c0, z1, z2⟩ := ha p' cv hcv; ⟨c0, z1, kept _ _ z2⟩⟩ freeF upd_same (kept _ _ hco)⟩
end
/-- the promise of a lambda with captured names -/
structure LamNOk (P : Program) (w : World) (K : PySem.W.Frag) (mg : Str → Option Value) (base : Heap) (k : Nat) (F : NF) (body : Expr) (fr : List Str) (sp : List (Option V) → Sp) : Prop where
  run : ∀ (f : Addr) (A : Around) (outer : List Env) (s : Shared) (H : Hp) (us : List Value) (vs : List V) (ws : List (Option V)) (Q : VK), Room k A → Env0 P w K mg base A outer s H → H f = some (LamOC f F body) → H F.c = some (CodeO F.c F.qual) → CellsAt F.cl fr ws s.heap H → Vals vs us → sp ws vs H Q E0 →
    codeAny (model P w) A (.call (.ref f) ⟨us, []⟩) (CR CX0 outer P w H s Q E0) s
theorem lamn_ok {P : Program} {w : World} {K : PySem.W.Frag} {mg : Str → Option Value} {base : Heap} {k : Nat} {F : NF} {body : Expr} {N ps fr : List Str} {sp : List (Option V) → Sp} (S : NScope N ps fr F.scope)
    (hb : ∀ (pm ctv : Value) (us : List Value), us.length = ps.length → bindArgs (PySem.W.kla_fn "<lambda>" F.qual F.params body F.scope F.cl pm (.ref F.c) ctv) ⟨us, []⟩ = pure (ps.zip us)) (len : ∀ ws vs H Q E, sp ws vs H Q E → vs.length = ps.length)
    (hbody : ∀ (f : Addr) (A : Around) (outer : List Env) (s : Shared) (H : Hp) (vs : List V) (ws : List (Option V)) (Q : VK), Room k (A.deeper (envF F f s.heap.objs.size)) → ws.length = fr.length → sp ws vs H Q E0 →
      ∃ te, PE (ncx CX0 P w K mg base N F f A outer s H E0).nox body te ∧ te (startF N vs ws) H Q) : LamNOk P w K mg base (k + 1) F body fr sp := by
  refine ⟨fun f A outer s H us vs ws Q room env hf hc C rv hsp => ?_⟩
  obtain ⟨⟨pm, ctv, hobj⟩, _, _⟩ := env.hok f _ hf
  obtain ⟨⟨oc, fs, t, hoc, hdc, hvc⟩, _, _⟩ := env.hok F.c _ hc
  have lim : s.heap.NoLimit := env.mod.nolimit.keeps fun b o e => (env.bs b o e).1
  have hl := len _ _ _ _ _ hsp
  refine PySem.W.kla_callFunE room.depth hobj rfl S.co S.gen rfl ⟨F.c, oc, fs, t, rfl, hoc, hdc, hvc⟩ ?_
  rw [hb _ _ us (by rw [← rv.length]; exact hl)]
  refine wpAny_pure (wpAny_newFunctionEnv S.nocell (fun ⟨n, _⟩ hy => S.par n (List.of_mem_zip hy).1) (fun h₁ hns hsb => ⟨lim.fresh _ hsb, ?_⟩) S.kind)
  show codeAny _ _ (.expr body (envF F f s.heap.objs.size)) _ _
  have kp : ∀ b o, s.heap.get? b = some o → h₁.get? b = some o := fun b o e => hsb.extBut b o (Nat.ne_of_lt (Heap.lt_size e)) (Heap.get?_push_of_some _ e)
  obtain ⟨te, ht, hq⟩ := hbody f A outer s H vs ws Q (room.deeper _) C.len hsp
  have I : Inv (ncx CX0 P w K mg base N F f A outer s H E0) [] (startF N vs ws) H { s with heap := h₁, toks := s.toks + (ps.zip us).length } := inv_startN S room.hd env hl rv C hns kp
  refine PySem.W.kla_codeExpr (wpAny_mono (ht.nox.run [] _ (startF N vs ws) H Q I hq) (fun u s' hs => ?_) fun e s' hs => hs)
  obtain ⟨v, H', J, rv, q⟩ := hs
  exact ⟨v, H', J.os, J.bare, J.base, J.hok, rv, q⟩
theorem cells_un {cl : List (Str × Addr)} {fr : List Str} {ws : List (Option V)} {fs : List Addr} {h h1 : Heap} {H H1 : Hp} (c : CellsAt cl fr ws h H) (u : Un fs [] H H1 h h1) : CellsAt cl fr ws h1 H1 := by
  have mv : ∀ {c : Addr} {v : Option Value}, H c = none → h.IsCell c v → h1.IsCell c v := fun {c v} n ⟨o, ho, hd⟩ => by
    obtain ⟨sl, q⟩ := u.any ho n (by simp)
    exact ⟨_, q, hd⟩
  refine ⟨c.len, fun y a e => ?_, c.inj, fun i y e => ?_⟩
  · obtain ⟨n, v, o, ho, hd⟩ := c.all y a e
    exact ⟨u.free a o ho n (by simp), v, mv n ⟨o, ho, hd⟩⟩
  · obtain ⟨a, e1, z⟩ := c.has i y e
    refine ⟨a, e1, fun v hv => ?_⟩
    obtain ⟨x, r, q⟩ := z v hv
    exact ⟨x, r, mv (c.all y a e1).1 q⟩
/-- v may be called with this promise, by any state behind s -/
def CalS (P : Program) (w : World) (K : PySem.W.Frag) (mg : Str → Option Value) (base : Heap) (k : Nat) (sp : Sp) (s : Shared) (H : Hp) (v : V) : Prop :=
  Calb P w K mg base k sp H v ∨
  ∃ (f : Addr) (F : NF) (body : Expr) (fr : List Str) (ws : List (Option V)) (sp' : List (Option V) → Sp), v = .ref f ∧ LamNOk P w K mg base k F body fr sp' ∧ H f = some (LamOC f F body) ∧ H F.c = some (CodeO F.c F.qual) ∧ CellsAt F.cl fr ws s.heap H ∧ ∀ vs H1 Q E, Same H H1 → sp vs H1 Q E → sp' ws vs H1 Q E
theorem Calb.ext {P : Program} {w : World} {K : PySem.W.Frag} {mg : Str → Option Value} {base : Heap} {k : Nat} {sp : Sp} {H H' : Hp} {v : V} (s : ExtK H H') (c : Calb P w K mg base k sp H v) : Calb P w K mg base k sp H' v := by
  rcases c with c | ⟨f, c', q, pa, bo, sc, e, l, h1, h2⟩
  · exact .inl c
  · exact .inr ⟨f, c', q, pa, bo, sc, e, l, s _ _ h1, s _ _ h2⟩
theorem ExtK.of {H H' : Hp} (s : Same H H') : ExtK H H' := fun b φ h => s b _ h
section
variable {X : Cx} {k j i : Nat} {x : Str} {sp : Sp} {p pos : Pos} {e : Expr} {es : List Expr} {t : TA}
def tCallVS (X : Cx) (k i : Nat) (sp : Sp) (t : TA) : TE := fun σ H Q => ∃ v, σ[i]? = some (some v) ∧ CalS X.prog X.w X.K X.mg X.base k sp X.s_0 X.H_0 v ∧ Same X.H_0 H ∧ t σ H fun vs H1 => Same X.H_0 H1 ∧ sp vs H1 Q E0
theorem pe_callVS (hr : Room j X.A) (hk : k ≤ j) (hex : X.ex = []) (hN : X.N[i]? = some x) (hv : Vis X.env.scope x) (ha : PA X (e :: es) t)
    (hdb : (x == ("__debug__" : Str)) = false := by decide) (hcd : (x == ("__classdict__" : Str)) = false := by decide)
    (he : starEach (e :: es) X.env = (false, eval e X.env) :: starEach es X.env := by rfl) (hpl : (backTo pos (starEach es X.env)).any (·.1) = false := by rfl) :
    PE X (.Call (.Name x p) (e :: es) [] pos) (tCallVS X k i sp t) := by
  refine ⟨fun pins s σ H Q I h => ?_⟩
  obtain ⟨v, hs, hc, hx0, ht⟩ := h
  refine wpAny_Call_Name_kw (thn ((pe_var (pos := p) hN hv hdb hcd).run pins s σ H (fun y Hy => y = v ∧ Hy = H) I ⟨v, hs, rfl, rfl⟩) fun u s1 ⟨y, Hy, I1, ry, ey, eH⟩ => ?_)
  rw [ey] at ry
  rw [eH] at I1
  have un : ∀ {s' : Shared} {H' : Hp}, Inv X pins σ H' s' → Un X.fs [] X.H_0 H' X.s_0.heap s'.heap := fun J => by
    have b := J.base
    rw [hex] at b
    exact b
  rcases hc with (⟨f, fd, ps, rfl, F, hkp, hbd⟩ | ⟨f, c', q, pa, bo, sc, rfl, L, hf, hcode⟩) | ⟨f, F, bo, fr, ws, sp', rfl, L, hf, hcode, hcl, himp⟩
  · obtain rfl : u = Value.ref f := ry
    refine PySem.W.callWith_K (h₀ := X.base) I.ok.mod.kin hkp (thn (ha.run pos pins s1 σ H _ I1 ht) fun us s2 ⟨vs, H2, I2, r, z⟩ => ⟨I2.kIn, ?_⟩) he hpl
    exact run_fn F (hr.mono hk) hbd .nil pass0 I2 r (by rw [List.append_nil]; exact z.2)
  · obtain rfl : u = Value.ref f := ry
    have here : ∀ {s' : Shared} {H' : Hp}, Inv X pins σ H' s' → H' f = some (LamO f q pa bo sc c') → PySem.W.FnAt f s'.heap := fun J hf' => by
      obtain ⟨⟨pm, ctv, ho⟩, _, _⟩ := J.hok f _ hf'
      exact ⟨_, _, _, _, ho⟩
    refine PySem.W.callWith_F (first := []) (here I1 (hx0 f _ hf)) (thn (ha.run pos pins s1 σ H _ I1 ht) fun us s2 ⟨vs, H2, I2, r, z1, z2⟩ => ⟨here I2 (z1 f _ hf), ?_⟩) he hpl
    show wpAny _ _ (call (.ref f) us) _ _ _
    refine wpAny_call (codeAny_mono (L.run f c' X.A X.stack s2 H2 us vs Q (hr.mono hk) I2.env0 (z1 f _ hf) (z1 c' _ hcode) r z2) fun r s' hq => ?_)
    cases r with
    | error e => exact (show False from hq).elim
    | ok fl =>
      cases fl with
      | ret u => exact I2.after hq
      | next => exact False.elim hq
      | brk => exact False.elim hq
      | cont => exact False.elim hq
  · obtain rfl : u = Value.ref f := ry
    have here : ∀ {s' : Shared} {H' : Hp}, Inv X pins σ H' s' → H' f = some (LamOC f F bo) → PySem.W.FnAt f s'.heap := fun J hf' => by
      obtain ⟨⟨pm, ctv, ho⟩, _, _⟩ := J.hok f _ hf'
      exact ⟨_, _, _, _, ho⟩
    refine PySem.W.callWith_F (first := []) (here I1 (hx0 f _ hf)) (thn (ha.run pos pins s1 σ H _ I1 ht) fun us s2 ⟨vs, H2, I2, r, z1, z2⟩ => ⟨here I2 (z1 f _ hf), ?_⟩) he hpl
    show wpAny _ _ (call (.ref f) us) _ _ _
    refine wpAny_call (codeAny_mono (L.run f X.A X.stack s2 H2 us vs ws Q (hr.mono hk) I2.env0 (z1 f _ hf) (z1 F.c _ hcode) (cells_un hcl (un I2)) r (himp _ _ _ _ z1 z2)) fun r s' hq => ?_)
    cases r with
    | error e => exact (show False from hq).elim
    | ok fl =>
      cases fl with
      | ret u => exact I2.after hq
      | next => exact False.elim hq
      | brk => exact False.elim hq
      | cont => exact False.elim hq
end
/-- a def that may be called by its name; its promise hangs on the very state -/
structure CalSt (P : Program) (w : World) (K : PySem.W.Frag) (mg : Str → Option Value) (base : Heap) (k : Nat) (x : Str) (sp : Shared → Sp) : Prop where
  ex : ∃ (f : Addr) (fd : FuncData) (ps : List Str), (∀ s vs H Q, sp s vs H Q E0 → vs.length = ps.length) ∧ (∀ (A : Around) (outer : List Env) (s : Shared) (H : Hp) (args : Args) (us : List Value) (vs : List V) (Q : VK), Room k A → Env0 P w K mg base A outer s H → BindsTo s fd args (ps.zip us) → Vals vs us → sp s vs H Q E0 →
    codeAny (model P w) A (.call (.ref f) args) (CR CX0 outer P w H s Q E0) s) ∧ mg x = some (.ref f) ∧ PySem.W.keepIn K (.ref f) = true ∧ Binds K fd ps []
theorem mk_calSt {P : Program} {w : World} {K : PySem.W.Frag} {mg : Str → Option Value} {base : Heap} {x : Str} {st : Stmt} {f : Addr} {fd : FuncData} {N ps : List Str} {k : Nat} {sp : Shared → Sp} (F : FnP K x st f fd) (hm : mg x = some (.ref f)) (S : FnScope N ps (defScope st))
    (hb : ∀ (kV doc pm : Value) (an : Option Addr) (cdv ct : Value) (us : List Value), us.length = ps.length → bindArgs (PySem.W.fnOf x x (defArgs st) (defBody st) (defScope st) .none kV doc pm an cdv ct) ⟨us, []⟩ = pure (ps.zip us))
    (len : ∀ s vs H Q, sp s vs H Q E0 → vs.length = ps.length)
    (body : ∀ (cdv : Value) (A : Around) (outer : List Env) (s : Shared) (H : Hp) (vs : List V) (Q : VK), Room k (A.deeper (envOfC x (defScope st) s.heap.objs.size f cdv)) → sp s vs H Q E0 →
      ∃ t, PSs (cxOf CX0 P w K mg base N x (defScope st) f cdv A outer s H E0).nox (defBody st) t ∧ t { nx := fun _ H' => Q .non H', rt := Q } (start N vs) H) : CalSt P w K mg base (k + 1) x sp := by
  have hbn := F.bindsN hb
  have kp := F.kp
  obtain ⟨oc, od, dV, kV, doc, pm, an, cdv, ct, osl, rfl, lk, hcd, _, _⟩ := F.ex
  refine ⟨f, _, ps, len, fun A outer s H args us vs Q hr e0 hbt r h => ?_, hm, kp, hbn⟩
  exact run_ofS lk hcd S hr e0 hbt r (len _ _ _ _ h) fun hr' => let ⟨t, a, b⟩ := body cdv A outer s H vs Q hr' h; ⟨t, a.nox, b⟩
section
variable {X : Cx} {k j : Nat} {x : Str} {sp : Shared → Sp} {p pos : Pos} {e : Expr} {es : List Expr} {t : TA}
def tCallSt (X : Cx) (sp : Shared → Sp) (t : TA) : TE := fun σ H Q => t σ H fun vs H1 => ∀ pins s, Inv X pins σ H1 s → sp s vs H1 Q E0
theorem pe_cSt (c : CalSt X.prog X.w X.K X.mg X.base k x sp) (hr : Room j X.A) (hk : k ≤ j) (hg : Gl X x) (ha : PA X (e :: es) t) (hdb : (x == ("__debug__" : Str)) = false := by decide)
    (he : starEach (e :: es) X.env = (false, eval e X.env) :: starEach es X.env := by rfl) (hpl : (backTo pos (starEach es X.env)).any (·.1) = false := by rfl) :
    PE X (.Call (.Name x p) (e :: es) [] pos) (tCallSt X sp t) := by
  obtain ⟨f, fd, ps, len, run, hm, hkp, hb⟩ := c.ex
  refine ⟨fun pins s σ H Q I h => ?_⟩
  refine wpAny_Call_Name_kw (ld_glob I hg hm ?_ hdb)
  refine PySem.W.callWith_K (h₀ := X.base) I.ok.mod.kin hkp (thn (ha.run pos pins s σ H _ I h) fun us s1 ⟨vs, H1, I1, r, q⟩ => ⟨I1.kIn, ?_⟩) he hpl
  have q := q pins s1 I1
  have hl : (us ++ []).length = ps.length := by rw [List.append_nil, ← r.length]; exact len _ _ _ _ q
  have hb' := hb s1 us I1.kIn hl
  rw [List.append_nil] at hb'
  show wpAny _ _ (call (Value.ref f) us) _ _ s1
  refine wpAny_call (codeAny_mono (run X.A X.stack s1 H1 ⟨us, []⟩ us vs Q (hr.mono hk) I1.env0 hb' r q) fun r s' hq => ?_)
  cases r with
  | error e => exact (show False from hq).elim
  | ok fl =>
    cases fl with
    | ret u => exact I1.after hq
    | next => exact False.elim hq
    | brk => exact False.elim hq
    | cont => exact False.elim hq
end
def lamFreeB (sc scope : Scope) : Bool := scope.names.all fun y => !decide (y.2 = .free) || (decide (sc.names.lookup y.1 = some .cell) || decide (sc.names.lookup y.1 = some .free))
theorem lamfree_by {sc scope : Scope} (h : lamFreeB sc scope = true) : ∀ y ∈ scope.names, y.2 = .free → sc.names.lookup y.1 = some .cell ∨ sc.names.lookup y.1 = some .free := fun y hy e => by
  unfold lamFreeB at h
  have z := List.all_eq_true.mp h y hy
  simp only [Bool.or_eq_true, Bool.not_eq_true', decide_eq_true_eq, decide_eq_false_iff_not] at z
  rcases z with z | z
  · exact absurd e z
  · exact z
/-- a lambda just made may be called -/
theorem calS_lam {X : Cx} {pins : List (Addr × Obj)} {σ : L2.St} {H : Hp} {s : Shared} {k : Nat} {f c' : Addr} {params : Arguments} {body : Expr} {scope : Scope} {fr : List Str} {js : List Nat} {sp : Sp} {sp' : List (Option V) → Sp} (I : Inv X pins σ H s)
    (hk : ∀ y ∈ scope.names, y.2 = .free → X.env.scope.names.lookup y.1 = some .cell ∨ X.env.scope.names.lookup y.1 = some .free) (hfr : ∀ y ∈ fr, (y, NameKind.free) ∈ scope.names) (hjs : js.map (fun j => X.N[j]?) = fr.map some)
    (L : LamNOk X.prog X.w X.K X.mg X.base k (lamF X params scope c') body fr sp') (hf : H f = some (LamOC f (lamF X params scope c') body)) (hc : H c' = some (CodeO c' (X.env.qual ++ "<lambda>"))) (imp : ∀ vs H1 Q E, Same H H1 → sp vs H1 Q E → sp' (js.map (slotAt σ)) vs H1 Q E) :
    CalS X.prog X.w X.K X.mg X.base k sp s H (.ref f) :=
  .inr ⟨f, _, body, fr, js.map (slotAt σ), sp', rfl, L, hf, hc, cells_of I (Caps.made I.ok hk hfr hjs), imp⟩
def spFoldS (P : Program) (w : World) (K : PySem.W.Frag) (mg : Str → Option Value) (base : Heap) (k : Nat) (Ok : Tr → Prop) (R : Hp → Tr → V → Prop) : Shared → Sp := fun s vs H Q _ => ∃ (v fn fs : V) (t : Tr), vs = [v, fn, fs] ∧ TrAt K H t v ∧ t.size ≤ 100000 ∧ (∀ k ∈ pre t, Ok k) ∧ CalS P w K mg base k (spOn Ok R) s H fn ∧ CalS P w K mg base k (spOs Ok R) s H fs ∧
  ∀ r H', Same H H' → R H' t r → Q r H'
end Pg

set_option Elab.async false
set_option linter.all false
set_option maxRecDepth 100000
set_option maxHeartbeats 4000000
namespace Pg
open PySem PySem.Spec PyProof.Rows L2 LamX
/-! ### entries of tables -/
def walk : PyData → List Int → PyData
  | d, [] => d
  | .tuple ds, r :: rs => walk (ds.getD r.toNat .none) rs
  | _, _ :: _ => .none
def Ent (m : Nat) : Nat → PyData → Prop
  | 0, d => ∃ n : Int, d = .int n ∧ 0 ≤ n ∧ n < m
  | a + 1, d => ∃ ds, d = .tuple ds ∧ ds.length = m ∧ ∀ e ∈ ds, Ent m a e
theorem ent_step {m a : Nat} {d : PyData} {r : Int} {rs : List Int} (h : Ent m (a + 1) d) (h0 : 0 ≤ r) (h1 : r < m) : ∃ ds e, d = .tuple ds ∧ ds[r.toNat]? = some e ∧ Ent m a e ∧ walk d (r :: rs) = walk e rs := by
  obtain ⟨ds, rfl, hl, hall⟩ := h
  have hk : r.toNat < ds.length := by omega
  refine ⟨ds, ds[r.toNat], rfl, List.getElem?_eq_getElem hk, hall _ (List.getElem_mem hk), ?_⟩
  show walk (ds.getD r.toNat .none) rs = _
  rw [List.getD_eq_getElem?_getD, List.getElem?_eq_getElem hk]
  rfl
theorem ent_walk {m : Nat} : ∀ {rs : List Int} {d : PyData}, Ent m rs.length d → (∀ r ∈ rs, 0 ≤ r ∧ r < m) → ∃ n : Int, walk d rs = .int n ∧ 0 ≤ n ∧ n < m
  | [], d, h, _ => by obtain ⟨n, rfl, a, b⟩ := h; exact ⟨n, rfl, a, b⟩
  | r :: rs, d, h, hr => by
    obtain ⟨ds, e, rfl, he, hE, hw⟩ := ent_step (rs := rs) h (hr r (List.mem_cons_self ..)).1 (hr r (List.mem_cons_self ..)).2
    rw [hw]
    exact ent_walk hE fun x hx => hr x (List.mem_cons_of_mem _ hx)
theorem dpAll_get {K : PySem.W.Frag} {H : Hp} : ∀ {vs : List V} {ds : List PyData} {i : Nat} {d : PyData}, DpAll K H vs ds → ds[i]? = some d → ∃ v, vs[i]? = some v ∧ Dp K H v d
  | _, [], i, d, h, e => by simp at e
  | _, d0 :: ds, 0, d, h, e => by
    cases h with
    | cons a b => simp at e; subst e; exact ⟨_, rfl, a⟩
  | _, d0 :: ds, i + 1, d, h, e => by
    cases h with
    | cons a b =>
      obtain ⟨v, h1, h2⟩ := dpAll_get (i := i) b (by simpa using e)
      exact ⟨v, by simpa using h1, h2⟩
/-- entry_at -/
def spEntry (K : PySem.W.Frag) : Sp := fun vs H Q _ => ∃ (v : V) (l : Addr) (d : PyData) (rs : List Int) (m : Nat), vs = [v, .ref l] ∧ Dp K H v d ∧ SqL K H l (rs.map V.int) ∧ Ent m rs.length d ∧ (∀ r ∈ rs, 0 ≤ r ∧ r < m) ∧ ∀ n : Int, walk d rs = .int n → Q (.int n) H
/-! ### a term's value, told from its parts -/
def Tr.ev (ρ : Str → Int) (W : Str → List Int → Int) : Tr → Int
  | .nm x => ρ x
  | .c0 s => W s []
  | .c1 s t => W s [t.ev ρ W]
  | .c2 s t u => W s [t.ev ρ W, u.ev ρ W]
theorem ev_node {ρ : Str → Int} {W : Str → List Int → Int} {t : Tr} (h : ∀ x, t ≠ .nm x) : t.ev ρ W = W t.sym (t.kids.map fun k => k.ev ρ W) := by
  cases t with
  | nm x => exact absurd rfl (h x)
  | c0 s => rfl
  | c1 s t => rfl
  | c2 s t u => rfl
structure MvOk (m : Nat) (sg : Sg) (md : List PyData) : Prop where
  len : md.length = sg.length
  ent : ∀ (i : Nat) (s : Str × Int) (d : PyData), sg[i]? = some s → md[i]? = some d → Ent m s.2.toNat d
def Wm (sg : Sg) (md : List PyData) (s : Str) (rs : List Int) : Int :=
  match walk (md.getD (place sg s) .none) rs with
  | .int n => n
  | _ => 0
/-- what the node asks of names and signs -/
def OkR (m : Nat) (sg : Sg) (ρ : Str → Int) (D : Str → Prop) (t : Tr) : Prop := (∀ x, t = .nm x → D x ∧ 0 ≤ ρ x ∧ ρ x < m) ∧ ((∀ x, t ≠ .nm x) → (t.sym, (t.kids.length : Int)) ∈ sg)
def RowR (m : Nat) (ρ : Str → Int) (W : Str → List Int → Int) : Hp → Tr → V → Prop := fun _ t r => r = .int (t.ev ρ W) ∧ 0 ≤ t.ev ρ W ∧ t.ev ρ W < m
theorem wm_of {m : Nat} {sg : Sg} {md : List PyData} {s : Str} {a : Nat} {rs : List Int} (gs : GSg sg) (mo : MvOk m sg md) (hs : (s, (a : Int)) ∈ sg) (hl : rs.length = a) (hr : ∀ r ∈ rs, 0 ≤ r ∧ r < m) :
    ∃ d, md[place sg s]? = some d ∧ Ent m rs.length d ∧ walk d rs = .int (Wm sg md s rs) ∧ 0 ≤ Wm sg md s rs ∧ Wm sg md s rs < m := by
  have hm : s ∈ sg.map (·.1) := List.mem_map.mpr ⟨_, hs, rfl⟩
  obtain ⟨pl, _, _⟩ := place_at hm
  have hp : place sg s < md.length := by rw [mo.len]; exact pl
  have e0 : sg[place sg s]? = some sg[place sg s] := List.getElem?_eq_getElem pl
  have e1 : md[place sg s]? = some md[place sg s] := List.getElem?_eq_getElem hp
  have e2 : sg[place sg s] = (s, (a : Int)) := by
    obtain ⟨j, hj, ej⟩ := List.getElem_of_mem hs
    have hj2 : j < (sg.map (·.1)).length := by rw [List.length_map]; exact hj
    have e3 : (sg.map (·.1))[j] = s := by rw [List.getElem_map, ej]
    have : place sg s = j := by
      show (sg.map (·.1)).idxOf s = j
      rw [← e3]
      exact gs.nd.idxOf_getElem j hj2
    have h4 : sg[place sg s]? = sg[j]? := by rw [this]
    rw [e0, List.getElem?_eq_getElem hj, ej] at h4
    exact Option.some.inj h4
  have hE := mo.ent _ _ _ e0 e1
  rw [e2] at hE
  have hE : Ent m rs.length md[place sg s] := by rw [hl]; exact hE
  obtain ⟨n, hw, h0, h1⟩ := ent_walk hE hr
  have hW : Wm sg md s rs = n := by
    unfold Wm
    rw [List.getD_eq_getElem?_getD, e1]
    show (match walk md[place sg s] rs with | .int n => n | _ => 0) = n
    rw [hw]
  exact ⟨_, e1, hE, by rw [hW]; exact hw, by rw [hW]; exact h0, by rw [hW]; exact h1⟩
/-- data of tuples, texts, numbers, truth values -/
def solid : PyData → Bool
  | .none => true
  | .bool _ => true
  | .int _ => true
  | .str _ => true
  | .tuple ds => solidAll ds
  | _ => false
where solidAll : List PyData → Bool
  | [] => true
  | d :: ds => solid d && solidAll ds
theorem solidAll_of : ∀ {ds : List PyData}, (∀ d ∈ ds, solid d = true) → solid.solidAll ds = true
  | [], _ => rfl
  | d :: ds, h => by
    rw [solid.solidAll, h d (List.mem_cons_self ..), solidAll_of fun e he => h e (List.mem_cons_of_mem _ he)]
    rfl
section
variable {K : PySem.W.Frag} {H H' : Hp}
mutual
theorem dp_so (k : TK K H H') : ∀ (d : PyData) (v : V), solid d = true → Dp K H v d → Dp K H' v d
  | .none, _, _, h => by cases h; exact .non
  | .bool b, _, _, h => by cases h; exact .bl b
  | .int i, _, _, h => by cases h; exact .int i
  | .str _, _, _, h => by cases h; exact .str _
  | .tuple ds, _, n, h => by
    rw [solid] at n
    cases h with
    | tup hS hA => exact .tup (k _ _ hS) (dpAll_so k ds _ n hA)
  | .list _, _, n, _ => by rw [solid] at n <;> first | cases n | (intros; cases ‹_ = _›)
  | .dict _, _, n, _ => by rw [solid] at n <;> first | cases n | (intros; cases ‹_ = _›)
theorem dpAll_so (k : TK K H H') : ∀ (ds : List PyData) (vs : List V), solid.solidAll ds = true → DpAll K H vs ds → DpAll K H' vs ds
  | [], _, _, h => by cases h; exact .nil
  | d :: ds, _, n, h => by
    rw [solid.solidAll, Bool.and_eq_true] at n
    cases h with
    | cons a b => exact .cons (dp_so k d _ n.1 a) (dpAll_so k ds _ n.2 b)
end
end
theorem ent_solid {m : Nat} : ∀ {a : Nat} {d : PyData}, Ent m a d → solid d = true
  | 0, d, h => by obtain ⟨n, rfl, _⟩ := h; rw [solid]
  | a + 1, d, h => by
    obtain ⟨ds, rfl, _, hall⟩ := h
    rw [solid]
    exact solidAll_of fun e he => ent_solid (hall e he)
theorem MvOk.solid {m : Nat} {sg : Sg} {md : List PyData} (h : MvOk m sg md) : solid (.tuple md) = true := by
  rw [Pg.solid]
  refine solidAll_of fun d hd => ?_
  obtain ⟨i, hi, rfl⟩ := List.getElem_of_mem hd
  have hi2 : i < sg.length := by rw [← h.len]; exact hi
  exact ent_solid (h.ent i _ _ (List.getElem?_eq_getElem hi2) (List.getElem?_eq_getElem hi))
/-- row_of -/
def spRowOf (K : PySem.W.Frag) (Pt : Addr) (q : Str) : Sp := fun vs H Q _ => ∃ (g mv fl : Addr) (v : V) (sg : Sg) (md : List PyData) (kvs : List (Key × V)) (ρ : Str → Int) (m : Nat) (t : Tr), vs = [.ref g, .ref mv, v, .ref fl] ∧ SgAt K H g sg ∧ GSg sg ∧ Dp K H (.ref mv) (.tuple md) ∧ MvOk m sg md ∧ H fl = some (.dK kvs) ∧ TrAt K H t v ∧ t.size ≤ 100000 ∧
  (∀ k ∈ pre t, OkR m sg ρ (fun x => valV kvs (.inr x) = some (.int (ρ x))) k) ∧ TabS H Pt q ∧ ∀ H', ButP Pt H H' → TabS H' Pt q → Q (.int (t.ev ρ (Wm sg md))) H'
end Pg

set_option Elab.async false
set_option linter.all false
set_option maxRecDepth 100000
set_option maxHeartbeats 4000000
namespace Pg
open PySem PySem.Spec PyProof.Rows L2
/-! ### max(xs, default=d) of a list of numbers -/
def maxDef (d : Int) : List Int → Int
  | [] => d
  | n :: ns => ns.foldl max n
def rMaxDef (K : PySem.W.Frag) : List V → List V → Hp → VK → Prop := fun vs zs H Q => ∃ (a : Addr) (ns : List Int) (d : Int), vs = [.ref a] ∧ zs = [.int d] ∧ SqL K H a (ns.map V.int) ∧ Q (.int (maxDef d ns)) H
theorem ints_dp {K : PySem.W.Frag} {H : Hp} : ∀ ns : List Int, DpAll K H (ns.map V.int) (ns.map PyData.int)
  | [] => .nil
  | n :: ns => .cons (.int n) (ints_dp ns)
theorem ints_depth : ∀ ns : List Int, PyData.depthAll (ns.map PyData.int) = 0
  | [] => rfl
  | n :: ns => by rw [List.map_cons, PyData.depthAll, ints_depth ns]; rfl
theorem ints_alike (ns : List Int) : PySem.W.AlikeAll (ns.map PyData.int) := by
  refine ⟨fun x hx y hy => ?_, fun x hx => ?_⟩
  · obtain ⟨a, _, rfl⟩ := List.mem_map.mp hx
    obtain ⟨b, _, rfl⟩ := List.mem_map.mp hy
    rfl
  · obtain ⟨a, _, rfl⟩ := List.mem_map.mp hx
    intro z
    cases z
theorem cr_maxDef {X : Cx} (hc : X.calm = true) (hu : X.A.units + 8 < cLine) : CallRK X (.builtin "max") [PySem.Str.ofString "default"] (rMaxDef X.K) := by
  intro pins s σ H vs zs us ws Q I r rz h
  obtain ⟨a, ns, d, rfl, rfl, hs, q⟩ := h
  obtain rfl := Vals.ref1 r
  obtain ⟨w1, rfl, t1, rfl⟩ := vals1 rz
  obtain ⟨its, rv, hl, hz⟩ := I.list hs
  obtain ⟨as, hr⟩ := Dp.readsAll I (ns.map PyData.int) (ns.map V.int) its (ints_dp ns) rv
  show wpAny _ _ (call (.builtin "max") [.ref a] [(PySem.Str.ofString "default", .int d t1)]) _ _ s
  refine PySem.W.max_list_default (I.ok.hd hc) hl.isList (by simpa using hr) (ints_alike ns) (by rw [ints_depth]; omega) (fun h0 h' tk hk => ?_) (fun y ys i v h' tk bs e hv rd hk => ?_)
  · have e0 : ns = [] := List.map_eq_nil_iff.mp h0
    subst e0
    exact ⟨.int d, H, I.kept (t' := tk) hk, ⟨_, rfl⟩, q⟩
  · cases ns with
    | nil => cases e
    | cons n r =>
      rw [List.map_cons] at e
      injection e with e1 e2
      subst e1 e2
      rw [PySem.W.maxD_ints] at rd
      cases rd
      exact ⟨.int (maxDef d (n :: r)), H, I.kept (t' := tk) hk, ⟨_, rfl⟩, q⟩
end Pg

set_option Elab.async false
set_option linter.all false
set_option maxRecDepth 100000
set_option maxHeartbeats 4000000
namespace Pg
open PySem PySem.Spec PyProof.Rows L2 LamX
theorem mk_calT {P : Program} {w : World} {K : PySem.W.Frag} {mg : Str → Option Value} {base : Heap} {x : Str} {st : Stmt} {f c : Addr} {fd : FuncData} {N ps : List Str} {k : Nat} {sp : Sp} (F : FnP K x st f fd) (hc : fd.code = .ref c) (hm : mg x = some (.ref f)) (S : FnScope N ps (defScope st))
    (hb : ∀ (kV doc pm : Value) (an : Option Addr) (cdv ct : Value) (us : List Value), us.length = ps.length → bindArgs (PySem.W.fnOf x x (defArgs st) (defBody st) (defScope st) .none kV doc pm an cdv ct) ⟨us, []⟩ = pure (ps.zip us))
    (len : ∀ vs H Q E, sp vs H Q E → vs.length = ps.length)
    (body : ∀ (A : Around) (outer : List Env) (s : Shared) (H : Hp) (vs : List V) (Q : VK) (E : XK), Room k (A.deeper (envOfC x (defScope st) s.heap.objs.size f (.ref c))) → sp vs H Q E →
      ∃ t, PSs (cxOf CX0 P w K mg base N x (defScope st) f (.ref c) A outer s H E).nox (defBody st) t ∧ t { nx := fun _ H' => Q .non H', rt := Q } (start N vs) H) : Cal P w K mg base (k + 1) x sp [] := by
  have hbn := F.bindsN hb
  have kp := F.kp
  obtain ⟨oc, od, dV, kV, doc, pm, an, cdv, ct, osl, rfl, lk, hcd, _, _⟩ := F.ex
  obtain rfl : cdv = .ref c := hc
  exact ⟨f, _, ps, [], fn_of lk hcd S len fun A outer s H vs Q E hr h => let ⟨t, a, b⟩ := body A outer s H vs Q E hr h; ⟨t, a.nox, b⟩, hm, kp, hbn, .nil⟩
def spDpo (K : PySem.W.Frag) (P : Addr) (q : Str) : Sp := fun vs H Q _ => ∃ (v : V) (t : Tr), vs = [v] ∧ TrAt K H t v ∧ t.size ≤ 100000 ∧ TabS H P q ∧ ∀ H', ButP P H H' → TabS H' P q → Q (.int t.dep) H'
theorem dep_max (t : Tr) (h : ∀ x, t ≠ .nm x) : (t.dep : Int) = 1 + maxDef 0 (t.kids.map fun k => (k.dep : Int)) := by
  cases t with
  | nm x => exact absurd rfl (h x)
  | c0 s => rfl
  | c1 s t => show ((1 + t.dep : Nat) : Int) = 1 + (t.dep : Int); omega
  | c2 s t u => show ((1 + max t.dep u.dep : Nat) : Int) = 1 + max (t.dep : Int) (u.dep : Int); omega
theorem ButP.trans {P : Addr} {H H1 H2 : Hp} (a : ButP P H H1) (b : ButP P H1 H2) : ButP P H H2 := fun c o n h => b c o n (a c o n h)
theorem ButP.tk {K : PySem.W.Frag} {P : Addr} {q : Str} {H H1 : Hp} (t : TabS H P q) (a : ButP P H H1) : TK K H H1 := by
  obtain ⟨ps, hP, _⟩ := t
  intro p ys h
  rcases h with (h | ⟨o, h⟩) | h
  · exact .inl (.inl (a _ _ (ne_of h hP (by intro z; cases z)) h))
  · exact .inl (.inr ⟨o, a _ _ (ne_of h hP (by intro z; cases z)) h⟩)
  · exact .inr h
theorem ext_ne {P b : Addr} {q : Str} {H : Hp} {φ : Heap → Prop} (t : TabS H P q) (h : H b = some (.ext φ)) : b ≠ P := by
  obtain ⟨ps, hP, _⟩ := t
  exact ne_of h hP (by intro z; cases z)
end Pg

set_option Elab.async false
set_option linter.all false
set_option maxRecDepth 100000
set_option maxHeartbeats 4000000
namespace K03
open PySem PySem.Spec PyProof.Rows L2 Pg LamX
section
variable {P : Program} {w : World} {K : PySem.W.Frag} {mg : Str → Option Value} {base : Heap} {f : Addr} {fd : FuncData} {rsa c Pt : Addr}
abbrev s_dpo : Stmt := top 15
abbrev N_dpo : List Str := ["term"]
abbrev P_dpo : List Str := ["term"]
theorem sc_dpo : FnScope N_dpo P_dpo (defScope s_dpo) := ⟨rfl, rfl, rfl, by decide +kernel, rfl, by decide +kernel, by decide +kernel⟩

theorem ok_dpo (F : FnP K "depth_of" s_dpo f fd) (hcode0 : fd.code = .ref c) (TB : TabB base mg c Pt) (hm : mg "depth_of" = some (.ref f)) (Z : Zs mg) (c_fold : Cal P w K mg base 2 "fold" (spFold P w K mg base 1 (fun _ => True) (fun _ t r => r = .int t.dep)) []) : Cal P w K mg base 3 "depth_of" (spDpo K Pt ((("depth_of" : Str) ++ (".<locals>." : Str)) ++ ("<lambda>" : Str))) [] := by
  refine mk_calT F hcode0 hm sc_dpo (fun _ _ _ _ _ _ us hl => match us, hl with | [_], _ => rfl) (fun vs H Q E h => ?_) (fun A outer s H vs Q E hr h => ?_)
  · obtain ⟨v, t, rfl, _⟩ := h
    rfl
  obtain ⟨v, t, rfl, ht, hz, tab, q⟩ := h
  have hcode : (cxOf CX0 P w K mg base N_dpo "depth_of" (defScope s_dpo) f (.ref c) A outer s H E).nox.env.code = .ref c := rfl
  refine ⟨_, (pss_one (ps_ret (C8.pe_c c_fold hr (by first | decide | omega) rfl (pa_cons (pv 0) (pa_cons (pe_lamV TB hcode (by first | rfl | with_unfolding_all rfl) (by first | rfl | with_unfolding_all rfl)) (pa_cons (pe_lamV TB hcode (by first | rfl | with_unfolding_all rfl) (by first | rfl | with_unfolding_all rfl)) pa_nil)))))), ?_⟩
  refine ⟨_, rfl, tab, fun f1 c1 H1 bp1 tab1 nf1 hf1 hc1 => ⟨tab1, fun f2 c2 H2 bp2 tab2 nf2 hf2 hc2 => ?_⟩⟩
  have hf1' := bp2 _ _ (ext_ne tab1 hf1) hf1
  have hc1' := bp2 _ _ (ext_ne tab1 hc1) hc1
  refine ⟨v, .ref f1, .ref f2, t, rfl, TrAt.keep ((ButP.tk tab bp1).trans (ButP.tk tab1 bp2)) ht, hz, (fun _ _ => trivial), .inr ⟨f1, c1, _, _, _, _, rfl, ?_, hf1', hc1'⟩, .inr ⟨f2, c2, _, _, _, _, rfl, ?_, hf2, hc2⟩, fun r H' sm e => ?_⟩
  · refine lam_ok (N := ["name"]) (ps := ["name"]) ⟨rfl, rfl, rfl, by decide +kernel, rfl, by decide +kernel, by decide +kernel⟩ (fun _ _ _ us hl => match us, hl with | [_], _ => rfl) (fun vs H Q E h => ?_) (fun f c' A outer s H vs Q hr h => ?_)
    · obtain ⟨x, rfl, _⟩ := h
      rfl
    · obtain ⟨x, rfl, _, q⟩ := h
      exact ⟨_, pe_int, q _ H (Same.refl H) rfl⟩
  · refine lam_ok (N := ["sign", "depths"]) (ps := ["sign", "depths"]) ⟨rfl, rfl, rfl, by decide +kernel, rfl, by decide +kernel, by decide +kernel⟩ (fun _ _ _ us hl => match us, hl with | [_, _], _ => rfl) (fun vs H Q E h => ?_) (fun f c' A outer s H vs Q hr h => ?_)
    · obtain ⟨t, p, rs, rfl, _⟩ := h
      rfl
    · obtain ⟨t, p, rs, rfl, nk, _, hp, hrs, q⟩ := h
      have ers : rs = (t.kids.map fun k => (k.dep : Int)).map V.int := by rw [List.map_map]; exact paired_eq (g := fun k : Tr => V.int (k.dep : Nat)) hrs
      refine ⟨_, pe_op op_add pe_int (pe_callBK (cr_maxDef rfl (hu_n hr (by decide))) (by rfl) Z.max (by decide +kernel) (pa_cons (pv 1) pa_nil) (pk_cons pe_int pk_nil)), ?_⟩
      refine ⟨_, rfl, p, t.kids.map fun k => (k.dep : Int), 0, rfl, rfl, SqL.mk (by rw [hp, ers]), _, _, rfl, rfl, ?_⟩
      exact q _ H (Same.refl H) (by show V.int _ = V.int _; rw [dep_max t nk])
  · subst e
    exact q H' (fun b o nb h => sm _ _ ((bp1.trans bp2) b o nb h)) (tab2.ext fun b o h => sm b o h)
end
end K03

set_option Elab.async false
set_option linter.all false
set_option maxRecDepth 100000
set_option maxHeartbeats 4000000
namespace Pg
open PySem PySem.Spec PyProof.Rows L2
/-! ### the text of a term -/
def around (s inner : Str) : Str := ((Str.empty ++ s ++ PySem.Str.ofString "(") ++ inner) ++ PySem.Str.ofString ")"
def txt : Tr → Str
  | .nm x => x
  | .c0 s => s
  | .c1 s t => around s (Txt.join (PySem.Str.ofString ", ") [txt t])
  | .c2 s t u => around s (Txt.join (PySem.Str.ofString ", ") [txt t, txt u])
def okT (t : Tr) : Prop := t.sym.length ≤ 8 ∧ t.size ≤ 1000
def rTxt : Hp → Tr → V → Prop := fun _ t r => r = .str (txt t) ∧ (txt t).length ≤ 20 * t.size
def spSzo (K : PySem.W.Frag) : Sp := fun vs H Q _ => ∃ (v : V) (t : Tr), vs = [v] ∧ TrAt K H t v ∧ t.size ≤ 100000 ∧ ∀ H', Same H H' → Q (.int (t.size : Nat)) H'
def spTtx (K : PySem.W.Frag) (P : Addr) (q : Str) : Sp := fun vs H Q _ => ∃ (v : V) (t : Tr), vs = [v] ∧ TrAt K H t v ∧ t.size ≤ 1000 ∧ (∀ k ∈ pre t, okT k) ∧ LamX.TabS H P q ∧ ∀ H', ButP P H H' → LamX.TabS H' P q → (txt t).length ≤ 20 * t.size → Q (.str (txt t)) H'
end Pg

set_option Elab.async false
set_option linter.all false
set_option maxRecDepth 100000
set_option maxHeartbeats 4000000
namespace K03
open PySem PySem.Spec PyProof.Rows L2 Pg LamX
section
variable {P : Program} {w : World} {K : PySem.W.Frag} {mg : Str → Option Value} {base : Heap} {f : Addr} {fd : FuncData} {rsa c Pt : Addr}
abbrev s_sgt : Stmt := top 22
abbrev N_sgt : List Str := ["sign", "texts", "inner"]
abbrev P_sgt : List Str := ["sign", "texts"]
theorem sc_sgt : FnScope N_sgt P_sgt (defScope s_sgt) := ⟨rfl, rfl, rfl, by decide +kernel, rfl, by decide +kernel, by decide +kernel⟩

theorem ok_sgt (F : FnP K "sign_text" s_sgt f fd) (hm : mg "sign_text" = some (.ref f)) (Z : Zs mg) : Cal P w K mg base 1 "sign_text" (spOs okT rTxt) [] := by
  refine mk_cal F hm sc_sgt (fun _ _ _ _ _ _ us hl => match us, hl with | [_, _], _ => rfl) (fun vs H Q E h => ?_) (fun cdv A outer s H vs Q E hr h => ?_)
  · obtain ⟨t, p, rs, rfl, _⟩ := h
    rfl
  obtain ⟨t, p, rs, rfl, nk, hok, hp, hrs, q⟩ := h
  refine ⟨_, (pss_cons (ps_if (pt_not (pt_truth (pv 1) (fun _ => rfl))) (pss_one (ps_ret (pv 0))) pss_nil)
      (pss_cons (ps_set (i := 2) sc_sgt.nd rfl (by first | exact Or.inl rfl | exact Or.inr rfl) (pe_bm PySem.F.plainAttrs_str PySem.F.slot_str_join PySem.F.type_str_join mt_join pe_str (pa_cons (pv 1) pa_nil)))
      (pss_one (ps_ret (pe_joined (PJ.cons (pe_fmt (pv 0)) (PJ.cons pe_str (PJ.cons (pe_fmt (pv 2)) (PJ.cons pe_str PJ.nil))))))))), ?_⟩
  obtain ⟨ho1, ho2⟩ := hok
  have eC : (PySem.Str.ofString ", ").length = 2 := by decide +kernel
  have eO : (PySem.Str.ofString "(").length = 1 := by decide +kernel
  have eP : (PySem.Str.ofString ")").length = 1 := by decide +kernel
  have eE : (Str.empty).length = 0 := by decide +kernel
  have cases2 : (rs = [] ∧ txt t = t.sym ∧ t.size = 1) ∨ ∃ ys : List Str, rs = ys.map V.str ∧ ys ≠ [] ∧ (ys.map (·.length)).sum + ys.length * 2 ≤ 30000 ∧ txt t = around t.sym (Txt.join (PySem.Str.ofString ", ") ys) ∧ (Txt.join (PySem.Str.ofString ", ") ys).length + 10 ≤ 20 * t.size := by
    cases t with
    | nm x => exact absurd rfl (nk x)
    | c0 s => cases (show Paired (fun r k => rTxt H k r) rs [] from hrs); exact .inl ⟨rfl, rfl, rfl⟩
    | c1 s t =>
      have ho2 : 1 + t.size ≤ 1000 := ho2
      cases (show Paired (fun r k => rTxt H k r) rs [t] from hrs) with
      | cons a b =>
        cases b
        obtain ⟨rfl, hl⟩ := a
        refine .inr ⟨[txt t], rfl, by simp, ?_, rfl, ?_⟩
        · simp only [List.map_cons, List.map_nil, List.sum_cons, List.sum_nil, List.length_singleton]; omega
        · show (txt t).length + 10 ≤ 20 * (1 + t.size); omega
    | c2 s t u =>
      have ho2 : 1 + t.size + u.size ≤ 1000 := ho2
      cases (show Paired (fun r k => rTxt H k r) rs [t, u] from hrs) with
      | cons a b =>
        cases b with
        | cons c d =>
          cases d
          obtain ⟨rfl, hl⟩ := a
          obtain ⟨rfl, hl2⟩ := c
          refine .inr ⟨[txt t, txt u], rfl, by simp, ?_, rfl, ?_⟩
          · simp only [List.map_cons, List.map_nil, List.sum_cons, List.sum_nil, List.length_cons, List.length_nil]; omega
          · show (txt t ++ PySem.Str.ofString ", " ++ txt u).length + 10 ≤ 20 * (1 + t.size + u.size)
            rw [PySem.Str.length_append, PySem.Str.length_append, eC]
            omega
  have hsz := t.size_pos
  rcases cases2 with ⟨rfl, et, es⟩ | ⟨ys, rfl, e2, e3, et, el⟩
  · refine ⟨_, rfl, _, .inl ⟨[], SqL.mk hp, rfl⟩, ite2 (fun _ => ?_) (fun z => absurd rfl z)⟩
    exact ⟨_, rfl, q _ H (Same.refl H) ⟨by rw [et], by rw [et, es]; omega⟩⟩
  · refine ⟨_, rfl, _, .inl ⟨ys.map V.str, SqL.mk hp, rfl⟩, ite2 (fun z => ?_) (fun _ => ?_)⟩
    · cases ys with
      | nil => exact absurd rfl e2
      | cons a b => cases z
    have l1 : (Str.empty ++ t.sym).length ≤ 10 := by rw [PySem.Str.length_append, eE]; omega
    have l2 : (Str.empty ++ t.sym ++ PySem.Str.ofString "(").length ≤ 20 := by rw [PySem.Str.length_append, eO]; omega
    have l3 : ((Str.empty ++ t.sym ++ PySem.Str.ofString "(") ++ Txt.join (PySem.Str.ofString ", ") ys).length ≤ 20020 := by rw [PySem.Str.length_append]; omega
    have l4 : (around t.sym (Txt.join (PySem.Str.ofString ", ") ys)).length ≤ 20 * t.size := by
      unfold around
      rw [PySem.Str.length_append, PySem.Str.length_append, PySem.Str.length_append, PySem.Str.length_append, eE, eO, eP]
      omega
    refine ⟨by rfl, _, rfl, _, p, ys, rfl, rfl, .inl (SqL.mk hp), by rw [eC]; omega, ?_⟩
    refine ⟨_, rfl, .inl ⟨_, rfl, Nat.le_of_lt (smallN (by omega)), _, rfl, Nat.le_of_lt (smallN (by omega)), _, rfl, Nat.le_of_lt (smallN (by omega)), _, rfl, .inl ⟨_, rfl, Nat.le_of_lt (smallN (by omega)), _, rfl, Nat.le_of_lt (smallN (by omega)), _, rfl, ?_, ?_⟩⟩⟩
    · show (around t.sym (Txt.join (PySem.Str.ofString ", ") ys)).length ≤ sizeLine
      exact Nat.le_of_lt (smallN (by omega))
    · exact q _ H (Same.refl H) ⟨by rw [et]; rfl, by rw [et]; exact l4⟩
abbrev s_ttx : Stmt := top 21
abbrev N_ttx : List Str := ["term"]
abbrev P_ttx : List Str := ["term"]
theorem sc_ttx : FnScope N_ttx P_ttx (defScope s_ttx) := ⟨rfl, rfl, rfl, by decide +kernel, rfl, by decide +kernel, by decide +kernel⟩

theorem ok_ttx (F : FnP K "term_text" s_ttx f fd) (hcode0 : fd.code = .ref c) (TB : TabB base mg c Pt) (hm : mg "term_text" = some (.ref f)) (Z : Zs mg) (c_sgt : Cal P w K mg base 1 "sign_text" (spOs okT rTxt) []) (c_fold : Cal P w K mg base 2 "fold" (spFold P w K mg base 1 okT rTxt) []) : Cal P w K mg base 3 "term_text" (spTtx K Pt ((("term_text" : Str) ++ (".<locals>." : Str)) ++ ("<lambda>" : Str))) [] := by
  obtain ⟨fs, fds, pss, dss, FS, hfs, kps, bs, vs0⟩ := c_sgt.ex
  cases vs0
  refine mk_calT F hcode0 hm sc_ttx (fun _ _ _ _ _ _ us hl => match us, hl with | [_], _ => rfl) (fun vs H Q E h => ?_) (fun A outer s H vs Q E hr h => ?_)
  · obtain ⟨v, t, rfl, _⟩ := h
    rfl
  obtain ⟨v, t, rfl, ht, hz, hok, tab, q⟩ := h
  have hcode : (cxOf CX0 P w K mg base N_ttx "term_text" (defScope s_ttx) f (.ref c) A outer s H E).nox.env.code = .ref c := rfl
  refine ⟨_, (pss_one (ps_ret (C8.pe_c c_fold hr (by first | decide | omega) rfl (pa_cons (pv 0) (pa_cons (pe_lamV TB hcode (by first | rfl | with_unfolding_all rfl) (by first | rfl | with_unfolding_all rfl)) (pa_cons (C8.pe_gc (v := .ref fs) (by rfl) ⟨_, hfs, rfl⟩) pa_nil)))))), ?_⟩
  refine ⟨_, rfl, tab, fun f1 c1 H1 bp1 tab1 nf1 hf1 hc1 => ?_⟩
  refine ⟨v, .ref f1, .ref fs, t, rfl, TrAt.keep (ButP.tk tab bp1) ht, by omega, hok, .inr ⟨f1, c1, _, _, _, _, rfl, ?_, hf1, hc1⟩, .inl ⟨fs, fds, pss, rfl, FS, kps, bs⟩, fun r H' sm e => ?_⟩
  · refine lam_ok (N := ["name"]) (ps := ["name"]) ⟨rfl, rfl, rfl, by decide +kernel, rfl, by decide +kernel, by decide +kernel⟩ (fun _ _ _ us hl => match us, hl with | [_], _ => rfl) (fun vs H Q E h => ?_) (fun f c' A outer s H vs Q hr h => ?_)
    · obtain ⟨x, rfl, _⟩ := h
      rfl
    · obtain ⟨x, rfl, hx, q⟩ := h
      refine ⟨_, (pv 0), _, rfl, q _ H (Same.refl H) ⟨rfl, ?_⟩⟩
      have : x.length ≤ 8 := hx.1
      show x.length ≤ 20 * 1
      omega
  · obtain ⟨rfl, hl⟩ := e
    exact q H' (fun b o nb h => sm _ _ (bp1 b o nb h)) (tab1.ext fun b o h => sm b o h) hl
abbrev s_szo : Stmt := top 14
abbrev N_szo : List Str := ["term"]
abbrev P_szo : List Str := ["term"]
theorem sc_szo : FnScope N_szo P_szo (defScope s_szo) := ⟨rfl, rfl, rfl, by decide +kernel, rfl, by decide +kernel, by decide +kernel⟩

theorem ok_szo (F : FnP K "size_of" s_szo f fd) (hm : mg "size_of" = some (.ref f)) (Z : Zs mg) (c_nodes : Cal P w K mg base 1 "nodes_of" (spNds K) [.non]) : Cal P w K mg base 2 "size_of" (spSzo K) [] := by
  refine mk_cal F hm sc_szo (fun _ _ _ _ _ _ us hl => match us, hl with | [_], _ => rfl) (fun vs H Q E h => ?_) (fun cdv A outer s H vs Q E hr h => ?_)
  · obtain ⟨v, t, rfl, _⟩ := h
    rfl
  obtain ⟨v, t, rfl, ht, hz, q⟩ := h
  refine ⟨_, (pss_one (ps_ret (pe_callB call_len_seq (by rfl) Z.len (by decide +kernel) (pa_cons (C8.pe_c c_nodes hr (by first | decide | omega) rfl (pa_cons (pv 0) pa_nil)) pa_nil)))), ?_⟩
  refine ⟨_, rfl, v, trD t, none, rfl, tr_dp ht, nest_tr t, by rw [preD_tr, List.length_map, pre_len]; exact hz, fun p H1 ws np sm hp hw => ?_⟩
  have hl : ws.length = t.size := by
    have := paired_len hw
    rw [show most (trD t) none = preD (trD t) from rfl, preD_tr, List.length_map, pre_len] at this
    exact this
  refine ⟨p, ws, rfl, .inl (SqL.mk hp), ?_⟩
  rw [hl]
  exact q H1 sm
end
end K03

set_option Elab.async false
set_option linter.all false
set_option maxRecDepth 100000
set_option maxHeartbeats 4000000
namespace K03
open PySem PySem.Spec PyProof.Rows L2 Pg
section
variable {P : Program} {w : World} {K : PySem.W.Frag} {mg : Str → Option Value} {base : Heap} {f : Addr} {fd : FuncData} {rsa : Addr}
abbrev s_low : Stmt := top 8
abbrev N_low : List Str := ["char"]
abbrev P_low : List Str := ["char"]
theorem sc_low : FnScope N_low P_low (defScope s_low) := ⟨rfl, rfl, rfl, by decide +kernel, rfl, by decide +kernel, by decide +kernel⟩

theorem ok_low (F : FnP K "is_small_letter" s_low f fd) (hm : mg "is_small_letter" = some (.ref f)) (Z : Zs mg) : Cal P w K mg base 1 "is_small_letter" spLow [] := by
  refine mk_cal F hm sc_low (fun _ _ _ _ _ _ us hl => match us, hl with | [_], _ => rfl) (fun vs H Q E h => ?_) (fun cdv A outer s H vs Q E hr h => ?_)
  · obtain ⟨c, rfl, _⟩ := h
    rfl
  obtain ⟨c, rfl, q⟩ := h
  refine ⟨_, (pss_one (ps_ret (pe_chain op_le_str op_le_str pe_str (pv 0) pe_str))), ?_⟩
  have q0 := q H (Same.refl H)
  unfold lowC at q0
  refine ⟨_, rfl, _, _, rfl, rfl, _, rfl, ite2 (fun h => ⟨_, _, rfl, rfl, ?_⟩) (fun h => ?_)⟩
  · rw [le_a] at h
    rw [le_z]
    rw [h, Bool.true_and] at q0
    exact q0
  · rw [le_a] at h
    have h : decide (97 ≤ c) = false := by simpa using h
    rw [h, Bool.false_and] at q0
    exact q0
abbrev s_isw : Stmt := top 9
abbrev N_isw : List Str := ["text", "char"]
abbrev P_isw : List Str := ["text"]
theorem sc_isw : FnScope N_isw P_isw (defScope s_isw) := ⟨rfl, rfl, rfl, by decide +kernel, rfl, by decide +kernel, by decide +kernel⟩

theorem ok_isw (F : FnP K "is_word" s_isw f fd) (hm : mg "is_word" = some (.ref f)) (Z : Zs mg) (G : Wo K mg rsa) (c_low : Cal P w K mg base 1 "is_small_letter" spLow []) : Cal P w K mg base 2 "is_word" spIsw [] := by
  refine mk_cal F hm sc_isw (fun _ _ _ _ _ _ us hl => match us, hl with | [_], _ => rfl) (fun vs H Q E h => ?_) (fun cdv A outer s H vs Q E hr h => ?_)
  · obtain ⟨x, rfl, _⟩ := h
    rfl
  obtain ⟨x, rfl, hx, q⟩ := h
  refine ⟨_, (pss_cons (ps_if (PW.pt (pw_or (pt_not (pt_chain op_le op_le pe_int (pe_callB call_len_str (by rfl) Z.len (by decide +kernel) (pa_cons (pv 0) pa_nil)) (C8.pe_gc (v := .int 8) (by rfl) G.mw))) (pw_or1 (pt_cmpR op_in_seq (pv 0) (C8.pe_gc (v := .ref rsa) (by rfl) ⟨_, G.rs, rfl⟩) (by rfl))))) (pss_one (ps_ret pe_bl)) pss_nil)
      (pss_one (ps_ret (pe_callB (cr_all rfl) (by rfl) Z.all (by decide +kernel) (pa_cons (pe_lc (own := [("char", 1)]) (g := (gName 1)) (tt := tYes) (te := (tCall spLow [] _ (tCons (tVar 1) tNil))) rfl sc_isw.nd (pi_str (pv 0)) (blkOk_by (N := N_isw) (sc := defScope s_isw) (by decide +kernel)) (fun _ _ _ _ _ => by exact (pg_name (i := 1) sc_isw.nd rfl (Or.inl rfl))) (fun _ _ _ _ _ => by exact pts_nil) (fun _ _ _ _ _ => by exact (C8.pe_c c_low hr (by first | decide | omega) rfl (pa_cons (pv 1) pa_nil)))) pa_nil))))), ?_⟩
  have q0 := q H (Same.refl H)
  have hx63 : x.length ≤ sizeLine := Nat.le_of_lt (smallN hx)
  have t1 : TV (tTest (tChain (rI0 fun i j => V.bl (decide (i ≤ j))) (rI0 fun i j => V.bl (decide (i ≤ j))) (tC (V.int 1)) (tCB (fun xs H Q => ∃ z, xs = [V.str z] ∧ z.length ≤ sizeLine ∧ Q (V.int (z.length : Nat)) H) (tCons (tVar 0) tNil)) (tC (V.int 8)))) (L2.start N_isw [V.str x]) H (decide (1 ≤ x.length) && decide (x.length ≤ 8)) := fun Q' q' => by
    refine ⟨_, rfl, x, rfl, hx63, _, _, rfl, rfl, _, rfl, ite2 (fun h => ⟨_, _, rfl, rfl, _, rfl, ?_⟩) (fun h => ⟨_, rfl, ?_⟩)⟩
    · have h := of_decide_eq_true h
      rw [decide_eq_true (show 1 ≤ x.length by omega), Bool.true_and] at q'
      rw [show decide (((x.length : Nat) : Int) ≤ 8) = decide (x.length ≤ 8) by rw [Bool.eq_iff_iff, decide_eq_true_iff, decide_eq_true_iff]; omega]
      exact q'
    · have h : ¬ (1 : Int) ≤ ((x.length : Nat) : Int) := fun z => h (decide_eq_true z)
      rw [decide_eq_false (show ¬ 1 ≤ x.length by omega), Bool.false_and] at q'
      exact q'
  refine TV.ifs (b := !(decide (1 ≤ x.length) && decide (x.length ≤ 8)) || decide (x ∈ rsv)) (TV.or (TV.not t1) (fun Q' q' => ⟨_, rfl, rsa, _, rfl, .inr (G.rt H), rfl, Pg.flat_strs _, _, rfl, by rw [inV_strs]; exact q'⟩)) (fun e => ?_) (fun e => ?_)
  · have : isW x = false := by
      unfold isW
      rw [Bool.or_eq_true] at e
      rcases e with e | e
      · rw [Bool.not_eq_true'] at e
        rw [e, Bool.false_and]
      · rw [e, Bool.not_true, Bool.false_and, Bool.and_false]
    rw [this] at q0
    exact q0
  rw [Bool.or_eq_false_iff, Bool.not_eq_false'] at e
  dsimp only [tNext, tRet, tCB, tCons]
  refine rd_str (x := x) (fun c => V.bl (lowC c)) (fun R h => ⟨_, rfl, x, rfl, h⟩) hx (fun _ => rfl) (fun c H' hc sm Q' q' => ⟨_, rfl, c, rfl, fun H2 s2 => q' H2 s2⟩) (fun D H' nD sm hD => ?_)
  refine ⟨D, (cs x).map lowC, rfl, SqL.mk (by rw [hD, List.map_map]; rfl), ?_⟩
  have q1 := q H' sm
  unfold isW at q1
  rw [e.1, e.2, Bool.true_and, Bool.not_false, Bool.true_and] at q1
  rw [List.all_map]
  exact q1
abbrev s_nub : Stmt := top 11
abbrev N_nub : List Str := ["pairs", "word", "other", "number"]
abbrev P_nub : List Str := ["pairs", "word"]
theorem sc_nub : FnScope N_nub P_nub (defScope s_nub) := ⟨rfl, rfl, rfl, by decide +kernel, rfl, by decide +kernel, by decide +kernel⟩

theorem ok_nub (F : FnP K "number_beside" s_nub f fd) (hm : mg "number_beside" = some (.ref f)) (Z : Zs mg) : Cal P w K mg base 1 "number_beside" (spNub K) [] := by
  refine mk_cal F hm sc_nub (fun _ _ _ _ _ _ us hl => match us, hl with | [_, _], _ => rfl) (fun vs H Q E h => ?_) (fun cdv A outer s H vs Q E hr h => ?_)
  · obtain ⟨g, sg, x, rfl, _⟩ := h
    rfl
  obtain ⟨g, sg, x, rfl, hsg, hl, q⟩ := h
  refine ⟨_, (pss_cons (ps_for PassesOwn.never rfl (pi_tup (pv 0)) (pg_tup rfl (pgs_cons (pg_name (i := 2) sc_nub.nd rfl (by first | exact Or.inl rfl | exact Or.inr rfl)) (pgs_cons (pg_name (i := 3) sc_nub.nd rfl (by first | exact Or.inl rfl | exact Or.inr rfl)) pgs_nil))) (pss_one (ps_if (pt_cmpR op_eq (pv 2) (pv 1) (nomark _)) (pss_one (ps_ret (pv 3))) pss_nil)))
      (pss_one (ps_ret (pe_un un_neg pe_int)))), ?_⟩
  obtain ⟨rs, hS, pr⟩ := hsg.ex
  refine ⟨_, rfl, g, rfl, ⟨_, hS⟩, ?_⟩
  refine for_tup (K := K) (a := g) (xs := rs.map V.ref) (fun i σ H' => ∃ v2 v3 : Option V, σ = [some (.ref g), some (.str x), v2, v3] ∧ H' = H ∧ numB (sg.drop i) x = numB sg x)
    ⟨none, none, rfl, rfl, rfl⟩ (fun i σ H' _ ⟨_, _, _, e, _⟩ => by rw [e]; exact hS) ?_ ?_
  · rintro i y σ H1 hy ⟨v2, v3, rfl, rfl, hnb⟩
    rw [List.getElem?_map] at hy
    obtain ⟨rr, er, rfl⟩ : ∃ rr, rs[i]? = some rr ∧ V.ref rr = y := by
      cases e : rs[i]? with
      | none => rw [e] at hy; cases hy
      | some z => rw [e] at hy; exact ⟨z, rfl, Option.some.inj hy⟩
    obtain ⟨s0, es, hrr⟩ := Pg.paired_get pr er
    have hlt : i < sg.length := (List.getElem?_eq_some_iff.mp es).1
    have ed : sg.drop i = s0 :: sg.drop (i + 1) := by
      rw [List.drop_eq_getElem_cons hlt]
      congr 1
      exact (List.getElem?_eq_some_iff.mp es).2
    rw [ed, numB_cons] at hnb
    refine ⟨rr, _, rfl, hrr, rfl, _, _, rfl, _, _, rfl, rfl, ?_⟩
    refine ⟨_, rfl, _, rfl, rfl, _, rfl, ite2 (fun e => ?_) (fun e => ?_)⟩
    · have e := V.str.inj (of_decide_eq_true e)
      rw [if_pos e] at hnb
      refine ⟨_, rfl, ?_⟩
      have := q H1 (Same.refl H1)
      rw [← hnb] at this
      exact this
    · have e : ¬ s0.1 = x := fun z => e (decide_eq_true (by rw [z]))
      rw [if_neg e] at hnb
      exact ⟨_, _, rfl, rfl, hnb⟩
  · rintro σ H1 ⟨v2, v3, rfl, rfl, hnb⟩
    rw [List.length_map, paired_len pr, List.drop_length] at hnb
    refine ⟨1, rfl, ?_⟩
    have := q H1 (Same.refl H1)
    rw [← hnb] at this
    exact this
abbrev s_aro : Stmt := top 10
abbrev N_aro : List Str := ["signs", "word"]
abbrev P_aro : List Str := ["signs", "word"]
theorem sc_aro : FnScope N_aro P_aro (defScope s_aro) := ⟨rfl, rfl, rfl, by decide +kernel, rfl, by decide +kernel, by decide +kernel⟩

theorem ok_aro (F : FnP K "arity_of" s_aro f fd) (hm : mg "arity_of" = some (.ref f)) (Z : Zs mg) (c_nub : Cal P w K mg base 1 "number_beside" (spNub K) []) : Cal P w K mg base 2 "arity_of" (spNub K) [] := by
  refine mk_cal F hm sc_aro (fun _ _ _ _ _ _ us hl => match us, hl with | [_, _], _ => rfl) (fun vs H Q E h => ?_) (fun cdv A outer s H vs Q E hr h => ?_)
  · obtain ⟨g, sg, x, rfl, _⟩ := h
    rfl
  obtain ⟨g, sg, x, rfl, hsg, hl, q⟩ := h
  refine ⟨_, (pss_one (ps_ret (C8.pe_c c_nub hr (by first | decide | omega) rfl (pa_cons (pv 0) (pa_cons (pv 1) pa_nil))))), ?_⟩
  exact ⟨_, rfl, _, rfl, g, sg, x, rfl, hsg, hl, fun H' sm => q H' sm⟩
end
end K03

set_option Elab.async false
set_option linter.all false
set_option maxRecDepth 100000
set_option maxHeartbeats 4000000
namespace Pg
open PySem PySem.Spec PyProof.Rows L2
/-! ### comprehensions whose elements take from the stream -/
section
variable {K : PySem.W.Frag} {σ : L2.St} {H : Hp} {Q : VK} {p a nn : Addr} {sg : Sg} {j j1 j2 : Nat} {te : TE} {m c : Int}
theorem rd_rngS {lo : Int} {n : Nat} {wi : TI} (F : Hp → Nat → V → Prop) (mono : ∀ H H' i v, TK K H H' → F H i v → F H' i v) (st : StA H a nn m) (hwi : ∀ R, R (Itr lo n) H → wi σ H R) (hn : n ≤ 100000) (hw : ∀ x, wipe ((wipe σ [j]).set j (some x)) [j] = wipe σ [j])
    (ht : ∀ (i : Nat) H', i < n → Fr a H H' → StA H' a nn (m + c * (i : Int)) → ∀ Q' : VK, (∀ v H2, Fr a H' H2 → StA H2 a nn (m + c * ((i : Int) + 1)) → F H2 i v → Q' v H2) → te ((wipe σ [j]).set j (some (.int (lo + i)))) H' Q')
    (h : ∀ D H' vs, H D = none → Fr a H H' → StA H' a nn (m + c * (n : Int)) → H' D = some (.lst vs) → vs.length = n → (∀ i v, vs[i]? = some v → F H' i v) → Q (.ref D) H') : tLc wi (gName j) tYes te [j] σ H Q := by
  refine hwi _ (fun D nD => lc_range (fun i H' => Fr a H H' ∧ StA H' a nn (m + c * (i : Int)) ∧ ∃ vs, H' D = some (.lst vs) ∧ vs.length = i ∧ ∀ k v, vs[k]? = some v → F H' k v) ⟨Fr.new nD, (st.new nD).mono (by simp), [], upd_same, rfl, fun k v e => by simp at e⟩ (fun i H' hi iv => ?_) (fun H' iv => ?_))
  · obtain ⟨fr, s1, vs, hd, hl, hall⟩ := iv
    refine ⟨hw _, yes_turn ?_⟩
    refine ht i H' hi fr s1 _ (fun v H2 f2 s2 hv => ?_)
    have nDa := (st.ne nD).1
    have hd2 := f2 _ _ nDa hd
    have tk : TK K H' (upd H2 D (.lst (vs ++ [v]))) := (s1.tk f2).trans (TK.put hd2)
    refine ⟨vs, hd2, by rw [hl, sizeLine_eq]; omega, ?_, ?_, vs ++ [v], upd_same, by rw [List.length_append, hl]; rfl, fun k x e => ?_⟩
    · intro b o nb hb
      rw [upd_ne (ne_of_none hb nD)]
      exact f2 b o nb (fr b o nb hb)
    · have := s2.put (o := .lst (vs ++ [v])) (st.ne nD)
      refine this.mono ?_
      have : ((i + 1 : Nat) : Int) = (i : Int) + 1 := by omega
      rw [this]
      exact Int.le_refl _
    · by_cases hk : k < vs.length
      · rw [List.getElem?_append_left hk] at e
        exact mono _ _ _ _ tk (hall k x e)
      · rw [List.getElem?_append_right (by omega)] at e
        cases hk2 : k - vs.length with
        | zero =>
          rw [hk2] at e
          have e : v = x := by simpa using e
          subst e
          rw [show k = i by omega]
          exact mono _ _ _ _ (TK.put hd2) hv
        | succ z => rw [hk2] at e; simp at e
  · obtain ⟨fr, s1, vs, hd, hl, hall⟩ := iv
    exact h D H' vs nD fr s1 hd hl hall
theorem rd_prsS {i : Nat} (F : Hp → Str × Int → V → Prop) (mono : ∀ H H' s v, TK K H H' → F H s v → F H' s v) (st : StA H a nn m) (hi : σ[i]? = some (some (.ref p))) (hS : SgAt K H p sg) (h4 : sg.length ≤ 1000) (hw : ∀ x y, wipe (((wipe σ [j1, j2]).set j1 (some x)).set j2 (some y)) [j1, j2] = wipe σ [j1, j2])
    (ht : ∀ (s : Str × Int) (k : Nat) H', s ∈ sg → k < sg.length → Fr a H H' → StA H' a nn (m + c * (k : Int)) → ∀ Q' : VK, (∀ v H2, Fr a H' H2 → StA H2 a nn (m + c * ((k : Int) + 1)) → F H2 s v → Q' v H2) → te (((wipe σ [j1, j2]).set j1 (some (.str s.1))).set j2 (some (.int s.2))) H' Q')
    (h : ∀ D H' vs, H D = none → Fr a H H' → StA H' a nn (m + c * (sg.length : Int)) → H' D = some (.lst vs) → Paired (fun v s => F H' s v) vs sg → Q (.ref D) H') :
    tLc (iTup K (tVar i)) (gTup K 2 (gCons (gName j1) (gCons (gName j2) gNil))) tYes te [j1, j2] σ H Q := by
  obtain ⟨rs, hT, pr⟩ := hS.ex
  refine ⟨_, hi, p, rfl, ⟨_, hT⟩, fun D nD => lc_tup (K := K) (xs := rs.map V.ref) (fun i H' => Fr a H H' ∧ StA H' a nn (m + c * (i : Int)) ∧ ∃ vs, H' D = some (.lst vs) ∧ Paired (fun v s => F H' s v) vs (sg.take i)) ⟨Fr.new nD, (st.new nD).mono (by simp), [], upd_same, .nil⟩ (fun i H' _ iv => st.tk iv.1 _ _ hT) (fun i x H' hx iv => ?_) (fun H' iv => ?_)⟩
  · rw [List.getElem?_map] at hx
    obtain ⟨r, e, rfl⟩ : ∃ r, rs[i]? = some r ∧ V.ref r = x := by
      cases e : rs[i]? with
      | none => rw [e] at hx; cases hx
      | some z => rw [e] at hx; exact ⟨z, rfl, Option.some.inj hx⟩
    obtain ⟨s, es, hr⟩ := Pg.paired_get pr e
    obtain ⟨fr, s1, vs, hd, hp⟩ := iv
    have hlt : i < sg.length := (List.getElem?_eq_some_iff.mp es).1
    refine ⟨r, _, rfl, st.tk fr _ _ hr, rfl, _, _, rfl, _, _, rfl, rfl, hw _ _, ?_⟩
    have nDa := (st.ne nD).1
    refine yes_turn (ht s i H' (List.mem_of_getElem? es) hlt fr s1 _ fun v H2 f2 s2 hv => ?_)
    have hd2 := f2 _ _ nDa hd
    have hlv : vs.length = i := by rw [paired_len hp, List.length_take]; omega
    have tk : TK K H' (upd H2 D (.lst (vs ++ [v]))) := (s1.tk f2).trans (TK.put hd2)
    refine ⟨vs, hd2, by rw [hlv]; exact small1000 (by omega), ?_, ?_, vs ++ [v], upd_same, ?_⟩
    · intro b o nb hb
      rw [upd_ne (ne_of_none hb nD)]
      exact f2 b o nb (fr b o nb hb)
    · refine (s2.put (st.ne nD)).mono ?_
      have : ((i + 1 : Nat) : Int) = (i : Int) + 1 := by omega
      rw [this]
      exact Int.le_refl _
    · rw [take_snoc es]
      exact paired_app (Paired.imp2 (fun _ _ z => mono _ _ _ _ tk z) hp) (.cons (mono _ _ _ _ (TK.put hd2) hv) .nil)
  · obtain ⟨fr, s1, vs, hd, hp⟩ := iv
    rw [List.length_map, paired_len pr] at s1 hp
    rw [List.take_length] at hp
    exact h D H' vs nD fr s1 hd hp
end
end Pg

set_option Elab.async false
set_option linter.all false
set_option maxRecDepth 100000
set_option maxHeartbeats 4000000
namespace Pg
open PySem PySem.Spec PyProof.Rows L2
/-! ### repr of a tuple that holds a dict -/
section
variable {X : Cx} {pins : List (Addr × Obj)} {σ : L2.St} {H : Hp} {s : Shared}
mutual
theorem dp_reads0 (I : Inv X pins σ H s) : ∀ (d : PyData) (v : V) (u : Value), solid d = true → Dp X.K H v d → RelV v u → Reads s.heap u d []
  | .none, _, _, _, h, r => by cases h; cases r; exact Reads.none
  | .bool b, _, _, _, h, r => by cases h; cases r; exact Reads.bool b
  | .int i, _, _, _, h, r => by cases h; obtain ⟨t, rfl⟩ := r; exact Reads.int i t
  | .str x, _, _, _, h, r => by cases h; obtain ⟨t, rfl⟩ := r; exact Reads.str x t
  | .tuple ds, _, _, n, h, r => by
    rw [solid] at n
    cases h with
    | tup hs ha =>
      cases r
      obtain ⟨its, rv, ⟨o, ho, hc, n', hd⟩, _⟩ := I.tuple hs
      exact Reads.tuple ho hc hd (dpAll_reads0 I ds _ its n ha rv)
  | .list _, _, _, n, _, _ => by rw [solid] at n <;> first | cases n | (intros; cases ‹_ = _›)
  | .dict _, _, _, n, _, _ => by rw [solid] at n <;> first | cases n | (intros; cases ‹_ = _›)
theorem dpAll_reads0 (I : Inv X pins σ H s) : ∀ (ds : List PyData) (vs : List V) (us : List Value), solid.solidAll ds = true → DpAll X.K H vs ds → Vals vs us → ReadsAll s.heap us ds []
  | [], _, _, _, h, r => by cases h; cases r; exact ReadsAll.nil
  | d :: ds, _, _, n, h, r => by
    rw [solid.solidAll, Bool.and_eq_true] at n
    cases h with
    | cons h1 h2 =>
      cases r with
      | cons r1 r2 => exact ReadsAll.cons (dp_reads0 I d _ _ n.1 h1 r1) (dpAll_reads0 I ds _ _ n.2 h2 r2)
end
end
abbrev kvL (l : List (Str × Int)) : List (Key × V) := l.map fun x => (.inr x.1, .int x.2)
abbrev kvD (l : List (Str × Int)) : List (PyData × PyData) := l.map fun x => (.str x.1, .int x.2)
theorem pairs_reads {P : Program} {w : World} {h : Heap} : ∀ {l : List (Str × Int)} {es : List DictEntry} {kvs : List (Key × Value)}, KV (kvL l) kvs → Pairs (mixKind P w) es kvs →
    ReadsAll h (es.map (·.key)) ((kvD l).map (·.1)) [] ∧ ReadsAll h (es.map (·.val)) ((kvD l).map (·.2)) []
  | [], _, _, k, p => by cases k; cases p; exact ⟨.nil, .nil⟩
  | x :: l, _, _, k, p => by
    cases k with
    | cons a b =>
      cases p with
      | cons p1 p2 p3 =>
        obtain ⟨i1, i2⟩ := pairs_reads (h := h) b p3
        obtain ⟨e1, e2⟩ := a
        have e1 : Sum.inr x.1 = _ := e1
        rw [← e1] at p1
        obtain ⟨t, et⟩ := Value.isStrOf_shape (x := x.1) p1
        obtain ⟨t2, et2⟩ := e2
        refine ⟨.cons (as := []) ?_ i1, .cons (as := []) ?_ i2⟩
        · show Reads h _ _ _
          dsimp only
          rw [et]; exact Reads.str _ t
        · show Reads h _ _ _
          dsimp only
          rw [p2, et2]; exact Reads.int _ t2
section
variable {X : Cx}
def rRepr3 (K : PySem.W.Frag) (n : Nat) : List V → Hp → VK → Prop := fun xs H Q => ∃ (a fl : Addr) (v1 v2 : V) (d1 d2 : PyData) (l : List (Str × Int)), xs = [.ref a] ∧ SqT K H a [v1, v2, .ref fl] ∧ Dp K H v1 d1 ∧ Dp K H v2 d2 ∧ solid d1 = true ∧ solid d2 = true ∧ H fl = some (.dK (kvL l)) ∧
  (PyData.tuple [d1, d2, .dict (kvD l)]).showable = true ∧ (PyData.tuple [d1, d2, .dict (kvD l)]).shown.length ≤ sizeLine ∧ (PyData.tuple [d1, d2, .dict (kvD l)]).depth ≤ n ∧ Q (.str (PyData.tuple [d1, d2, .dict (kvD l)]).shown) H
theorem cr_repr3 {n : Nat} (hu : X.A.units + n + 1 < cLine) (hg : X.A.guards = some []) : CallR X (.builtin "repr") (rRepr3 X.K n) := by
  intro pins s σ H xs us Q I r ⟨a, fl, v1, v2, d1, d2, l, e, hT, h1, h2, o1, o2, hf, hs, hz, hn, q⟩
  subst e
  obtain ⟨u, rfl, ru⟩ := vals1 r
  cases ru
  obtain ⟨its, rv, ⟨o, ho, hc, n', hd⟩, _⟩ := I.tuple hT
  obtain ⟨_, hsys, vs, hkv, o', es, ep, ho', hex, hd', _, hpairs, _⟩ := dk_of I.hok hf
  obtain ⟨k1, k2⟩ := pairs_reads (h := s.heap) hkv hpairs
  cases rv with
  | cons r1 rv =>
    cases rv with
    | cons r2 rv =>
      cases rv with
      | cons r3 rv =>
        cases rv
        cases r3
        have hr : Reads s.heap (.ref a) (.tuple [d1, d2, .dict (kvD l)]) ([] ++ ([] ++ (([fl] ++ [] ++ []) ++ []))) :=
          Reads.tuple ho hc hd (.cons (dp_reads0 I d1 _ _ o1 h1 r1) (.cons (dp_reads0 I d2 _ _ o2 h2 r2) (.cons (Reads.dict ho' hex.1 hd' k1 k2) .nil)))
        refine repr_of_reads' hr hs (fun _ hm => ?_) hg (by omega) (fun _ _ e => e) (fun h' w tk hk => ?_) hz
        · have : sysModules = fl := by simpa using hm
          rw [← this] at hsys
          simp at hsys
        · exact ⟨.str _, H, I.kept (t' := tk) hk, ⟨w, rfl⟩, q⟩
end
/-! ### how long what is shown is -/
structure Sh (D B : Nat) (d : PyData) : Prop where
  ok : d.showable = true
  sh : d.leavesShort 8 = true
  dp : d.depth ≤ D
  bk : d.bulk ≤ B
theorem shown_small : ∀ n < 1000, (PyData.shown (.int (n : Nat))).length ≤ 8 := by decide +kernel
theorem Sh.int {n : Int} (h0 : 0 ≤ n) (h1 : n < 1000) : Sh 0 0 (.int n) := by
  obtain ⟨k, rfl⟩ := Int.eq_ofNat_of_zero_le h0
  have hk : k < 1000 := by omega
  refine ⟨?_, ?_, Nat.le_refl _, Nat.le_refl _⟩
  · rw [PyData.showable]
    refine decide_eq_true ?_
    show k.log2 < 1920
    by_cases e : k = 0
    · subst e; decide
    · exact Nat.lt_of_lt_of_le ((Nat.log2_lt e).mpr (show k < 2 ^ 10 by omega)) (by decide)
  · rw [PyData.leavesShort]
    exact decide_eq_true (shown_small k hk)
theorem Sh.str {x : Str} {B : Nat} (h : ∀ c ∈ cs x, c < 16 ^ 8) (hl : (cs x).length ≤ B) : Sh 0 B (.str x) := by
  refine ⟨by rw [PyData.showable], ?_, Nat.le_refl _, ?_⟩
  · rw [PyData.leavesShort, List.all_eq_true]
    exact fun c hc => decide_eq_true (h c hc)
  · show x.cps.size ≤ B
    simpa [cs] using hl
theorem sh_all {D B : Nat} : ∀ {ds : List PyData}, (∀ d ∈ ds, Sh D B d) → PyData.showableAll ds = true ∧ PyData.leavesShortAll 8 ds = true ∧ PyData.depthAll ds ≤ D ∧ PyData.bulkAll ds ≤ ds.length * (B + 1)
  | [], _ => ⟨rfl, rfl, Nat.zero_le _, Nat.zero_le _⟩
  | d :: ds, h => by
    obtain ⟨a1, a2, a3, a4⟩ := h d (List.mem_cons_self ..)
    obtain ⟨b1, b2, b3, b4⟩ := sh_all (ds := ds) fun e he => h e (List.mem_cons_of_mem _ he)
    refine ⟨by rw [PyData.showableAll, a1, b1]; rfl, by rw [PyData.leavesShortAll, a2, b2]; rfl, by rw [PyData.depthAll]; omega, ?_⟩
    rw [PyData.bulkAll, List.length_cons, Nat.add_mul]
    omega
theorem Sh.tup {D B : Nat} {ds : List PyData} (h : ∀ d ∈ ds, Sh D B d) : Sh (D + 1) (ds.length * (B + 1)) (.tuple ds) := by
  obtain ⟨b1, b2, b3, b4⟩ := sh_all h
  exact ⟨by rw [PyData.showable]; exact b1, by rw [PyData.leavesShort]; exact b2, by rw [PyData.depth]; omega, by rw [PyData.bulk]; exact b4⟩
theorem Sh.mono {D B D' B' : Nat} {d : PyData} (h : Sh D B d) (h1 : D ≤ D') (h2 : B ≤ B') : Sh D' B' d := ⟨h.ok, h.sh, Nat.le_trans h.dp h1, Nat.le_trans h.bk h2⟩
theorem sh_kv : ∀ {l : List (Str × Int)}, (∀ x ∈ l, (∀ c ∈ cs x.1, c < 16 ^ 8) ∧ (cs x.1).length ≤ 8 ∧ 0 ≤ x.2 ∧ x.2 < 1000) → PyData.showableKv (kvD l) = true ∧ PyData.leavesShortKv 8 (kvD l) = true ∧ PyData.depthKv (kvD l) ≤ 0 ∧ PyData.bulkKv (kvD l) ≤ l.length * 10
  | [], _ => ⟨rfl, rfl, Nat.zero_le _, Nat.zero_le _⟩
  | x :: l, h => by
    obtain ⟨c1, c2, c3, c4⟩ := h x (List.mem_cons_self ..)
    obtain ⟨a1, a2, a3, a4⟩ := Sh.str (B := 8) c1 c2
    obtain ⟨e1, e2, e3, e4⟩ := Sh.int c3 c4
    obtain ⟨b1, b2, b3, b4⟩ := sh_kv (l := l) fun e he => h e (List.mem_cons_of_mem _ he)
    show PyData.showableKv ((.str x.1, .int x.2) :: kvD l) = true ∧ PyData.leavesShortKv 8 ((.str x.1, .int x.2) :: kvD l) = true ∧ PyData.depthKv ((.str x.1, .int x.2) :: kvD l) ≤ 0 ∧ PyData.bulkKv ((.str x.1, .int x.2) :: kvD l) ≤ _
    refine ⟨by rw [PyData.showableKv, a1, e1, b1]; rfl, by rw [PyData.leavesShortKv, a2, e2, b2]; rfl, by rw [PyData.depthKv]; omega, ?_⟩
    rw [PyData.bulkKv, List.length_cons]
    omega
theorem Sh.dict {l : List (Str × Int)} (h : ∀ x ∈ l, (∀ c ∈ cs x.1, c < 16 ^ 8) ∧ (cs x.1).length ≤ 8 ∧ 0 ≤ x.2 ∧ x.2 < 1000) : Sh 1 (l.length * 10) (.dict (kvD l)) := by
  obtain ⟨b1, b2, b3, b4⟩ := sh_kv h
  exact ⟨by rw [PyData.showable]; exact b1, by rw [PyData.leavesShort]; exact b2, by rw [PyData.depth]; omega, by rw [PyData.bulk]; exact b4⟩
theorem Sh.size {D B : Nat} {d : PyData} (h : Sh D B d) (hb : B ≤ 2 ^ 20) : d.shown.length ≤ sizeLine := PyData.shown_fits_bulk (Nat.le_refl 8) (by decide) h.sh (Nat.le_trans h.bk hb)
def sgD (sg : Sg) : PyData := .tuple (sg.map fun s => .tuple [.str s.1, .int s.2])
theorem sgD_solid (sg : Sg) : solid (sgD sg) = true := by
  rw [sgD, solid]
  refine solidAll_of fun d hd => ?_
  obtain ⟨s, _, rfl⟩ := List.mem_map.mp hd
  simp [solid, solid.solidAll]
theorem sgD_at {K : PySem.W.Frag} {H : Hp} {p : Addr} {sg : Sg} (h : SgAt K H p sg) : Dp K H (.ref p) (sgD sg) := by
  obtain ⟨rs, hS, pr⟩ := h.ex
  refine .tup hS ?_
  clear hS h
  induction pr with
  | nil => exact .nil
  | cons a _ ih => exact .cons (.tup a (.cons (.str _) (.cons (.int _) .nil))) ih
theorem wd_small {i : Nat} {w : Str} (h : Wd i w) : (∀ c ∈ cs w, c < 16 ^ 8) ∧ (cs w).length ≤ 8 := by
  rcases h with ⟨_, h2, h3⟩ | ⟨hi, h⟩
  · refine ⟨fun c hc => ?_, h2⟩
    have h8 : (16 : Nat) ^ 8 = 4294967296 := by decide
    rcases h3 c hc with e | e | e | e <;> omega
  · rw [h]
    refine ⟨fun c hc => ?_, by show 2 ≤ 8; decide⟩
    have h8 : (16 : Nat) ^ 8 = 4294967296 := by decide
    simp only [List.mem_cons, List.not_mem_nil, or_false] at hc
    omega
theorem sgD_sh {sg : Sg} (g : GSg sg) : Sh 2 76 (sgD sg) := by
  have h4 := g.len.2
  have := Sh.tup (D := 1) (B := 18) (ds := sg.map fun s => .tuple [.str s.1, .int s.2]) fun d hd => by
    obtain ⟨s, hs, rfl⟩ := List.mem_map.mp hd
    obtain ⟨i, hw⟩ := g.wd s hs
    obtain ⟨w1, w2⟩ := wd_small hw
    have ha := g.ar s hs
    exact Sh.tup (D := 0) (B := 8) (ds := [.str s.1, .int s.2]) fun e he => by
      simp only [List.mem_cons, List.not_mem_nil, or_false] at he
      rcases he with rfl | rfl
      · exact Sh.str w1 w2
      · exact (Sh.int ha.1 (by omega)).mono (Nat.le_refl _) (by omega)
  refine this.mono (Nat.le_refl _) ?_
  rw [List.length_map]
  omega
def entB (m : Nat) : Nat → Nat
  | 0 => 0
  | a + 1 => m * (entB m a + 1)
theorem ent_sh {m : Nat} (hm : m ≤ 1000) : ∀ {a : Nat} {d : PyData}, Ent m a d → Sh a (entB m a) d
  | 0, d, h => by obtain ⟨n, rfl, h0, h1⟩ := h; exact Sh.int h0 (by omega)
  | a + 1, d, h => by
    obtain ⟨ds, rfl, hl, hall⟩ := h
    have := Sh.tup fun e he => ent_sh hm (hall e he)
    rw [hl] at this
    exact this
theorem mv_sh {m : Nat} {sg : Sg} {md : List PyData} (g : GSg sg) (h : MvOk m sg md) (hm : m ≤ 24) : Sh 3 2404 (.tuple md) := by
  have h4 := g.len.2
  have := Sh.tup (D := 2) (B := 600) (ds := md) fun d hd => by
    obtain ⟨i, hi, rfl⟩ := List.getElem_of_mem hd
    have hi2 : i < sg.length := by rw [← h.len]; exact hi
    have hE := h.ent i _ _ (List.getElem?_eq_getElem hi2) (List.getElem?_eq_getElem hi)
    have ha := g.ar sg[i] (List.getElem_mem hi2)
    have hs := ent_sh (by omega) hE
    have hk : sg[i].2.toNat = 0 ∨ sg[i].2.toNat = 1 ∨ sg[i].2.toNat = 2 := by omega
    rcases hk with e | e | e <;> rw [e] at hs
    · exact hs.mono (by omega) (Nat.zero_le _)
    · exact hs.mono (by omega) (by show m * (0 + 1) ≤ 600; omega)
    · refine hs.mono (by omega) ?_
      show m * (m * (0 + 1) + 1) ≤ 600
      have : m * (m * (0 + 1) + 1) ≤ 24 * (24 * (0 + 1) + 1) := Nat.mul_le_mul hm (by omega)
      omega
  refine this.mono (Nat.le_refl _) ?_
  rw [h.len]
  have : List.length sg * (600 + 1) ≤ 4 * 601 := Nat.mul_le_mul h4 (Nat.le_refl _)
  omega
end Pg

set_option Elab.async false
set_option linter.all false
set_option maxRecDepth 100000
set_option maxHeartbeats 4000000
namespace Pg
open PySem PySem.Spec PyProof.Rows L2
/-! ### an item of a list, read for an augmented assignment -/
section
variable {X : Cx}
theorem get_list : PGet X (rIxL X.K) := by
  intro pins s σ H o i ov iv Q I ro ri ⟨p, xs, k, v, eo, ei, hq, he, q⟩
  subst eo ei
  cases ro
  obtain ⟨t, rfl⟩ := ri
  obtain ⟨its, r, pl, hz⟩ := I.list hq
  obtain ⟨j, a1, a2, a3, a4, a5⟩ := atI_get he
  obtain ⟨w, ew, rw'⟩ := r.get a2
  have hlen := r.length
  have h63 := line63
  have done : EP X pins σ Q w s := ⟨v, H, I, rw', q⟩
  by_cases hk : 0 ≤ k
  · have ej : k.toNat = j := by
      rw [seqIndex_of hk a5] at a1
      exact Option.some.inj a1
    exact wpAny_getItem_list pl.isList hk (by omega) (by rw [ej]; simpa using ew) done
  · have ej : (k + (its.toArray.size : Int)).toNat = j := by
      rw [seqIndex_neg (by omega) a4] at a1
      rw [List.size_toArray, ← hlen]
      exact Option.some.inj a1
    exact wpAny_getItem_list_neg pl.isList (by omega) (by rw [List.size_toArray] <;> omega) (by omega) (by rw [ej]; simpa using ew) done
/-- what can't be reached -/
def tNo : TS := fun _ _ _ => False
theorem ps_no {st : Stmt} : PS X st tNo := ⟨fun pins s σ H D I h => h.elim⟩
end
/-! ### the parts of a text -/
abbrev oneC (c : Nat) : Str := ⟨#[c]⟩
def stepS (st : List Str × Bool) (c : Nat) : List Str × Bool :=
  if (lowC c && st.2) = true then (st.1.dropLast ++ [(st.1.getLast?.getD Str.empty) ++ oneC c], true) else if c = 32 then (st.1, lowC c) else (st.1 ++ [oneC c], lowC c)
def splitS (l : List Nat) : List Str := (l.foldl stepS ([], false)).1
/-- words, and the other parts -/
def Wt (x : Str) : Prop := cs x ≠ [] ∧ ∀ c ∈ cs x, lowC c = true
def Pn (x : Str) : Prop := ∃ c, cs x = [c] ∧ lowC c = false ∧ c ≠ 32
def OkB : Bool → List Str → Prop
  | _, [] => True
  | b, x :: r => (Wt x ∧ b = false ∧ OkB true r) ∨ (Pn x ∧ OkB false r)
def OkP (r : List Str) : Prop := r = [] ∨ ∃ p r', r = p :: r' ∧ Pn p ∧ OkB false r'
theorem OkP.ok {r : List Str} (h : OkP r) (b : Bool) : OkB b r := by
  rcases h with rfl | ⟨p, r', rfl, hp, hr⟩
  · exact True.intro
  · exact .inr ⟨hp, hr⟩
theorem OkP.cons {p : Str} {r : List Str} (hp : Pn p) (hr : OkB false r) : OkP (p :: r) := .inr ⟨p, r, rfl, hp, hr⟩
abbrev lp : Str := "("
abbrev rp : Str := ")"
abbrev cm : Str := ","
theorem pn_lp : Pn lp := ⟨40, by decide +kernel, by decide, by decide⟩
theorem pn_rp : Pn rp := ⟨41, by decide +kernel, by decide, by decide⟩
theorem pn_cm : Pn cm := ⟨44, by decide +kernel, by decide, by decide⟩
def toks : Tr → List Str
  | .nm x => [x]
  | .c0 s => [s]
  | .c1 s t => s :: lp :: (toks t ++ [rp])
  | .c2 s t u => s :: lp :: (toks t ++ cm :: (toks u ++ [rp]))
/-- all words of the term are words -/
def WtT : Tr → Prop
  | .nm x => Wt x
  | .c0 s => Wt s
  | .c1 s t => Wt s ∧ WtT t
  | .c2 s t u => Wt s ∧ WtT t ∧ WtT u
theorem tkn_ok : ∀ (t : Tr) {r : List Str}, WtT t → OkP r → OkB false (toks t ++ r)
  | .nm x, r, h, hr => .inl ⟨h, rfl, hr.ok true⟩
  | .c0 s, r, h, hr => .inl ⟨h, rfl, hr.ok true⟩
  | .c1 s t, r, h, hr => by
    show OkB false (s :: lp :: ((toks t ++ [rp]) ++ r))
    rw [List.append_assoc]
    exact .inl ⟨h.1, rfl, .inr ⟨pn_lp, tkn_ok t h.2 (OkP.cons pn_rp (hr.ok false))⟩⟩
  | .c2 s t u, r, h, hr => by
    show OkB false (s :: lp :: ((toks t ++ cm :: (toks u ++ [rp])) ++ r))
    rw [List.append_assoc, List.cons_append, List.append_assoc]
    exact .inl ⟨h.1, rfl, .inr ⟨pn_lp, tkn_ok t h.2.1 (OkP.cons pn_cm (tkn_ok u h.2.2 (OkP.cons pn_rp (hr.ok false))))⟩⟩
theorem str_app_oneC {x : Str} {c : Nat} : cs (x ++ oneC c) = cs x ++ [c] := by rw [cs_app]
theorem fold_word {acc : List Str} : ∀ (l : List Nat) (p : Str), (∀ c ∈ l, lowC c = true) → ∃ q : Str, cs q = cs p ++ l ∧ l.foldl stepS (acc ++ [p], true) = (acc ++ [q], true)
  | [], p, _ => ⟨p, by simp, rfl⟩
  | c :: l, p, h => by
    have hc := h c (List.mem_cons_self ..)
    obtain ⟨q, h1, h2⟩ := fold_word (acc := acc) l (p ++ oneC c) fun d hd => h d (List.mem_cons_of_mem _ hd)
    refine ⟨q, by rw [h1, str_app_oneC, List.append_assoc]; rfl, ?_⟩
    have e : stepS (acc ++ [p], true) c = (acc ++ [p ++ oneC c], true) := by
      unfold stepS
      rw [hc]
      simp
    rw [List.foldl_cons, e]
    exact h2
theorem fold_wt {acc : List Str} {x : Str} (h : Wt x) : (cs x).foldl stepS (acc, false) = (acc ++ [x], true) := by
  obtain ⟨hne, hall⟩ := h
  cases e : cs x with
  | nil => exact absurd e hne
  | cons c l =>
    rw [e] at hall
    have hc := hall c (List.mem_cons_self ..)
    have hc32 : c ≠ 32 := by
      intro z
      subst z
      exact absurd hc (by decide)
    have e1 : stepS (acc, false) c = (acc ++ [oneC c], true) := by
      unfold stepS
      simp [hc32, hc]
    obtain ⟨q, h1, h2⟩ := fold_word (acc := acc) l (oneC c) fun d hd => hall d (List.mem_cons_of_mem _ hd)
    rw [List.foldl_cons, e1, h2]
    have : q = x := cs_inj (by rw [h1, e]; first | done | rfl)
    rw [this]
theorem fold_pn {acc : List Str} {b : Bool} {x : Str} (h : Pn x) : (cs x).foldl stepS (acc, b) = (acc ++ [x], false) := by
  obtain ⟨c, e, hc, h32⟩ := h
  have ex : x = oneC c := cs_inj (by rw [e])
  rw [e, List.foldl_cons, List.foldl_nil]
  unfold stepS
  simp [h32, ex, hc]
theorem fold_sp {acc : List Str} : ∀ (n : Nat) (b : Bool), ((List.replicate n 32).foldl stepS (acc, b)).1 = acc ∧ (((List.replicate n 32).foldl stepS (acc, b)).2 = true → b = true)
  | 0, b => ⟨rfl, id⟩
  | n + 1, b => by
    have e : stepS (acc, b) 32 = (acc, false) := by
      unfold stepS
      have : lowC 32 = false := by decide
      simp [this]
    rw [List.replicate_succ, List.foldl_cons, e]
    obtain ⟨h1, h2⟩ := fold_sp (acc := acc) n false
    exact ⟨h1, fun z => absurd (h2 z) (by decide)⟩
/-- parts, each with so many spaces behind it -/
def flatG (l : List (Str × Nat)) : List Nat := l.flatMap fun p => cs p.1 ++ List.replicate p.2 32
theorem fold_flat : ∀ (l : List (Str × Nat)) {b b' : Bool} {acc : List Str}, OkB b (l.map (·.1)) → (b' = true → b = true) → ((flatG l).foldl stepS (acc, b')).1 = acc ++ l.map (·.1)
  | [], b, b', acc, _, _ => by simp [flatG]
  | p :: l, b, b', acc, h, hb => by
    have e : flatG (p :: l) = (cs p.1 ++ List.replicate p.2 32) ++ flatG l := by simp [flatG]
    rw [e, List.foldl_append, List.foldl_append]
    rcases h with ⟨hw, e0, hr⟩ | ⟨hp, hr⟩
    · have eb : b' = false := by
        cases b' with
        | false => rfl
        | true => rw [hb rfl] at e0; cases e0
      subst eb
      rw [fold_wt hw]
      obtain ⟨h1, h2⟩ := fold_sp (acc := acc ++ [p.1]) p.2 true
      have ee : (List.replicate p.2 32).foldl stepS (acc ++ [p.1], true) = (acc ++ [p.1], ((List.replicate p.2 32).foldl stepS (acc ++ [p.1], true)).2) := Prod.ext h1 rfl
      rw [ee, fold_flat l hr (fun z => rfl)]
      simp
    · rw [fold_pn hp]
      obtain ⟨h1, h2⟩ := fold_sp (acc := acc ++ [p.1]) p.2 false
      have ee : (List.replicate p.2 32).foldl stepS (acc ++ [p.1], false) = (acc ++ [p.1], ((List.replicate p.2 32).foldl stepS (acc ++ [p.1], false)).2) := Prod.ext h1 rfl
      rw [ee, fold_flat l hr (fun z => absurd (h2 z) (by decide))]
      simp
/-- a text that is a term's parts with spaces before and behind -/
theorem split_term {t : Tr} (h : WtT t) {n0 : Nat} {l : List (Str × Nat)} (e : l.map (·.1) = toks t) : splitS (List.replicate n0 32 ++ flatG l) = toks t := by
  unfold splitS
  rw [List.foldl_append]
  obtain ⟨h1, h2⟩ := fold_sp (acc := []) n0 false
  have ee : (List.replicate n0 32).foldl stepS ([], false) = ([], ((List.replicate n0 32).foldl stepS ([], false)).2) := Prod.ext h1 rfl
  rw [ee, fold_flat l (b := false) (by rw [e]; have := tkn_ok t h (r := []) (.inl rfl); rw [List.append_nil] at this; exact this) h2, e]
  rfl
/-! ### terms that are begun -/
structure Fm where
  s : Str
  done : List Tr
  todo : List Tr
def mkTr (s : Str) : List Tr → Tr
  | [] => .c0 s
  | [t] => .c1 s t
  | t :: u :: _ => .c2 s t u
def restF : List Fm → List Str
  | [] => []
  | f :: fs => (f.todo.flatMap fun k => cm :: toks k) ++ rp :: restF fs
def plug : List Fm → Tr → Tr
  | [], t => t
  | f :: fs, t => plug fs (mkTr f.s (f.done ++ t :: f.todo))
end Pg

set_option Elab.async false
set_option linter.all false
set_option maxRecDepth 100000
set_option maxHeartbeats 4000000
namespace Pg
open PySem PySem.Spec PyProof.Rows L2
/-- a statement of a class statement's body -/
def inner (s : Stmt) (j : Nat) : Stmt := match s with
  | .ClassDef _ _ _ b _ _ _ _ _ _ _ => b.getD j (.Pass ⟨0, 0, 0, 0⟩)
  | _ => .Pass ⟨0, 0, 0, 0⟩
theorem mk_met {P : Program} {w : World} {K : PySem.W.Frag} {mg : Str → Option Value} {base : Heap} {m q : Str} {C : Addr} {st : Stmt} {f : Addr} {fd : FuncData} {N ps : List Str} {k : Nat} {sp : Sp} (c : Cls K C) (me : Meth K C m f) (F : FunD K m q (defArgs st) (defBody st) (defScope st) [] [] f fd) (S : FnScope N ps (defScope st))
    (hb : ∀ (kV doc pm : Value) (an : Option Addr) (cdv ct : Value) (us : List Value), us.length = ps.length → bindArgs (PySem.W.fnOf m q (defArgs st) (defBody st) (defScope st) .none kV doc pm an cdv ct) ⟨us, []⟩ = pure (ps.zip us))
    (len : ∀ vs H Q E, sp vs H Q E → vs.length = ps.length)
    (body : ∀ (cdv : Value) (A : Around) (outer : List Env) (s : Shared) (H : Hp) (vs : List V) (Q : VK) (E : XK), Room k (A.deeper (envOfC q (defScope st) s.heap.objs.size f cdv)) → sp vs H Q E →
      ∃ t, PSs (cxOf CX0 P w K mg base N q (defScope st) f cdv A outer s H E).nox (defBody st) t ∧ t { nx := fun _ H' => Q .non H', rt := Q } (start N vs) H) : C8.Met P w K mg base (k + 1) C m sp [] :=
  ⟨f, fd, ps, [], c, me, F.ok S len (fun cdv A outer s H vs Q E hr h => let ⟨t, a, b⟩ := body cdv A outer s H vs Q E hr h; ⟨t, a.nox, b⟩), F.bindsN hb, .nil⟩
theorem mk_mak {P : Program} {w : World} {K : PySem.W.Frag} {mg : Str → Option Value} {base : Heap} {x q : Str} {C : Addr} {st : Stmt} {f : Addr} {fd : FuncData} {N ps : List Str} {k : Nat} {sp : Sp} (M : Mk K C f) (hm : mg x = some (.ref C)) (F : FunD K "__init__" q (defArgs st) (defBody st) (defScope st) [] [] f fd) (S : FnScope N ps (defScope st))
    (hb : ∀ (kV doc pm : Value) (an : Option Addr) (cdv ct : Value) (us : List Value), us.length = ps.length → bindArgs (PySem.W.fnOf "__init__" q (defArgs st) (defBody st) (defScope st) .none kV doc pm an cdv ct) ⟨us, []⟩ = pure (ps.zip us))
    (len : ∀ vs H Q E, sp vs H Q E → vs.length = ps.length)
    (body : ∀ (cdv : Value) (A : Around) (outer : List Env) (s : Shared) (H : Hp) (vs : List V) (Q : VK) (E : XK), Room k (A.deeper (envOfC q (defScope st) s.heap.objs.size f cdv)) → sp vs H Q E →
      ∃ t, PSs (cxOf CX0 P w K mg base N q (defScope st) f cdv A outer s H E).nox (defBody st) t ∧ t { nx := fun _ H' => Q .non H', rt := Q } (start N vs) H) : C8.Mak P w K mg base (k + 1) x C sp [] :=
  ⟨f, fd, ps, [], M, F.ok S len (fun cdv A outer s H vs Q E hr h => let ⟨t, a, b⟩ := body cdv A outer s H vs Q E hr h; ⟨t, a.nox, b⟩), hm, F.bindsN hb, .nil⟩
/-! ### the parts taken off -/
/-- the object at o: its parts, the next one's index -/
structure PtAt (C o pl : Addr) (H : Hp) (ps : List Str) (i : Nat) : Prop where
  ex : ∃ dx : Addr, H o = some (.ins C dx [("parts", .ref pl), ("at", .int (i : Nat))]) ∧ H pl = some (.lst (ps.map V.str))
structure PtC (K : PySem.W.Frag) (C : Addr) : Prop where
  cl : Cls K C
  nP : NoAttr K C "parts"
  nA : NoAttr K C "at"
def spSpl : Sp := fun vs H Q _ => ∃ x : Str, vs = [.str x] ∧ x.length ≤ 5000 ∧ ∀ p H', H p = none → Same H H' → H' p = some (.lst ((splitS (cs x)).map V.str)) → Q (.ref p) H'
def spPini (C : Addr) : Sp := fun vs H Q _ => ∃ (o dx : Addr) (x : Str), vs = [.ref o, .str x] ∧ H o = some (.ins C dx []) ∧ x.length ≤ 5000 ∧ ∀ pl H', H pl = none → Fr o H H' → PtAt C o pl H' (splitS (cs x)) 0 → Q .non H'
def spPek (C : Addr) : Sp := fun vs H Q _ => ∃ (o pl : Addr) (ps : List Str) (i : Nat), vs = [.ref o] ∧ PtAt C o pl H ps i ∧ ps.length ≤ 10000 ∧ Q (.str (ps.getD i Str.empty)) H
def spTak (C : Addr) : Sp := fun vs H Q _ => ∃ (o pl : Addr) (ps : List Str) (i : Nat), vs = [.ref o] ∧ PtAt C o pl H ps i ∧ ps.length ≤ 10000 ∧ ∀ H' u, H' = upd H o u → PtAt C o pl H' ps (i + 1) → Q (.str (ps.getD i Str.empty)) H'
def spExp (C : Addr) : Sp := fun vs H Q _ => ∃ (o pl : Addr) (ps : List Str) (i : Nat) (x : Str), vs = [.ref o, .str x] ∧ PtAt C o pl H ps i ∧ ps.length ≤ 10000 ∧ ps.getD i Str.empty = x ∧ ∀ H' u, H' = upd H o u → PtAt C o pl H' ps (i + 1) → Q .non H'
def spExe (C : Addr) : Sp := fun vs H Q _ => ∃ (o pl : Addr) (ps : List Str) (i : Nat), vs = [.ref o] ∧ PtAt C o pl H ps i ∧ ps.length ≤ 10000 ∧ ps.length ≤ i ∧ ∀ H' u, H' = upd H o u → PtAt C o pl H' ps (i + 1) → Q .non H'
end Pg

set_option Elab.async false
set_option linter.all false
set_option maxRecDepth 100000
set_option maxHeartbeats 4000000
namespace K03
open PySem PySem.Spec PyProof.Rows L2 Pg
section
variable {P : Program} {w : World} {K : PySem.W.Frag} {mg : Str → Option Value} {base : Heap} {f : Addr} {fd : FuncData} {rsa C : Addr}
abbrev s_spl : Stmt := top 17
abbrev N_spl : List Str := ["text", "parts", "in_row", "char", "small"]
abbrev P_spl : List Str := ["text"]
theorem sc_spl : FnScope N_spl P_spl (defScope s_spl) := ⟨rfl, rfl, rfl, by decide +kernel, rfl, by decide +kernel, by decide +kernel⟩

theorem ok_spl (F : FnP K "split_parts" s_spl f fd) (hm : mg "split_parts" = some (.ref f)) (Z : Zs mg) (c_low : Cal P w K mg base 1 "is_small_letter" spLow []) : Cal P w K mg base 2 "split_parts" spSpl [] := by
  refine mk_cal F hm sc_spl (fun _ _ _ _ _ _ us hl => match us, hl with | [_], _ => rfl) (fun vs H Q E h => ?_) (fun cdv A outer s H vs Q E hr h => ?_)
  · obtain ⟨x, rfl, _⟩ := h
    rfl
  obtain ⟨x, rfl, hx, q⟩ := h
  refine ⟨_, (pss_cons (ps_set (i := 1) sc_spl.nd rfl (by first | exact Or.inl rfl | exact Or.inr rfl) (pe_lst pa_nil))
      (pss_cons (ps_set (i := 2) sc_spl.nd rfl (by first | exact Or.inl rfl | exact Or.inr rfl) pe_bl)
      (pss_cons (ps_for PassesOwn.never rfl (pi_str (pv 0)) (pg_name (i := 3) sc_spl.nd rfl (by first | exact Or.inl rfl | exact Or.inr rfl)) (pss_cons (ps_set (i := 4) sc_spl.nd rfl (by first | exact Or.inl rfl | exact Or.inr rfl) (C8.pe_c c_low hr (by first | decide | omega) rfl (pa_cons (pv 3) pa_nil)))
      (pss_cons (ps_if (PW.pt (pw_and (pt_val (pv 4)) (pw_and1 (pt_val (pv 2))))) (pss_one (ps_augS (pv 1) (pe_un un_neg pe_int) get_list (pv 3) in_addS set_list)) (pss_one (ps_if (pt_cmpR op_ne (pv 3) pe_str (nomark _)) (pss_one (ps_expr (pe_bm PySem.F.plainAttrs_list PySem.F.slot_list_append PySem.F.type_list_append mt_append (pv 1) (pa_cons (pv 3) pa_nil)))) pss_nil)))
      (pss_one (ps_set (i := 2) sc_spl.nd rfl (by first | exact Or.inl rfl | exact Or.inr rfl) (pv 4))))))
      (pss_one (ps_ret (pv 1)))))), ?_⟩
  refine ⟨by decide, fun pl npl => ?_⟩
  refine ⟨_, rfl, x, rfl, ?_⟩
  have hxl : x.length = (cs x).length := cs_len x
  have hsz : x.cps.size = (cs x).length := by simp [cs]
  refine for_it walk_str (fun i σ H' => ∃ (P : List Str) (b : Bool) (o3 o4 : Option V), σ = [some (.str x), some (.ref pl), some (.bl b), o3, o4] ∧ H' pl = some (.lst (P.map V.str)) ∧ ((cs x).take i).foldl stepS ([], false) = (P, b) ∧ (b = true → P ≠ []) ∧ P.length ≤ i ∧ (∀ y ∈ P, y.length ≤ i) ∧ Pg.Fr pl (upd H pl (.lst [])) H')
    ⟨[], false, none, none, rfl, upd_same, rfl, (fun z => by cases z), Nat.le_refl _, (fun _ h => absurd h List.not_mem_nil), Fr.refl⟩ (fun _ _ _ _ _ => True.intro) ?_ ?_
  · rintro i y σ H1 H1' hi ⟨P, b, o3, o4, rfl, hpl, hf, hne, hlen, hall, fr⟩ ⟨rfl, c, hc, rfl⟩
    have ec : (cs x)[i]? = some c := by rw [← hc]; simp [cs]
    have hstep : ((cs x).take (i + 1)).foldl stepS ([], false) = stepS (P, b) c := by
      rw [take_snoc ec, List.foldl_append, hf]
      rfl
    refine ⟨_, rfl, c, rfl, fun H2 s2 => ?_⟩
    have hpl2 := s2 _ _ hpl
    have fr2 : Pg.Fr pl (upd H pl (.lst [])) H2 := fr.trans (Fr.of s2)
    dsimp only [gName, tSeq, tNext]
    refine TV.ifs (TV.and (fun Q q => ⟨_, rfl, _, rfl, q⟩) (fun Q q => ⟨_, rfl, _, rfl, q⟩)) (fun hb => ?_) (fun hb => ?_)
    · have hbb := Bool.and_eq_true_iff.mp hb
      rcases List.eq_nil_or_concat P with e | ⟨P0, z, e⟩
      · exact absurd e (hne hbb.2)
      rw [List.concat_eq_append] at e
      subst e
      have hst : stepS (P0 ++ [z], b) c = (P0 ++ [z ++ oneC c], true) := by
        unfold stepS
        rw [if_pos hb]
        simp
      have hzl := hall z (by simp)
      have hix : ixN ((P0 ++ [z]).map V.str).length (-1) = some P0.length := by
        unfold ixN
        rw [List.length_map, List.length_append, List.length_singleton]
        have h1 : ¬ (0 : Int) ≤ -1 := by decide
        have h2 : -((P0.length + 1 : Nat) : Int) ≤ -1 := by omega
        rw [if_neg h1, if_pos h2]
        congr 1
        omega
      have hat : atI ((P0 ++ [z]).map V.str) (-1) = some (.str z) := by
        unfold atI
        rw [hix]
        show ((P0 ++ [z]).map V.str)[P0.length]? = _
        rw [List.map_append, List.getElem?_append_right (by simp)]
        simp
      have e1 : (oneC c).length = 1 := rfl
      refine ⟨_, rfl, 1, rfl, pl, _, -1, _, rfl, rfl, SqL.mk hpl2, hat, _, rfl, z, oneC c, rfl, rfl, Nat.le_of_lt (smallN (by omega)), pl, _, -1, P0.length, rfl, rfl, hpl2, hix, ?_⟩
      refine ⟨_, rfl, P0 ++ [z ++ oneC c], true, some (.str (oneC c)), some (.bl (lowC c)), ?_, ?_, hstep.trans hst, (fun _ => by simp), ?_, fun y hy => ?_, fr2.trans Fr.own⟩
      · rw [hbb.1]; rfl
      · rw [upd_same]
        congr 2
        rw [List.map_append, List.map_append, List.set_append_right _ _ (by simp)]
        simp
      · rw [List.length_append, List.length_singleton] at hlen ⊢
        omega
      · rcases List.mem_append.mp hy with h | h
        · have := hall y (List.mem_append_left _ h)
          omega
        · rw [List.mem_singleton] at h
          rw [h, PySem.Str.length_append, e1]
          omega
    · refine ⟨_, rfl, rfl, _, rfl, ite2 (fun e => ?_) (fun e => ?_)⟩
      · have h32 : c ≠ 32 := fun z => by
          subst z
          simp at e
          exact e (by decide +kernel)
        have hst : stepS (P, b) c = (P ++ [oneC c], lowC c) := by
          unfold stepS
          rw [if_neg (by rw [hb]; decide), if_neg h32]
        refine ⟨_, rfl, .inl ⟨rfl, _, SqL.mk hpl2⟩, _, rfl, pl, _, _, rfl, rfl, hpl2, by rw [List.length_map]; exact smallN (by omega), ?_⟩
        refine ⟨_, rfl, P ++ [oneC c], lowC c, _, _, rfl, by rw [upd_same, List.map_append]; rfl, hstep.trans hst, (fun _ => by simp), by rw [List.length_append]; show P.length + 1 ≤ i + 1; omega, fun y hy => ?_, fr2.trans Fr.own⟩
        rcases List.mem_append.mp hy with h | h
        · have := hall y h
          omega
        · rw [List.mem_singleton] at h
          rw [h]
          show 1 ≤ i + 1
          omega
      · have h32 : c = 32 := by
          have e' : ¬ (decide (V.str (oneC c) = V.str (PySem.Str.ofString " ")) = false) := fun z => e (by simpa using z)
          have e2 : V.str (oneC c) = V.str (PySem.Str.ofString " ") := by simpa using e'
          have e3 : cs (oneC c) = cs (PySem.Str.ofString " ") := by rw [V.str.inj e2]
          have e4 : cs (PySem.Str.ofString " ") = [32] := by decide +kernel
          rw [e4] at e3
          exact (List.cons.inj e3).1
        have hst : stepS (P, b) c = (P, lowC c) := by
          unfold stepS
          rw [if_neg (by rw [hb]; decide), if_pos h32]
        refine ⟨_, rfl, P, lowC c, _, _, rfl, hpl2, hstep.trans hst, (fun z => ?_), by omega, fun y hy => Nat.le_succ_of_le (hall y hy), fr2⟩
        rw [h32] at z
        exact absurd z (by decide)
  · rintro σ H2 ⟨P, b, o3, o4, rfl, hpl, hf, _, _, _, fr⟩
    rw [hsz, List.take_length] at hf
    refine ⟨_, rfl, q pl H2 npl (fun a u ha => fr _ _ (ne_of_none ha npl) ?_) ?_⟩
    · rw [upd_ne (ne_of_none ha npl)]; exact ha
    · rw [hpl]
      unfold splitS
      rw [hf]
abbrev s_pini : Stmt := (inner (top 18) 0)
abbrev N_pini : List Str := ["self", "text"]
abbrev P_pini : List Str := ["self", "text"]
theorem sc_pini : FnScope N_pini P_pini (defScope s_pini) := ⟨rfl, rfl, rfl, by decide +kernel, rfl, by decide +kernel, by decide +kernel⟩

theorem ok_pini {q : Str} (M : Mk K C f) (hm : mg "Parts" = some (.ref C)) (T : PtC K C) (F : FunD K "__init__" q (defArgs s_pini) (defBody s_pini) (defScope s_pini) [] [] f fd) (c_spl : Cal P w K mg base 2 "split_parts" spSpl []) : C8.Mak P w K mg base 3 "Parts" C (spPini C) [] := by
  refine mk_mak M hm F sc_pini (fun _ _ _ _ _ _ us hl => match us, hl with | [_, _], _ => rfl) (fun vs H Q E h => ?_) (fun cdv A outer s H vs Q E hr h => ?_)
  · obtain ⟨o, dx, x, rfl, _⟩ := h
    rfl
  obtain ⟨o, dx, x, rfl, ho, hx, q⟩ := h
  refine ⟨_, (pss_cons (ps_fld (pv 0) (C8.pe_c c_spl hr (by first | decide | omega) rfl (pa_cons (pv 1) pa_nil)) rfl)
      (pss_one (ps_fld (pv 0) pe_int rfl))), ?_⟩
  refine ⟨_, rfl, x, rfl, hx, fun pl H1 npl sm hpl => ?_⟩
  have ho1 := sm _ _ ho
  refine ⟨_, rfl, o, C, dx, _, rfl, ho1, T.cl, T.nP, (by decide), ?_⟩
  refine ⟨_, rfl, o, C, dx, _, rfl, upd_same, T.cl, T.nA, (by show 1 < 1000; decide), ?_⟩
  have npo : pl ≠ o := (ne_of_none ho npl).symm
  refine q pl _ npl (fun b u nb hb => ?_) ⟨dx, upd_same, ?_⟩
  · rw [upd_ne nb, upd_ne nb]; exact sm _ _ hb
  · rw [upd_ne npo, upd_ne npo]; exact hpl
abbrev s_pek : Stmt := (inner (top 18) 1)
abbrev N_pek : List Str := ["self"]
abbrev P_pek : List Str := ["self"]
theorem sc_pek : FnScope N_pek P_pek (defScope s_pek) := ⟨rfl, rfl, rfl, by decide +kernel, rfl, by decide +kernel, by decide +kernel⟩

theorem ok_pek {q : Str} (me : Meth K C "peek" f) (T : PtC K C) (F : FunD K "peek" q (defArgs s_pek) (defBody s_pek) (defScope s_pek) [] [] f fd) (Z : Zs mg) : C8.Met P w K mg base 1 C "peek" (spPek C) [] := by
  refine mk_met T.cl me F sc_pek (fun _ _ _ _ _ _ us hl => match us, hl with | [_], _ => rfl) (fun vs H Q E h => ?_) (fun cdv A outer s H vs Q E hr h => ?_)
  · obtain ⟨o, pl, ps, i, rfl, _⟩ := h
    rfl
  obtain ⟨o, pl, ps, i, rfl, hp, hl, q⟩ := h
  obtain ⟨dx, ho, hpl⟩ := hp.ex
  refine ⟨_, (pss_cons (ps_if (pt_cmpR op_lt (pe_fld (pv 0) rfl) (pe_callB call_len_seq (by rfl) Z.len (by decide +kernel) (pa_cons (pe_fld (pv 0) rfl) pa_nil)) (nomark _)) (pss_one (ps_ret (pe_ix ix_list (pe_fld (pv 0) rfl) (pe_fld (pv 0) rfl) (fun _ _ => rfl)))) pss_nil)
      (pss_one (ps_ret pe_str))), ?_⟩
  refine ⟨_, rfl, o, C, dx, _, _, rfl, ho, T.cl, T.nA, rfl, _, rfl, o, C, dx, _, _, rfl, ho, T.cl, T.nP, rfl, pl, _, rfl, .inl (SqL.mk hpl), _, _, rfl, rfl, _, rfl, ite2 (fun e => ?_) (fun e => ?_)⟩
  · have hi : i < ps.length := by
      have := of_decide_eq_true e
      rw [List.length_map] at this
      omega
    refine ⟨_, rfl, o, C, dx, _, _, rfl, ho, T.cl, T.nP, rfl, _, rfl, o, C, dx, _, _, rfl, ho, T.cl, T.nA, rfl, pl, _, _, .str (ps.getD i Str.empty), rfl, rfl, SqL.mk hpl, atI_nat ?_, q⟩
    rw [List.getElem?_map, List.getElem?_eq_getElem hi, List.getD_eq_getElem?_getD, List.getElem?_eq_getElem hi]
    rfl
  · have hi : ¬ i < ps.length := fun z => e (decide_eq_true (by rw [List.length_map]; omega))
    have : ps.getD i Str.empty = Str.empty := by rw [List.getD_eq_getElem?_getD, List.getElem?_eq_none (by omega)]; rfl
    rw [this] at q
    exact q
abbrev s_tak : Stmt := (inner (top 18) 2)
abbrev N_tak : List Str := ["self", "part"]
abbrev P_tak : List Str := ["self"]
theorem sc_tak : FnScope N_tak P_tak (defScope s_tak) := ⟨rfl, rfl, rfl, by decide +kernel, rfl, by decide +kernel, by decide +kernel⟩

theorem ok_tak {q : Str} (me : Meth K C "take" f) (T : PtC K C) (F : FunD K "take" q (defArgs s_tak) (defBody s_tak) (defScope s_tak) [] [] f fd) (m_pek : C8.Met P w K mg base 1 C "peek" (spPek C) []) : C8.Met P w K mg base 2 C "take" (spTak C) [] := by
  refine mk_met T.cl me F sc_tak (fun _ _ _ _ _ _ us hl => match us, hl with | [_], _ => rfl) (fun vs H Q E h => ?_) (fun cdv A outer s H vs Q E hr h => ?_)
  · obtain ⟨o, pl, ps, i, rfl, _⟩ := h
    rfl
  obtain ⟨o, pl, ps, i, rfl, hp, hl, q⟩ := h
  obtain ⟨dx, ho, hpl⟩ := hp.ex
  refine ⟨_, (pss_cons (ps_set (i := 1) sc_tak.nd rfl (by first | exact Or.inl rfl | exact Or.inr rfl) (C8.pe_mt0 (pl := _) m_pek hr (by first | decide | omega) (pv 0)))
      (pss_cons (ps_fldaug (pv 0) pe_int in_add)
      (pss_one (ps_ret (pv 1))))), ?_⟩
  refine ⟨_, rfl, o, dx, _, rfl, ho, rfl, o, pl, ps, i, rfl, hp, hl, ?_⟩
  refine ⟨_, rfl, o, C, dx, _, _, rfl, ho, T.cl, T.nA, rfl, _, _, rfl, rfl, dx, _, ho, (by show 2 < 1000; decide), ?_⟩
  refine ⟨_, rfl, q _ _ rfl ⟨dx, ?_, ?_⟩⟩
  · rw [upd_same]
    rfl
  · rw [upd_ne (ne_of hpl ho (by intro z; cases z))]
    exact hpl
abbrev s_exp : Stmt := (inner (top 18) 3)
abbrev N_exp : List Str := ["self", "part"]
abbrev P_exp : List Str := ["self", "part"]
theorem sc_exp : FnScope N_exp P_exp (defScope s_exp) := ⟨rfl, rfl, rfl, by decide +kernel, rfl, by decide +kernel, by decide +kernel⟩

theorem ok_exp {q : Str} (me : Meth K C "expect" f) (T : PtC K C) (F : FunD K "expect" q (defArgs s_exp) (defBody s_exp) (defScope s_exp) [] [] f fd) (m_tak : C8.Met P w K mg base 2 C "take" (spTak C) []) : C8.Met P w K mg base 3 C "expect" (spExp C) [] := by
  refine mk_met T.cl me F sc_exp (fun _ _ _ _ _ _ us hl => match us, hl with | [_, _], _ => rfl) (fun vs H Q E h => ?_) (fun cdv A outer s H vs Q E hr h => ?_)
  · obtain ⟨o, pl, ps, i, x, rfl, _⟩ := h
    rfl
  obtain ⟨o, pl, ps, i, x, rfl, hp, hl, hx, q⟩ := h
  obtain ⟨dx, ho, hpl⟩ := hp.ex
  refine ⟨_, (pss_one (ps_if (pt_cmpR op_ne (C8.pe_mt0 (pl := _) m_tak hr (by first | decide | omega) (pv 0)) (pv 1) (nomark _)) (pss_one ps_no) pss_nil)), ?_⟩
  refine ⟨_, rfl, o, dx, _, rfl, ho, rfl, o, pl, ps, i, rfl, hp, hl, fun H' u eu hp' => ?_⟩
  refine ⟨_, rfl, rfl, _, rfl, ite2 (fun e => ?_) (fun _ => ?_)⟩
  · rw [hx] at e
    simp at e
  · exact q H' u eu hp'
abbrev s_exe : Stmt := (inner (top 18) 4)
abbrev N_exe : List Str := ["self"]
abbrev P_exe : List Str := ["self"]
theorem sc_exe : FnScope N_exe P_exe (defScope s_exe) := ⟨rfl, rfl, rfl, by decide +kernel, rfl, by decide +kernel, by decide +kernel⟩

theorem ok_exe {q : Str} (me : Meth K C "expect_end" f) (T : PtC K C) (F : FunD K "expect_end" q (defArgs s_exe) (defBody s_exe) (defScope s_exe) [] [] f fd) (m_exp : C8.Met P w K mg base 3 C "expect" (spExp C) []) : C8.Met P w K mg base 4 C "expect_end" (spExe C) [] := by
  refine mk_met T.cl me F sc_exe (fun _ _ _ _ _ _ us hl => match us, hl with | [_], _ => rfl) (fun vs H Q E h => ?_) (fun cdv A outer s H vs Q E hr h => ?_)
  · obtain ⟨o, pl, ps, i, rfl, _⟩ := h
    rfl
  obtain ⟨o, pl, ps, i, rfl, hp, hl, hi, q⟩ := h
  obtain ⟨dx, ho, hpl⟩ := hp.ex
  refine ⟨_, (pss_one (ps_expr (C8.pe_mt (pl := _) m_exp hr (by first | decide | omega) (pv 0) (pa_cons pe_str pa_nil)))), ?_⟩
  refine ⟨_, rfl, o, dx, _, rfl, ho, rfl, o, pl, ps, i, _, rfl, hp, hl, ?_, fun H' u eu hp' => q H' u eu hp'⟩
  rw [List.getD_eq_getElem?_getD, List.getElem?_eq_none (by omega)]
  rfl
end
end K03

set_option Elab.async false
set_option linter.all false
set_option maxRecDepth 100000
set_option maxHeartbeats 4000000
namespace Pg
open PySem PySem.Spec PyProof.Rows L2 LamX
/-! ### a term being taken off the parts -/
/-- what is told of terms that are read: each name is a word and no sign, each sign has its arity -/
def RdOk (sg : Sg) : Tr → Prop
  | .nm x => numB sg x = -1 ∧ isW x = true
  | .c0 s => numB sg s = 0
  | .c1 s t => numB sg s = 1 ∧ RdOk sg t
  | .c2 s t u => numB sg s = 2 ∧ RdOk sg t ∧ RdOk sg u
structure FmOk (sg : Sg) (f : Fm) : Prop where
  ar : numB sg f.s = (f.done.length + 1 + f.todo.length : Nat)
  le : f.done.length + 1 + f.todo.length ≤ 2
  td : ∀ k ∈ f.todo, RdOk sg k
/-- the list of begun terms at bl: rs the lists of the terms, the last begun one first -/
structure BgAt (K : PySem.W.Frag) (sg : Sg) (H0 H : Hp) (bl : Addr) (rs : List Addr) (fs : List Fm) : Prop where
  at_ : H bl = some (.lst (rs.reverse.map V.ref))
  fr : Paired (fun r (f : Fm) => ∃ us, H r = some (.lst (.str f.s :: us)) ∧ KidsAt K H us f.done) rs fs
  nd : rs.Nodup
  nb : bl ∉ rs
  new : H0 bl = none ∧ ∀ r ∈ rs, H0 r = none
  ok : ∀ f ∈ fs, FmOk sg f
  le : fs.length ≤ 10000
/-- the parts' object -/
structure PoAt (C o pl : Addr) (H0 H : Hp) (bl : Addr) (rs : List Addr) (ps : List Str) (i : Nat) : Prop where
  pt : PtAt C o pl H ps i
  len : ps.length ≤ 10000
  new : H0 o = none
  npb : pl ≠ bl
  npr : pl ∉ rs
  sm : Same H0 H
theorem PtAt.ne {C o pl q : Addr} {H : Hp} {ps : List Str} {i : Nat} {xs : List V} (p : PtAt C o pl H ps i) (h : H q = some (.lst xs)) : o ≠ q := by
  obtain ⟨dx, ho, _⟩ := p.ex
  exact ne_of ho h (by intro z; cases z)
theorem PtAt.put {C o pl q : Addr} {H : Hp} {ps : List Str} {i : Nat} {xs : List V} {u : HO} (p : PtAt C o pl H ps i) (h : H q = some (.lst xs)) (n : pl ≠ q) : PtAt C o pl (upd H q u) ps i := by
  obtain ⟨dx, ho, hp⟩ := p.ex
  exact ⟨dx, by rw [upd_ne (p.ne h)]; exact ho, by rw [upd_ne n]; exact hp⟩
theorem PtAt.same {C o pl : Addr} {H H' : Hp} {ps : List Str} {i : Nat} (p : PtAt C o pl H ps i) (s : Same H H') : PtAt C o pl H' ps i := by
  obtain ⟨dx, ho, hp⟩ := p.ex
  exact ⟨dx, s _ _ ho, s _ _ hp⟩
theorem PtAt.tk {K : PySem.W.Frag} {C o pl : Addr} {H : Hp} {ps : List Str} {i : Nat} {u : HO} (p : PtAt C o pl H ps i) : TK K H (upd H o u) := by
  obtain ⟨dx, ho, _⟩ := p.ex
  intro q ys h
  have hne : ∀ {x : HO}, H q = some x → (∀ C dx fs, x ≠ .ins C dx fs) → q ≠ o := fun e n => ne_of e ho (n _ _ _)
  rcases h with (h | ⟨x, h⟩) | h
  · exact .inl (.inl (by rw [upd_ne (hne h (fun _ _ _ z => by cases z))]; exact h))
  · exact .inl (.inr ⟨x, by rw [upd_ne (hne h (fun _ _ _ z => by cases z))]; exact h⟩)
  · exact .inr h
/-- the list at b changes nothing of the others -/
theorem frames_keep {K : PySem.W.Frag} {H H' : Hp} (tk : TK K H H') : ∀ {rs : List Addr} {fs : List Fm}, (∀ r ∈ rs, ∀ xs, H r = some (.lst xs) → H' r = some (.lst xs)) → Paired (fun r (f : Fm) => ∃ us, H r = some (.lst (.str f.s :: us)) ∧ KidsAt K H us f.done) rs fs → Paired (fun r (f : Fm) => ∃ us, H' r = some (.lst (.str f.s :: us)) ∧ KidsAt K H' us f.done) rs fs
  | _, _, _, .nil => .nil
  | r :: rs, f :: fs, h, .cons ⟨us, a, b⟩ t => .cons ⟨us, h r (List.mem_cons_self ..) _ a, b.keep tk⟩ (frames_keep tk (fun r hr => h r (List.mem_cons_of_mem _ hr)) t)
def spLof (K : PySem.W.Frag) : Sp := fun vs H Q _ => ∃ (g : Addr) (sg : Sg) (x : Str) (t : Tr), vs = [.ref g, .str x] ∧ SgAt K H g sg ∧ sg.length ≤ 1000 ∧ x.length ≤ 1000 ∧ ((t = .c0 x ∧ numB sg x = 0) ∨ (t = .nm x ∧ numB sg x = -1 ∧ isW x = true)) ∧ ∀ v H', TrAt K H' t v → Same H H' → Q v H'
def spEnd (K : PySem.W.Frag) (C : Addr) : Sp := fun vs H Q _ => ∃ (g o pl bl : Addr) (v : V) (H0 : Hp) (sg : Sg) (ps tail : List Str) (i : Nat) (rs : List Addr) (fs : List Fm) (t T : Tr), vs = [.ref g, .ref o, .ref bl, v] ∧ SgAt K H g sg ∧ sg.length ≤ 1000 ∧ TrAt K H t v ∧ PoAt C o pl H0 H bl rs ps i ∧ BgAt K sg H0 H bl rs fs ∧ ps.drop i = restF fs ++ tail ∧ plug fs t = T ∧
  (∀ v' H' i' rs', TrAt K H' T v' → v' ≠ .non → PoAt C o pl H0 H' bl rs' ps i' → ps.drop i' = tail → TK K H H' → Q v' H') ∧
  (∀ H' i' rs' fs' k, PoAt C o pl H0 H' bl rs' ps i' → BgAt K sg H0 H' bl rs' fs' → ps.drop i' = toks k ++ (restF fs' ++ tail) → plug fs' k = T → RdOk sg k → i < i' → fs'.length ≤ fs.length → TK K H H' → Q .non H')
def spTkt (K : PySem.W.Frag) (C : Addr) : Sp := fun vs H Q _ => ∃ (g o pl : Addr) (H0 : Hp) (sg : Sg) (ps tail : List Str) (i : Nat) (T : Tr), vs = [.ref g, .ref o] ∧ SgAt K H g sg ∧ sg.length ≤ 1000 ∧ PtAt C o pl H ps i ∧ ps.length ≤ 10000 ∧ (∀ x ∈ ps, x.length ≤ 1000) ∧ H0 o = none ∧ Same H0 H ∧ ps.drop i = toks T ++ tail ∧ RdOk sg T ∧
  ∀ v' H' i', TrAt K H' T v' → PtAt C o pl H' ps i' → ps.drop i' = tail → Same H0 H' → TK K H H' → Q v' H'
theorem toks_len : ∀ t : Tr, (toks t).length ≤ 4 * t.size
  | .nm _ => by show 1 ≤ 4; omega
  | .c0 _ => by show 1 ≤ 4; omega
  | .c1 s t => by
    have := toks_len t
    show (s :: lp :: (toks t ++ [rp])).length ≤ 4 * (1 + t.size)
    simp only [List.length_cons, List.length_append, List.length_nil]
    omega
  | .c2 s t u => by
    have := toks_len t
    have := toks_len u
    show (s :: lp :: (toks t ++ cm :: (toks u ++ [rp]))).length ≤ 4 * (1 + t.size + u.size)
    simp only [List.length_cons, List.length_append, List.length_nil]
    omega
structure GRd (mg : Str → Option Value) : Prop where
  mx : ∃ u, mg "MAX_TERM_TEXT" = some u ∧ RelV (.int 4000) u
  mt : ∃ u, mg "MAX_TREE" = some u ∧ RelV (.int 400) u
  md : ∃ u, mg "MAX_DEEP" = some u ∧ RelV (.int 100) u
def spRdt (K : PySem.W.Frag) (P : Addr) (q : Str) : Sp := fun vs H Q _ => ∃ (g : Addr) (sg : Sg) (x : Str) (t : Tr), vs = [.ref g, .str x] ∧ SgAt K H g sg ∧ sg.length ≤ 1000 ∧ x.length ≤ 4000 ∧ splitS (cs x) = toks t ∧ RdOk sg t ∧ (∀ y ∈ toks t, y.length ≤ 1000) ∧ t.size ≤ 400 ∧ t.dep ≤ 100 ∧ TabS H P q ∧ ∀ v H', TrAt K H' t v → ButP P H H' → TabS H' P q → Q v H'
end Pg

set_option Elab.async false
set_option linter.all false
set_option maxRecDepth 100000
set_option maxHeartbeats 4000000
namespace K03
open PySem PySem.Spec PyProof.Rows L2 Pg LamX
section
variable {P : Program} {w : World} {K : PySem.W.Frag} {mg : Str → Option Value} {base : Heap} {f : Addr} {fd : FuncData} {rsa C : Addr}
abbrev s_lof : Stmt := top 25
abbrev N_lof : List Str := ["signs", "word"]
abbrev P_lof : List Str := ["signs", "word"]
theorem sc_lof : FnScope N_lof P_lof (defScope s_lof) := ⟨rfl, rfl, rfl, by decide +kernel, rfl, by decide +kernel, by decide +kernel⟩

theorem ok_lof (F : FnP K "leaf_of" s_lof f fd) (hm : mg "leaf_of" = some (.ref f)) (c_aro : Cal P w K mg base 2 "arity_of" (spNub K) []) (c_isw : Cal P w K mg base 2 "is_word" spIsw []) : Cal P w K mg base 3 "leaf_of" (spLof K) [] := by
  refine mk_cal F hm sc_lof (fun _ _ _ _ _ _ us hl => match us, hl with | [_, _], _ => rfl) (fun vs H Q E h => ?_) (fun cdv A outer s H vs Q E hr h => ?_)
  · obtain ⟨g, sg, x, t, rfl, _⟩ := h
    rfl
  obtain ⟨g, sg, x, t, rfl, hsg, hl, hxl, hc, q⟩ := h
  refine ⟨_, (pss_cons (ps_if (pt_cmpR op_eq (C8.pe_c c_aro hr (by first | decide | omega) rfl (pa_cons (pv 0) (pa_cons (pv 1) pa_nil))) pe_int (nomark _)) (pss_one (ps_ret (pe_tup (pa_cons (pv 1) pa_nil)))) pss_nil)
      (pss_cons (ps_if (pt_not (pt_val (C8.pe_c c_isw hr (by first | decide | omega) rfl (pa_cons (pv 1) pa_nil)))) (pss_one ps_no) pss_nil)
      (pss_one (ps_ret (pv 1))))), ?_⟩
  refine ⟨_, rfl, _, rfl, g, sg, x, rfl, hsg, hl, fun H1 s1 => ⟨rfl, _, rfl, ite2 (fun e => ?_) (fun e => ?_)⟩⟩
  · have e0 : numB sg x = 0 := V.int.inj (of_decide_eq_true e)
    rcases hc with ⟨rfl, _⟩ | ⟨_, h2, _⟩
    · refine ⟨_, rfl, (by show 1 ≤ sizeLine; decide), fun p np => q _ _ ⟨p, rfl, SqT.mk upd_same⟩ (s1.trans (Same.new np))⟩
    · omega
  · rcases hc with ⟨_, h2⟩ | ⟨rfl, h2, h3⟩
    · exact absurd (decide_eq_true (by rw [h2])) e
    · refine ⟨_, rfl, x, rfl, by omega, fun H2 s2 => ⟨_, rfl, ite2 (fun e => ?_) (fun _ => ?_)⟩⟩
      · rw [h3] at e
        cases e
      · exact ⟨_, rfl, q _ H2 rfl (s1.trans s2)⟩
abbrev s_end : Stmt := top 26
abbrev N_end : List Str := ["signs", "parts", "begun", "term"]
abbrev P_end : List Str := ["signs", "parts", "begun", "term"]
theorem sc_end : FnScope N_end P_end (defScope s_end) := ⟨rfl, rfl, rfl, by decide +kernel, rfl, by decide +kernel, by decide +kernel⟩

theorem ok_end (F : FnP K "end_terms" s_end f fd) (hm : mg "end_terms" = some (.ref f)) (Z : Zs mg) (c_aro : Cal P w K mg base 2 "arity_of" (spNub K) []) (m_exp : C8.Met P w K mg base 3 C "expect" (spExp C) []) : Cal P w K mg base 4 "end_terms" (spEnd K C) [] := by
  refine mk_cal F hm sc_end (fun _ _ _ _ _ _ us hl => match us, hl with | [_, _, _, _], _ => rfl) (fun vs H Q E h => ?_) (fun cdv A outer s H vs Q E hr h => ?_)
  · obtain ⟨g, o, pl, bl, v, H0, sg, ps, tail, i, rs, fs, t, T, rfl, _⟩ := h
    rfl
  obtain ⟨g, o, pl, bl, v, H0, sg, ps, tail, i, rs, fs, t, T, rfl, hsg, hl, ht, po, bg, hd, hpT, qA, qB⟩ := h
  refine ⟨_, (pss_cons (ps_while PassesOwn.never (pt_truth (pv 2) (fun _ => rfl)) (pss_cons (ps_expr (pe_bm PySem.F.plainAttrs_list PySem.F.slot_list_append PySem.F.type_list_append mt_append (pe_ix ix_list (pv 2) (pe_un un_neg pe_int) (fun _ _ => rfl)) (pa_cons (pv 3) pa_nil)))
      (pss_cons (ps_if (pt_cmpR op_le (pe_callB call_len_seq (by rfl) Z.len (by decide +kernel) (pa_cons (pe_ix ix_list (pv 2) (pe_un un_neg pe_int) (fun _ _ => rfl)) pa_nil)) (C8.pe_c c_aro hr (by first | decide | omega) rfl (pa_cons (pv 0) (pa_cons (pe_ix ix_list (pe_ix ix_list (pv 2) (pe_un un_neg pe_int) (fun _ _ => rfl)) pe_int (fun _ _ => rfl)) pa_nil))) (nomark _)) (pss_cons (ps_expr (C8.pe_mt (pl := _) m_exp hr (by first | decide | omega) (pv 1) (pa_cons pe_str pa_nil)))
      (pss_one (ps_ret pe_non))) pss_nil)
      (pss_cons (ps_expr (C8.pe_mt (pl := _) m_exp hr (by first | decide | omega) (pv 1) (pa_cons pe_str pa_nil)))
      (pss_one (ps_set (i := 3) sc_end.nd rfl (by first | exact Or.inl rfl | exact Or.inr rfl) (pe_callTy call_tuple_of (by rfl) Z.tuple (by decide +kernel) (pa_cons (pe_bm0 PySem.F.plainAttrs_list PySem.F.slot_list_pop PySem.F.type_list_pop mt_pop (pv 2)) pa_nil))))))))
      (pss_one (ps_ret (pv 3)))), ?_⟩
  obtain ⟨nf, hnf⟩ : ∃ nf, nf = fs.length := ⟨_, rfl⟩
  rw [← hnf] at qB
  dsimp only [tSeq, gName]
  refine while_tv (fun m σ H' => ∃ (v : V) (t : Tr) (rs : List Addr) (fs : List Fm) (j : Nat), σ = [some (.ref g), some (.ref o), some (.ref bl), some v] ∧ TrAt K H' t v ∧ PoAt C o pl H0 H' bl rs ps j ∧ BgAt K sg H0 H' bl rs fs ∧ ps.drop j = restF fs ++ tail ∧ plug fs t = T ∧ i ≤ j ∧ m = fs.length ∧ fs.length ≤ nf ∧ TK K H H')
    ⟨_, v, t, rs, fs, i, rfl, ht, po, bg, hd, hpT, Nat.le_refl _, rfl, Nat.le_of_eq hnf.symm, TK.refl⟩ ?_
  rintro m σ H1 ⟨v, t, rs, fs, j, rfl, ht, po, bg, hd, hpT, hij, rfl, hfn, tk⟩
  clear hnf
  refine ⟨!(rs.reverse.map V.ref).isEmpty, fun Q q => ⟨_, rfl, _, .inl ⟨_, SqL.mk bg.at_, rfl⟩, q⟩, fun e => ?_, fun e => ?_⟩
  · have hfr := bg.fr
    cases fs with
    | nil =>
      cases hfr
      cases e
    | cons fm fs =>
    obtain ⟨r, rs', rfl⟩ : ∃ r rs', rs = r :: rs' := by
      cases hfr with
      | cons a b => exact ⟨_, _, rfl⟩
    obtain ⟨⟨us, hr1, hus⟩, hrest⟩ : (∃ us, H1 r = some (.lst (.str fm.s :: us)) ∧ KidsAt K H1 us fm.done) ∧ Paired (fun r (f : Fm) => ∃ us, H1 r = some (.lst (.str f.s :: us)) ∧ KidsAt K H1 us f.done) rs' fs := by
      cases hfr with
      | cons a b => exact ⟨a, b⟩
    have hul := paired_len hus
    have fok := bg.ok fm (List.mem_cons_self ..)
    have hlast : ∀ {H' : Hp}, H' bl = some (.lst ((r :: rs').reverse.map V.ref)) → atI ((r :: rs').reverse.map V.ref) (-1) = some (.ref r) := fun _ => by
      have e1 : (r :: rs').reverse.map V.ref = rs'.reverse.map V.ref ++ [V.ref r] := by simp
      rw [e1]
      unfold atI ixN
      have h1 : ¬ (0 : Int) ≤ -1 := by decide
      rw [List.length_append, List.length_singleton, if_neg h1, if_pos (by omega)]
      show (rs'.reverse.map V.ref ++ [V.ref r])[(-1 + ((rs'.reverse.map V.ref).length + 1 : Nat) : Int).toNat]? = _
      rw [show (-1 + (((rs'.reverse.map V.ref).length + 1 : Nat) : Int)).toNat = (rs'.reverse.map V.ref).length by omega, List.getElem?_append_right (Nat.le_refl _), Nat.sub_self]
      rfl
    have nrb : r ≠ bl := fun z => bg.nb (by rw [z]; exact List.mem_cons_self ..)
    have npr : pl ≠ r := fun z => po.npr (by rw [z]; exact List.mem_cons_self ..)
    have ndr := List.nodup_cons.mp bg.nd
    -- append
    refine ⟨_, rfl, 1, rfl, bl, _, -1, _, rfl, rfl, SqL.mk bg.at_, hlast bg.at_, .inl ⟨rfl, _, SqL.mk hr1⟩, _, rfl, r, _, _, rfl, rfl, hr1, by show us.length + 1 < sizeLine; exact small1000 (by have := fok.le; omega), ?_⟩
    have tk2 : TK K H1 (upd H1 r (.lst (.str fm.s :: us ++ [v]))) := TK.put hr1
    have hbl2 : (upd H1 r (.lst (.str fm.s :: us ++ [v]))) bl = some (.lst ((r :: rs').reverse.map V.ref)) := by rw [upd_ne nrb.symm]; exact bg.at_
    have hr2 : (upd H1 r (.lst (.str fm.s :: us ++ [v]))) r = some (.lst (.str fm.s :: us ++ [v])) := upd_same
    have po2 : PtAt C o pl (upd H1 r (.lst (.str fm.s :: us ++ [v]))) ps j := po.pt.put hr1 npr
    have hkid2 : KidsAt K (upd H1 r (.lst (.str fm.s :: us ++ [v]))) (us ++ [v]) (fm.done ++ [t]) := paired_app (hus.keep tk2) (.cons (TrAt.keep tk2 ht) .nil)
    have sm2 : Same H0 (upd H1 r (.lst (.str fm.s :: us ++ [v]))) := Same.mut (bg.new.2 r (List.mem_cons_self ..)) po.sm
    have rest2 := frames_keep tk2 (fun r' hr' x hx => by rw [upd_ne (fun z => ndr.1 (by rw [← z]; exact hr'))]; exact hx) hrest
    have tkE := tk.trans tk2
    generalize upd H1 r (.lst (.str fm.s :: us ++ [v])) = H2 at tk2 hbl2 hr2 po2 hkid2 sm2 rest2 tkE
    have hlen2 : (V.str fm.s :: us ++ [v]).length = fm.done.length + 2 := by rw [List.length_append, List.length_cons, hul]; rfl
    -- the test
    refine ⟨_, rfl, 1, rfl, bl, _, -1, _, rfl, rfl, SqL.mk hbl2, hlast hbl2, r, _, rfl, .inl (SqL.mk hr2), _, rfl, _, rfl, 1, rfl, bl, _, -1, _, rfl, rfl, SqL.mk hbl2, hlast hbl2, r, _, 0, _, rfl, rfl, SqL.mk hr2, at0 _ _, g, sg, fm.s, rfl, hsg.keep tkE, hl, fun H3 s3 => ?_⟩
    have po3 := po2.same s3
    have hd' : ps.drop j = (fm.todo.flatMap fun k => cm :: toks k) ++ (rp :: restF fs ++ tail) := by rw [hd]; show ((fm.todo.flatMap fun k => cm :: toks k) ++ rp :: restF fs) ++ tail = _; rw [List.append_assoc]
    have hgetD : ∀ {y : Str} {r : List Str}, ps.drop j = y :: r → ps.getD j Str.empty = y ∧ ps.drop (j + 1) = r := fun {y r} e => by
      have h0 : (ps.drop j)[0]? = some y := by rw [e]; rfl
      rw [List.getElem?_drop, Nat.add_zero] at h0
      refine ⟨by rw [List.getD_eq_getElem?_getD, h0]; rfl, ?_⟩
      rw [← List.drop_drop, e]
      rfl
    refine ⟨_, _, rfl, rfl, _, rfl, ite2 (fun e => ?_) (fun e => ?_)⟩
    · have e := of_decide_eq_true e
      rw [hlen2, fok.ar] at e
      obtain ⟨k, ks, htd⟩ : ∃ k ks, fm.todo = k :: ks := by
        cases h : fm.todo with
        | nil => exfalso; rw [h] at e; simp only [List.length_nil] at e; omega
        | cons k ks => exact ⟨k, ks, rfl⟩
      have hd3 : ps.drop j = cm :: (toks k ++ ((ks.flatMap fun k => cm :: toks k) ++ (rp :: restF fs ++ tail))) := by rw [hd', htd]; simp
      obtain ⟨g1, g2⟩ := hgetD hd3
      obtain ⟨dx3, ho3, hp3⟩ := po3.ex
      refine ⟨_, rfl, o, dx3, _, rfl, ho3, rfl, o, pl, ps, j, _, rfl, po3, po.len, g1, fun H4 u eu po4 => ?_⟩
      have tk4 : TK K H3 H4 := by rw [eu]; exact po3.tk
      have tk24 : TK K H2 H4 := (TK.same s3).trans tk4
      have at4 : ∀ {q : Addr} {xs : List V}, H3 q = some (.lst xs) → H4 q = some (.lst xs) := fun {q xs} h => by
        rw [eu, upd_ne (po3.ne h).symm]
        exact h
      refine qB H4 (j + 1) (r :: rs') (⟨fm.s, fm.done ++ [t], ks⟩ :: fs) k ⟨po4, po.len, po.new, po.npb, po.npr, ?_⟩ ⟨at4 (s3 _ _ hbl2), ?_, bg.nd, bg.nb, bg.new, ?_, bg.le⟩ ?_ ?_ (fok.td k (by rw [htd]; exact List.mem_cons_self ..)) (by omega) (by simp only [List.length_cons] at hfn ⊢; omega) (tkE.trans tk24)
      · rw [eu]
        exact Same.mut po.new (sm2.trans s3)
      · refine .cons ⟨us ++ [v], at4 (s3 _ _ hr2), hkid2.keep tk24⟩ (frames_keep tk24 (fun r' hr' xs hx => at4 (s3 _ _ hx)) rest2)
      · intro f' hf'
        rcases List.mem_cons.mp hf' with z | z
        · subst z
          have a1 := fok.ar
          have a2 := fok.le
          rw [htd] at a1 a2
          simp only [List.length_cons] at a1 a2
          refine ⟨?_, ?_, fun k' hk' => fok.td k' (by rw [htd]; exact List.mem_cons_of_mem _ hk')⟩
          · rw [a1]
            simp only [List.length_append, List.length_singleton]
            congr 1
            omega
          · simp only [List.length_append, List.length_singleton]
            omega
        · exact bg.ok f' (List.mem_cons_of_mem _ z)
      · rw [g2]
        show _ = toks k ++ (((ks.flatMap fun k => cm :: toks k) ++ rp :: restF fs) ++ tail)
        rw [List.append_assoc]
      · rw [← hpT]
        show plug fs (mkTr fm.s ((fm.done ++ [t]) ++ k :: ks)) = plug fs (mkTr fm.s (fm.done ++ t :: fm.todo))
        rw [htd, List.append_assoc]
        rfl
    · have e : ¬ (((V.str fm.s :: us ++ [v]).length : Nat) : Int) ≤ numB sg fm.s := fun z => e (decide_eq_true z)
      rw [hlen2, fok.ar] at e
      have htd : fm.todo = [] := by
        cases h : fm.todo with
        | nil => rfl
        | cons k ks => exfalso; rw [h] at e; simp only [List.length_cons] at e; omega
      have hd3 : ps.drop j = rp :: (restF fs ++ tail) := by rw [hd', htd]; rfl
      obtain ⟨g1, g2⟩ := hgetD hd3
      obtain ⟨dx3, ho3, hp3⟩ := po3.ex
      refine ⟨_, rfl, o, dx3, _, rfl, ho3, rfl, o, pl, ps, j, _, rfl, po3, po.len, g1, fun H4 u eu po4 => ?_⟩
      have tk4 : TK K H3 H4 := by rw [eu]; exact po3.tk
      have at4 : ∀ {q : Addr} {xs : List V}, H3 q = some (.lst xs) → H4 q = some (.lst xs) := fun {q xs} h => by
        rw [eu, upd_ne (po3.ne h).symm]
        exact h
      have hbl4 := at4 (s3 _ _ hbl2)
      have er : (r :: rs').reverse.map V.ref = rs'.reverse.map V.ref ++ [V.ref r] := by simp
      rw [er] at hbl4
      refine ⟨_, rfl, .inl ⟨rfl, _, SqL.mk hbl4⟩, bl, _, .ref r, rfl, rfl, hbl4, ?_, ?_⟩
      · rw [List.length_append, List.length_singleton, Nat.add_sub_cancel, List.getElem?_append_right (Nat.le_refl _), Nat.sub_self]; rfl
      rw [List.dropLast_concat]
      have tk5 : TK K H4 (upd H4 bl (.lst (rs'.reverse.map V.ref))) := TK.put hbl4
      have at5 : ∀ {q : Addr} {xs : List V}, q ≠ bl → H4 q = some (.lst xs) → (upd H4 bl (.lst (rs'.reverse.map V.ref))) q = some (.lst xs) := fun nq h => by rw [upd_ne nq]; exact h
      have hr5 := at5 nrb (at4 (s3 _ _ hr2))
      refine ⟨r, _, rfl, .inl ⟨SqL.mk hr5, fun p np => ?_⟩⟩
      have tk6 : TK K (upd H4 bl (.lst (rs'.reverse.map V.ref))) (upd (upd H4 bl (.lst (rs'.reverse.map V.ref))) p (.tup (.str fm.s :: us ++ [v]))) := TK.new np
      have s6 : Same (upd H4 bl (.lst (rs'.reverse.map V.ref))) (upd (upd H4 bl (.lst (rs'.reverse.map V.ref))) p (.tup (.str fm.s :: us ++ [v]))) := Same.new np
      have tk26 := (TK.same (K := K) s3).trans (tk4.trans (tk5.trans tk6))
      have hk6 := hkid2.keep tk26
      have hT6 : SqT K (upd (upd H4 bl (.lst (rs'.reverse.map V.ref))) p (.tup (.str fm.s :: us ++ [v]))) p (.str fm.s :: us ++ [v]) := SqT.mk upd_same
      have po6 : PtAt C o pl (upd (upd H4 bl (.lst (rs'.reverse.map V.ref))) p (.tup (.str fm.s :: us ++ [v]))) ps (j + 1) := (po4.put hbl4 po.npb).same s6
      have sm4 : Same H0 H4 := by rw [eu]; exact Same.mut po.new (sm2.trans s3)
      have rest6 := frames_keep tk26 (fun r' hr' xs hx => s6 _ _ (at5 (fun z => bg.nb (by rw [← z]; exact List.mem_cons_of_mem _ hr')) (at4 (s3 _ _ hx)))) rest2
      have hbl6 := s6 bl (.lst (rs'.reverse.map V.ref)) upd_same
      generalize upd (upd H4 bl (.lst (rs'.reverse.map V.ref))) p (.tup (.str fm.s :: us ++ [v])) = H6 at tk6 s6 tk26 hk6 hT6 po6 rest6 hbl6 ⊢
      have htr : TrAt K H6 (mkTr fm.s (fm.done ++ [t])) (.ref p) := by
        have hle := fok.le
        cases hdn : fm.done with
        | nil =>
          rw [hdn] at hus hk6
          cases hus
          cases hk6 with
          | cons a b => exact ⟨p, v, rfl, hT6, a⟩
        | cons d1 ds =>
          rw [hdn] at hle
          have : ds = [] := by
            cases ds with
            | nil => rfl
            | cons a b => simp only [List.length_cons] at hle; omega
          subst this
          rw [hdn] at hus hk6
          cases hus with
          | cons a b =>
            cases b
            cases hk6 with
            | cons a1 b1 =>
              cases b1 with
              | cons a2 b2 => exact ⟨p, _, v, rfl, hT6, a1, a2⟩
      refine ⟨fs.length, by show fs.length < fs.length + 1; omega, .ref p, mkTr fm.s (fm.done ++ [t]), rs', fs, j + 1, rfl, htr, ⟨po6, po.len, po.new, po.npb, fun z => po.npr (List.mem_cons_of_mem _ z), fun a x hx => s6 _ _ (by rw [upd_ne (ne_of_none hx bg.new.1)]; exact sm4 _ _ hx)⟩, ⟨hbl6, rest6, ndr.2, fun z => bg.nb (List.mem_cons_of_mem _ z), ⟨bg.new.1, fun r' hr' => bg.new.2 r' (List.mem_cons_of_mem _ hr')⟩, fun f' hf' => bg.ok f' (List.mem_cons_of_mem _ hf'), by have := bg.le; simp only [List.length_cons] at this; omega⟩, g2, ?_, by omega, rfl, by simp only [List.length_cons] at hfn; omega, tkE.trans tk26⟩
      rw [← hpT]
      show plug fs (mkTr fm.s (fm.done ++ [t])) = plug fs (mkTr fm.s (fm.done ++ t :: fm.todo))
      rw [htd]
  · have hn : rs = [] := by
      cases rs with
      | nil => rfl
      | cons a b => simp at e
    subst hn
    have hfr := bg.fr
    cases hfr
    refine ⟨_, rfl, qA v H1 j [] (by rw [← hpT]; exact ht) ?_ po (by rw [hd]; rfl) tk⟩
    rcases ht.split with ⟨x, _, rfl⟩ | ⟨_, p, us, rfl, _⟩
    · exact fun z => by cases z
    · exact fun z => by cases z
end
end K03

set_option Elab.async false
set_option linter.all false
set_option maxRecDepth 100000
set_option maxHeartbeats 4000000
namespace K03
open PySem PySem.Spec PyProof.Rows L2 Pg LamX
section
variable {P : Program} {w : World} {K : PySem.W.Frag} {mg : Str → Option Value} {base : Heap} {f : Addr} {fd : FuncData} {rsa C Pt : Addr}
abbrev s_tkt : Stmt := top 24
abbrev N_tkt : List Str := ["signs", "parts", "begun", "term", "word"]
abbrev P_tkt : List Str := ["signs", "parts"]
theorem sc_tkt : FnScope N_tkt P_tkt (defScope s_tkt) := ⟨rfl, rfl, rfl, by decide +kernel, rfl, by decide +kernel, by decide +kernel⟩

theorem ok_tkt (F : FnP K "take_term" s_tkt f fd) (hm : mg "take_term" = some (.ref f)) (c_aro : Cal P w K mg base 2 "arity_of" (spNub K) []) (c_lof : Cal P w K mg base 3 "leaf_of" (spLof K) []) (c_end : Cal P w K mg base 4 "end_terms" (spEnd K C) []) (m_tak : C8.Met P w K mg base 2 C "take" (spTak C) []) (m_exp : C8.Met P w K mg base 3 C "expect" (spExp C) []) : Cal P w K mg base 5 "take_term" (spTkt K C) [] := by
  refine mk_cal F hm sc_tkt (fun _ _ _ _ _ _ us hl => match us, hl with | [_, _], _ => rfl) (fun vs H Q E h => ?_) (fun cdv A outer s H vs Q E hr h => ?_)
  · obtain ⟨g, o, pl, H0, sg, ps, tail, i, T, rfl, _⟩ := h
    rfl
  obtain ⟨g, o, pl, H0, sg, ps, tail, i, T, rfl, hsg, hl, hpt, hlen, hxl, no, sm, hd, hT, q⟩ := h
  refine ⟨_, (pss_cons (ps_set (i := 2) sc_tkt.nd rfl (by first | exact Or.inl rfl | exact Or.inr rfl) (pe_lst pa_nil))
      (pss_cons (ps_set (i := 3) sc_tkt.nd rfl (by first | exact Or.inl rfl | exact Or.inr rfl) pe_non)
      (pss_cons (ps_while PassesOwn.never (pt_cmpR op_isN (pv 3) pe_non (nomark _)) (pss_cons (ps_set (i := 4) sc_tkt.nd rfl (by first | exact Or.inl rfl | exact Or.inr rfl) (C8.pe_mt0 (pl := _) m_tak hr (by first | decide | omega) (pv 1)))
      (pss_one (ps_if (pt_cmpR op_gt (C8.pe_c c_aro hr (by first | decide | omega) rfl (pa_cons (pv 0) (pa_cons (pv 4) pa_nil))) pe_int (nomark _)) (pss_cons (ps_expr (C8.pe_mt (pl := _) m_exp hr (by first | decide | omega) (pv 1) (pa_cons pe_str pa_nil)))
      (pss_one (ps_expr (pe_bm PySem.F.plainAttrs_list PySem.F.slot_list_append PySem.F.type_list_append mt_append (pv 2) (pa_cons (pe_lst (pa_cons (pv 4) pa_nil)) pa_nil))))) (pss_one (ps_set (i := 3) sc_tkt.nd rfl (by first | exact Or.inl rfl | exact Or.inr rfl) (C8.pe_c c_end hr (by first | decide | omega) rfl (pa_cons (pv 0) (pa_cons (pv 1) (pa_cons (pv 2) (pa_cons (C8.pe_c c_lof hr (by first | decide | omega) rfl (pa_cons (pv 0) (pa_cons (pv 4) pa_nil))) pa_nil)))))))))))
      (pss_one (ps_ret (pv 3)))))), ?_⟩
  refine ⟨by decide, fun bl nbl => ?_⟩
  have nbl0 : H0 bl = none := same_free sm nbl
  have tkb := TK.new (K := K) (o := .lst []) nbl
  dsimp only [tSeq, gName]
  refine while_tv (fun m σ H' => ∃ (v : V) (j : Nat) (ow : Option V), σ = [some (.ref g), some (.ref o), some (.ref bl), some v, ow] ∧ TK K H H' ∧
    ((v = .non ∧ ∃ (rs : List Addr) (fs : List Fm) (k : Tr), PoAt C o pl H0 H' bl rs ps j ∧ BgAt K sg H0 H' bl rs fs ∧ ps.drop j = toks k ++ (restF fs ++ tail) ∧ plug fs k = T ∧ RdOk sg k ∧ fs.length ≤ j ∧ m = ps.length + 1 - j) ∨
     (v ≠ .non ∧ TrAt K H' T v ∧ PtAt C o pl H' ps j ∧ ps.drop j = tail ∧ Same H0 H' ∧ m = 0)))
    ⟨_, .non, i, none, rfl, tkb, .inl ⟨rfl, [], [], T, ⟨hpt.same (Same.new nbl), hlen, no, ?_, (fun z => absurd z List.not_mem_nil), sm.trans (Same.new nbl)⟩, ⟨upd_same, .nil, List.nodup_nil, List.not_mem_nil, ⟨nbl0, fun _ h => absurd h List.not_mem_nil⟩, (fun _ h => absurd h List.not_mem_nil), Nat.zero_le _⟩, hd, rfl, hT, Nat.zero_le _, rfl⟩⟩ ?_
  · obtain ⟨dx, _, hp⟩ := hpt.ex
    exact ne_of_none hp nbl
  rintro m σ H1 ⟨v, j, ow, rfl, tk, hv⟩
  refine ⟨decide (v = .non), fun Q q => ⟨_, rfl, rfl, _, rfl, q⟩, fun e => ?_, fun e => ?_⟩
  · rcases hv with ⟨rfl, rs, fs, k, po, bg, hd, hpT, hk, hfl, rfl⟩ | ⟨hn, _⟩
    rotate_left
    · exact absurd (of_decide_eq_true e) hn
    have hjl : ∀ {y : Str} {r : List Str}, ps.drop j = y :: r → j < ps.length ∧ ps.getD j Str.empty = y ∧ ps.drop (j + 1) = r := fun {y r} e => by
      have h0 : (ps.drop j)[0]? = some y := by rw [e]; rfl
      rw [List.getElem?_drop, Nat.add_zero] at h0
      refine ⟨(List.getElem?_eq_some_iff.mp h0).1, by rw [List.getD_eq_getElem?_getD, h0]; rfl, ?_⟩
      rw [← List.drop_drop, e]
      rfl
    have hjl2 : ∀ {j : Nat} {y : Str} {r : List Str}, ps.drop j = y :: r → ps.getD j Str.empty = y ∧ ps.drop (j + 1) = r := fun {j y r} e => by
      have h0 : (ps.drop j)[0]? = some y := by rw [e]; rfl
      rw [List.getElem?_drop, Nat.add_zero] at h0
      refine ⟨by rw [List.getD_eq_getElem?_getD, h0]; rfl, ?_⟩
      rw [← List.drop_drop, e]
      rfl
    obtain ⟨dx, ho, hp⟩ := po.pt.ex
    -- the word
    obtain ⟨r, hr0⟩ : ∃ r, ps.drop j = k.sym :: r := by
      cases k with
      | nm x => exact ⟨_, hd⟩
      | c0 s => exact ⟨_, hd⟩
      | c1 s t => exact ⟨_, hd⟩
      | c2 s t u => exact ⟨_, hd⟩
    obtain ⟨j1, j2, j3⟩ := hjl hr0
    have hsl : k.sym.length ≤ 1000 := by
      have hm : k.sym ∈ ps.drop j := by rw [hr0]; exact List.mem_cons_self ..
      exact hxl _ (List.mem_of_mem_drop hm)
    refine ⟨_, rfl, o, dx, _, rfl, ho, rfl, o, pl, ps, j, rfl, po.pt, hlen, fun H2 u eu pt2 => ?_⟩
    rw [j2]
    have tk2 : TK K H1 H2 := by rw [eu]; exact po.pt.tk
    have at2 : ∀ {q : Addr} {xs : List V}, H1 q = some (.lst xs) → H2 q = some (.lst xs) := fun {q xs} h => by
      rw [eu, upd_ne (po.pt.ne h).symm]
      exact h
    have sm2 : Same H0 H2 := by rw [eu]; exact Same.mut no po.sm
    have bg2 : BgAt K sg H0 H2 bl rs fs := ⟨at2 bg.at_, frames_keep tk2 (fun r' _ xs hx => at2 hx) bg.fr, bg.nd, bg.nb, bg.new, bg.ok, bg.le⟩
    clear eu
    refine ⟨_, rfl, _, rfl, g, sg, k.sym, rfl, hsg.keep (tk.trans tk2), hl, fun H3 s3 => ?_⟩
    have pt3 := pt2.same s3
    have tk3 := (tk.trans tk2).trans (TK.same s3)
    have sm3 := sm2.trans s3
    have bg3 : BgAt K sg H0 H3 bl rs fs := ⟨s3 _ _ bg2.at_, frames_keep (TK.same s3) (fun r' _ xs hx => s3 _ _ hx) bg2.fr, bg.nd, bg.nb, bg.new, bg.ok, bg.le⟩
    refine ⟨_, _, rfl, rfl, _, rfl, ite2 (fun e => ?_) (fun e => ?_)⟩
    · have e : (0 : Int) < numB sg k.sym := of_decide_eq_true e
      obtain ⟨k1, td, ek, ear, etl, hk1, htd, etk⟩ : ∃ (k1 : Tr) (td : List Tr), k = mkTr k.sym (k1 :: td) ∧ numB sg k.sym = ((0 + 1 + td.length : Nat) : Int) ∧ td.length ≤ 1 ∧ RdOk sg k1 ∧ (∀ x ∈ td, RdOk sg x) ∧ toks k = k.sym :: lp :: (toks k1 ++ ((td.flatMap fun k => cm :: toks k) ++ [rp])) := by
        cases k with
        | nm x => have := hk.1; simp only [Tr.sym] at e; omega
        | c0 s => have h0 : numB sg s = 0 := hk; simp only [Tr.sym] at e; omega
        | c1 s t => exact ⟨t, [], rfl, hk.1, by decide, hk.2, (fun _ h => absurd h List.not_mem_nil), rfl⟩
        | c2 s t u => exact ⟨t, [u], rfl, hk.1, Nat.le_refl 1, hk.2.1, (fun x hx => by rw [List.mem_singleton] at hx; rw [hx]; exact hk.2.2), by simp [toks, Tr.sym]⟩
      have hr1 : ps.drop (j + 1) = lp :: (toks k1 ++ (((td.flatMap fun k => cm :: toks k) ++ rp :: restF fs) ++ tail)) := by
        have h2 : k.sym :: r = k.sym :: lp :: (toks k1 ++ ((td.flatMap fun k => cm :: toks k) ++ [rp])) ++ (restF fs ++ tail) := by rw [← hr0, hd, etk]
        rw [j3, (List.cons.inj h2).2]
        simp
      obtain ⟨g1, g2⟩ := hjl2 hr1
      obtain ⟨dx3, ho3, hp3⟩ := pt3.ex
      refine ⟨_, rfl, o, dx3, _, rfl, ho3, rfl, o, pl, ps, j + 1, _, rfl, pt3, hlen, g1, fun H4 u4 eu4 pt4 => ?_⟩
      have tk4 : TK K H3 H4 := by rw [eu4]; exact pt3.tk
      have at4 : ∀ {q : Addr} {xs : List V}, H3 q = some (.lst xs) → H4 q = some (.lst xs) := fun {q xs} h => by
        rw [eu4, upd_ne (pt3.ne h).symm]
        exact h
      have sm4 : Same H0 H4 := by rw [eu4]; exact Same.mut no sm3
      have hbl4 := at4 bg3.at_
      refine ⟨_, rfl, .inl ⟨rfl, _, SqL.mk hbl4⟩, _, rfl, (by show 1 ≤ sizeLine; decide), fun r' nr' => ?_⟩
      have s5 : Same H4 (upd H4 r' (.lst [.str k.sym])) := Same.new nr'
      have hbl5 := s5 _ _ hbl4
      refine ⟨bl, _, _, rfl, rfl, hbl5, ?_, ?_⟩
      · rw [List.length_map, List.length_reverse, paired_len bg.fr]
        exact smallN (by omega)
      have tk5 : TK K H4 (upd (upd H4 r' (.lst [.str k.sym])) bl (.lst (rs.reverse.map V.ref ++ [.ref r']))) := (TK.new nr').trans (TK.put hbl5)
      have nrb : r' ≠ bl := (ne_of_none hbl4 nr').symm
      have frs4 := frames_keep tk4 (fun r' _ xs hx => at4 hx) bg3.fr
      have nrs : r' ∉ rs := fun hm => by
        obtain ⟨i', hi', ei'⟩ := List.getElem_of_mem hm
        obtain ⟨fm, _, us, hus, _⟩ := Pg.paired_get frs4 (List.getElem?_eq_getElem hi')
        rw [ei', nr'] at hus
        cases hus
      refine ⟨ps.length + 1 - (j + 2), by omega, .non, j + 2, _, rfl, tk3.trans (tk4.trans tk5), .inl ⟨rfl, r' :: rs, ⟨k.sym, [], td⟩ :: fs, k1, ⟨?_, hlen, no, po.npb, fun hm => ?_, ?_⟩, ⟨?_, .cons ⟨[], by rw [upd_ne nrb]; exact upd_same, .nil⟩ (frames_keep tk5 (fun q hq xs hx => ?_) frs4), List.nodup_cons.mpr ⟨nrs, bg.nd⟩, fun hm => ?_, ⟨bg.new.1, fun q hq => ?_⟩, fun f' hf' => ?_, by simp only [List.length_cons]; omega⟩, g2, ?_, hk1, by simp only [List.length_cons]; omega, rfl⟩⟩
      · exact (pt4.same s5).put hbl5 po.npb
      · rcases List.mem_cons.mp hm with z | z
        · obtain ⟨dx4, _, hp4⟩ := pt4.ex
          exact ne_of_none hp4 nr' z
        · exact po.npr z
      · intro b x hx
        rw [upd_ne (ne_of_none hx bg.new.1)]
        exact s5 _ _ (sm4 _ _ hx)
      · rw [upd_same]
        simp
      · rw [upd_ne (fun z => bg.nb (by rw [← z]; exact hq))]
        exact s5 _ _ hx
      · rcases List.mem_cons.mp hm with z | z
        · exact nrb z.symm
        · exact bg.nb z
      · rcases List.mem_cons.mp hq with z | z
        · rw [z]; exact same_free sm4 nr'
        · exact bg.new.2 q z
      · rcases List.mem_cons.mp hf' with z | z
        · subst z
          exact ⟨ear, by show 0 + 1 + td.length ≤ 2; omega, htd⟩
        · exact bg.ok f' z
      · rw [← hpT]
        show plug fs (mkTr k.sym (k1 :: td)) = plug fs k
        rw [← ek]
    · have e : ¬ (0 : Int) < numB sg k.sym := fun z => e (decide_eq_true z)
      have hleaf : ((k = .c0 k.sym ∧ numB sg k.sym = 0) ∨ (k = .nm k.sym ∧ numB sg k.sym = -1 ∧ isW k.sym = true)) ∧ toks k = [k.sym] := by
        cases k with
        | nm x => exact ⟨.inr ⟨rfl, hk.1, hk.2⟩, rfl⟩
        | c0 s => exact ⟨.inl ⟨rfl, hk⟩, rfl⟩
        | c1 s t => have h0 : numB sg s = 1 := hk.1; simp only [Tr.sym] at e; omega
        | c2 s t u => have h0 : numB sg s = 2 := hk.1; simp only [Tr.sym] at e; omega
      have hr1 : ps.drop (j + 1) = restF fs ++ tail := by
        have h2 : k.sym :: r = [k.sym] ++ (restF fs ++ tail) := by rw [← hr0, hd, hleaf.2]
        rw [j3, (List.cons.inj h2).2]
        rfl
      refine ⟨_, rfl, _, rfl, _, rfl, _, rfl, _, rfl, g, sg, k.sym, k, rfl, hsg.keep tk3, hl, hsl, hleaf.1, fun v4 H4 ht4 s4 => ?_⟩
      have bg4 : BgAt K sg H0 H4 bl rs fs := ⟨s4 _ _ bg3.at_, frames_keep (TK.same s4) (fun r' _ xs hx => s4 _ _ hx) bg3.fr, bg.nd, bg.nb, bg.new, bg.ok, bg.le⟩
      refine ⟨g, o, pl, bl, v4, H0, sg, ps, tail, j + 1, rs, fs, k, T, rfl, hsg.keep (tk3.trans (TK.same s4)), hl, ht4, ⟨pt3.same s4, hlen, no, po.npb, po.npr, sm3.trans s4⟩, bg4, hr1, hpT, fun v5 H5 i5 rs5 hT5 hn5 po5 hd5 tk5 => ?_, fun H5 i5 rs5 fs5 k5 po5 bg5 hd5 hp5 hk5 hlt hfl5 tk5 => ?_⟩
      · exact ⟨0, by omega, v5, i5, _, rfl, tk3.trans ((TK.same s4).trans tk5), .inr ⟨hn5, hT5, po5.pt, hd5, po5.sm, rfl⟩⟩
      · exact ⟨ps.length + 1 - i5, by omega, .non, i5, _, rfl, tk3.trans ((TK.same s4).trans tk5), .inl ⟨rfl, rs5, fs5, k5, po5, bg5, hd5, hp5, hk5, by omega, rfl⟩⟩
  · rcases hv with ⟨rfl, _⟩ | ⟨hn, hTv, pt, hd, sm', rfl⟩
    · simp at e
    · exact ⟨_, rfl, q v H1 j hTv pt hd sm' tk⟩
abbrev s_rdt : Stmt := top 23
abbrev N_rdt : List Str := ["signs", "text", "parts", "term"]
abbrev P_rdt : List Str := ["signs", "text"]
theorem sc_rdt : FnScope N_rdt P_rdt (defScope s_rdt) := ⟨rfl, rfl, rfl, by decide +kernel, rfl, by decide +kernel, by decide +kernel⟩

theorem ok_rdt (F : FnP K "read_term" s_rdt f fd) (hm : mg "read_term" = some (.ref f)) (Z : Zs mg) (GR : GRd mg) (k_parts : C8.Mak P w K mg base 3 "Parts" C (spPini C) []) (c_tkt : Cal P w K mg base 5 "take_term" (spTkt K C) []) (m_exe : C8.Met P w K mg base 4 C "expect_end" (spExe C) []) (c_szo : Cal P w K mg base 2 "size_of" (spSzo K) []) {q0 : Str} (c_dpo : Cal P w K mg base 3 "depth_of" (spDpo K Pt q0) []) : Cal P w K mg base 6 "read_term" (spRdt K Pt q0) [] := by
  refine mk_cal F hm sc_rdt (fun _ _ _ _ _ _ us hl => match us, hl with | [_, _], _ => rfl) (fun vs H Q E h => ?_) (fun cdv A outer s H vs Q E hr h => ?_)
  · obtain ⟨g, sg, x, t, rfl, _⟩ := h
    rfl
  obtain ⟨g, sg, x, t, rfl, hsg, hl, hx, hsp, hT, htk, hz, hdp, tab, q⟩ := h
  refine ⟨_, (pss_cons (ps_if (pt_cmpR op_gt (pe_callB call_len_str (by rfl) Z.len (by decide +kernel) (pa_cons (pv 1) pa_nil)) (C8.pe_gc (v := .int 4000) (by rfl) GR.mx) (nomark _)) (pss_one ps_no) pss_nil)
      (pss_cons (ps_set (i := 2) sc_rdt.nd rfl (by first | exact Or.inl rfl | exact Or.inr rfl) (C8.pe_mk k_parts hr (by first | decide | omega) rfl (pa_cons (pv 1) pa_nil)))
      (pss_cons (ps_set (i := 3) sc_rdt.nd rfl (by first | exact Or.inl rfl | exact Or.inr rfl) (C8.pe_c c_tkt hr (by first | decide | omega) rfl (pa_cons (pv 0) (pa_cons (pv 2) pa_nil))))
      (pss_cons (ps_expr (C8.pe_mt0 (pl := _) m_exe hr (by first | decide | omega) (pv 2)))
      (pss_cons (ps_if (PW.pt (pw_or (pt_cmpR op_gt (C8.pe_c c_szo hr (by first | decide | omega) rfl (pa_cons (pv 3) pa_nil)) (C8.pe_gc (v := .int 400) (by rfl) GR.mt) (nomark _)) (pw_or1 (pt_cmpR op_gt (C8.pe_c c_dpo hr (by first | decide | omega) rfl (pa_cons (pv 3) pa_nil)) (C8.pe_gc (v := .int 100) (by rfl) GR.md) (nomark _))))) (pss_one ps_no) pss_nil)
      (pss_one (ps_ret (pv 3)))))))), ?_⟩
  refine ⟨_, rfl, x, rfl, Nat.le_of_lt (smallN (by omega)), _, _, rfl, rfl, _, rfl, ite2 (fun e => ?_) (fun _ => ?_)⟩
  · have := of_decide_eq_true e
    omega
  refine ⟨_, rfl, fun o dx no ndx hne => ?_⟩
  refine ⟨o, dx, x, rfl, upd_same, by omega, fun pl H1 npl fr pt => ⟨rfl, ?_⟩⟩
  have sm1 : Same H H1 := fun b u hb => fr b u (ne_of_none hb no) (by rw [upd_ne (ne_of_none hb no), upd_ne (ne_of_none hb ndx)]; exact hb)
  rw [hsp] at pt
  have hlen := toks_len t
  refine ⟨_, rfl, _, rfl, g, o, pl, H, sg, toks t, [], 0, t, rfl, hsg.keep (TK.same sm1), hl, pt, by omega, htk, no, sm1, by rw [List.append_nil]; rfl, hT, fun v' H2 i' hT2 pt2 hd2 sm2 tk2 => ?_⟩
  obtain ⟨dx2, ho2, hp2⟩ := pt2.ex
  refine ⟨_, rfl, o, dx2, _, rfl, ho2, rfl, o, pl, toks t, i', rfl, pt2, by omega, List.drop_eq_nil_iff.mp hd2, fun H3 u eu pt3 => ?_⟩
  have tk3 : TK K H2 H3 := by rw [eu]; exact pt2.tk
  have sm3 : Same H H3 := by rw [eu]; exact Same.mut no sm2
  have hT3 := TrAt.keep tk3 hT2
  have tab3 := tab.ext fun b u h => sm3 b u h
  refine ⟨_, rfl, v', t, rfl, hT3, by omega, fun H4 s4 => ?_⟩
  have tab4 := tab3.ext fun b u h => s4 b u h
  refine ⟨_, _, rfl, rfl, _, rfl, ite2 (fun e => ?_) (fun _ => ?_)⟩
  · have := of_decide_eq_true e
    omega
  refine ⟨_, rfl, v', t, rfl, TrAt.keep (TK.same s4) hT3, by omega, tab4, fun H5 bp5 tab5 => ?_⟩
  refine ⟨_, _, rfl, rfl, _, rfl, ite2 (fun e => ?_) (fun _ => ?_)⟩
  · have := of_decide_eq_true e
    omega
  exact ⟨_, rfl, q v' H5 (TrAt.keep ((TK.same s4).trans (ButP.tk tab4 bp5)) hT3) (fun b u nb hb => bp5 b u nb (s4 _ _ (sm3 _ _ hb))) tab5⟩
end
end K03

set_option Elab.async false
set_option linter.all false
set_option maxRecDepth 100000
set_option maxHeartbeats 4000000
namespace Pg
open PySem PySem.Spec PyProof.Rows L2 LamX
/-! ### words of terms -/
structure NmOk (x : Str) : Prop where
  w : isW x = true
  t : Wt x
  l : (cs x).length ≤ 8
  n : ∀ i, ¬ Wd i x
theorem nm_of {x : Str} (h1 : isW x = true) (h2 : (cs x).length ≤ 8) (h3 : cs x ≠ []) (h4 : (cs x).all lowC = true) (h5 : ∃ c ∈ cs x, c ≠ 97 ∧ c ≠ 98 ∧ c ≠ 121 ∧ c ≠ 122) (h6 : (cs x).head? ≠ some 99) : NmOk x :=
  ⟨h1, ⟨h3, fun c hc => List.all_eq_true.mp h4 c hc⟩, h2, fun i h => by
    rcases h with ⟨_, _, h⟩ | ⟨_, h⟩
    · obtain ⟨c, hc, a, b, d, e⟩ := h5
      rcases h c hc with z | z | z | z
      · exact a z
      · exact b z
      · exact d z
      · exact e z
    · rw [h] at h6
      exact h6 rfl⟩
abbrev nmL : List Str := ["x", "v", "xx", "xvxvxvxv"]
theorem nmL_ok : ∀ x ∈ nmL, NmOk x := by
  intro x hx
  simp only [List.mem_cons, List.not_mem_nil, or_false] at hx
  rcases hx with rfl | rfl | rfl | rfl <;> exact nm_of (by decide +kernel) (by decide +kernel) (by decide +kernel) (by decide +kernel) (by decide +kernel) (by decide +kernel)
theorem wd_wt {i : Nat} {w : Str} (h : Wd i w) : Wt w := by
  rcases h with ⟨h1, _, h3⟩ | ⟨hi, h⟩
  · refine ⟨fun z => (by rw [z] at h1; simp at h1), fun c hc => ?_⟩
    rcases h3 c hc with e | e | e | e <;> subst e <;> decide
  · refine ⟨fun z => (by rw [z] at h; cases h), fun c hc => ?_⟩
    rw [h] at hc
    simp only [List.mem_cons, List.not_mem_nil, or_false] at hc
    unfold lowC
    rcases hc with e | e
    · subst e; decide
    · rw [Bool.and_eq_true, decide_eq_true_iff, decide_eq_true_iff]; omega
theorem numB_in : ∀ {sg : Sg} {s : Str} {k : Int}, (sg.map (·.1)).Nodup → (s, k) ∈ sg → numB sg s = k
  | [], s, k, _, h => absurd h List.not_mem_nil
  | p :: sg, s, k, nd, h => by
    rw [List.map_cons, List.nodup_cons] at nd
    rw [numB_cons]
    rcases List.mem_cons.mp h with e | e
    · rw [← e]
      exact if_pos rfl
    · have : p.1 ≠ s := fun z => nd.1 (by rw [z]; exact List.mem_map.mpr ⟨_, e, rfl⟩)
      rw [if_neg this]
      exact numB_in nd.2 e
theorem numB_not : ∀ {sg : Sg} {s : Str}, s ∉ sg.map (·.1) → numB sg s = -1
  | [], s, _ => rfl
  | p :: sg, s, h => by
    rw [List.map_cons, List.mem_cons, not_or] at h
    rw [numB_cons, if_neg (fun z => h.1 z.symm)]
    exact numB_not h.2
/-- what a drawn term is -/
structure TmOk (sg : Sg) (t : Tr) : Prop where
  rd : RdOk sg t
  wt : WtT t
  w8 : ∀ k ∈ pre t, (cs k.sym).length ≤ 8 ∧ ∀ c ∈ cs k.sym, lowC c = true
theorem tm_ok {sg : Sg} {nms : List Str} (g : GSg sg) (hn : ∀ x ∈ nms, NmOk x) : ∀ {t : Tr}, Wf sg nms t → TmOk sg t
  | .nm x, h => by
    obtain ⟨h1, h2, h3, h4⟩ := hn x h
    have hx : x ∉ sg.map (·.1) := fun hm => by
      obtain ⟨s, hs, e⟩ := List.mem_map.mp hm
      obtain ⟨i, hw⟩ := g.wd s hs
      rw [e] at hw
      exact h4 i hw
    refine ⟨⟨numB_not hx, h1⟩, h2, fun k hk => ?_⟩
    have : k = .nm x := by simpa [pre] using hk
    subst this
    exact ⟨h3, h2.2⟩
  | .c0 s, h => by
    obtain ⟨i, hw⟩ := g.wd _ h
    have hwt := wd_wt hw
    refine ⟨numB_in g.nd h, hwt, fun k hk => ?_⟩
    have : k = .c0 s := by simpa [pre] using hk
    subst this
    exact ⟨(wd_small hw).2, hwt.2⟩
  | .c1 s t, h => by
    obtain ⟨i, hw⟩ := g.wd _ h.1
    have hwt := wd_wt hw
    obtain ⟨a, b, c⟩ := tm_ok g hn h.2
    refine ⟨⟨numB_in g.nd h.1, a⟩, ⟨hwt, b⟩, fun k hk => ?_⟩
    rcases List.mem_cons.mp (show k ∈ Tr.c1 s t :: pre t from hk) with e | e
    · subst e; exact ⟨(wd_small hw).2, hwt.2⟩
    · exact c k e
  | .c2 s t u, h => by
    obtain ⟨i, hw⟩ := g.wd _ h.1
    have hwt := wd_wt hw
    obtain ⟨a, b, c⟩ := tm_ok g hn h.2.1
    obtain ⟨a', b', c'⟩ := tm_ok g hn h.2.2
    refine ⟨⟨numB_in g.nd h.1, a, a'⟩, ⟨hwt, b, b'⟩, fun k hk => ?_⟩
    rcases List.mem_cons.mp (show k ∈ Tr.c2 s t u :: (pre t ++ pre u) from hk) with e | e
    · subst e; exact ⟨(wd_small hw).2, hwt.2⟩
    · rcases List.mem_append.mp e with e | e
      · exact c k e
      · exact c' k e
/-- the tokens are words of the term, or single signs -/
theorem tok_small : ∀ {t : Tr}, (∀ k ∈ pre t, (cs k.sym).length ≤ 8 ∧ ∀ c ∈ cs k.sym, lowC c = true) → ∀ y ∈ toks t, (cs y).length ≤ 8 ∧ ∀ c ∈ cs y, c < 128
  | .nm x, h, y, hy => by
    have : y = x := by simpa [toks] using hy
    subst this
    obtain ⟨h1, h2⟩ := h (.nm y) (List.mem_cons_self ..)
    exact ⟨h1, fun c hc => by have := h2 c hc; unfold lowC at this; rw [Bool.and_eq_true, decide_eq_true_iff, decide_eq_true_iff] at this; omega⟩
  | .c0 x, h, y, hy => by
    have : y = x := by simpa [toks] using hy
    subst this
    obtain ⟨h1, h2⟩ := h (.c0 y) (List.mem_cons_self ..)
    exact ⟨h1, fun c hc => by have := h2 c hc; unfold lowC at this; rw [Bool.and_eq_true, decide_eq_true_iff, decide_eq_true_iff] at this; omega⟩
  | .c1 s t, h, y, hy => by
    have hs : ∀ y ∈ [s], (cs y).length ≤ 8 ∧ ∀ c ∈ cs y, c < 128 := fun y hy => by
      rw [List.mem_singleton] at hy
      subst hy
      obtain ⟨h1, h2⟩ := h (.c1 y t) (List.mem_cons_self ..)
      exact ⟨h1, fun c hc => by have := h2 c hc; unfold lowC at this; rw [Bool.and_eq_true, decide_eq_true_iff, decide_eq_true_iff] at this; omega⟩
    have hp : ∀ y ∈ [lp, rp, cm], (cs y).length ≤ 8 ∧ ∀ c ∈ cs y, c < 128 := by decide +kernel
    have ht := fun y => tok_small (t := t) (fun k hk => h k (show k ∈ Tr.c1 s t :: pre t from List.mem_cons_of_mem _ hk)) y
    have hy : y ∈ s :: lp :: (toks t ++ [rp]) := hy
    simp only [List.mem_cons, List.mem_append, List.not_mem_nil, or_false] at hy
    rcases hy with e | e | e | e
    · exact hs y (by rw [e]; exact List.mem_cons_self ..)
    · exact hp y (by rw [e]; simp)
    · exact ht y e
    · exact hp y (by rw [e]; simp)
  | .c2 s t u, h, y, hy => by
    have hs : ∀ y ∈ [s], (cs y).length ≤ 8 ∧ ∀ c ∈ cs y, c < 128 := fun y hy => by
      rw [List.mem_singleton] at hy
      subst hy
      obtain ⟨h1, h2⟩ := h (.c2 y t u) (List.mem_cons_self ..)
      exact ⟨h1, fun c hc => by have := h2 c hc; unfold lowC at this; rw [Bool.and_eq_true, decide_eq_true_iff, decide_eq_true_iff] at this; omega⟩
    have hp : ∀ y ∈ [lp, rp, cm], (cs y).length ≤ 8 ∧ ∀ c ∈ cs y, c < 128 := by decide +kernel
    have ht := fun y => tok_small (t := t) (fun k hk => h k (show k ∈ Tr.c2 s t u :: (pre t ++ pre u) from List.mem_cons_of_mem _ (List.mem_append_left _ hk))) y
    have hu := fun y => tok_small (t := u) (fun k hk => h k (show k ∈ Tr.c2 s t u :: (pre t ++ pre u) from List.mem_cons_of_mem _ (List.mem_append_right _ hk))) y
    have hy : y ∈ s :: lp :: (toks t ++ cm :: (toks u ++ [rp])) := hy
    simp only [List.mem_cons, List.mem_append, List.not_mem_nil, or_false] at hy
    rcases hy with e | e | e | e | e | e
    · exact hs y (by rw [e]; exact List.mem_cons_self ..)
    · exact hp y (by rw [e]; simp)
    · exact ht y e
    · exact hp y (by rw [e]; simp)
    · exact hu y e
    · exact hp y (by rw [e]; simp)
/-! ### the plain text -/
def gapP (x : Str) : Str × Nat := (x, if x = cm then 1 else 0)
theorem flatG_app (l m : List (Str × Nat)) : flatG (l ++ m) = flatG l ++ flatG m := by simp [flatG]
theorem gap_w {x : Str} (h : Wt x) : gapP x = (x, 0) := by
  unfold gapP
  have : x ≠ cm := fun z => by
    subst z
    have := h.2 44 (by decide +kernel)
    exact absurd this (by decide)
  rw [if_neg this]
theorem plain_txt : ∀ {t : Tr}, WtT t → flatG ((toks t).map gapP) = cs (txt t)
  | .nm x, h => by
    show flatG [gapP x] = cs x
    rw [gap_w h]
    simp [flatG]
  | .c0 x, h => by
    show flatG [gapP x] = cs x
    rw [gap_w h]
    simp [flatG]
  | .c1 s t, h => by
    have ih := plain_txt h.2
    have e1 : flatG [gapP s] = cs s := by rw [gap_w h.1]; simp [flatG]
    have e2 : flatG [gapP lp] = cs (PySem.Str.ofString "(") := by decide +kernel
    have e3 : flatG [gapP rp] = cs (PySem.Str.ofString ")") := by decide +kernel
    show flatG (([s] ++ ([lp] ++ (toks t ++ [rp]))).map gapP) = cs (around s (Txt.join (PySem.Str.ofString ", ") [txt t]))
    rw [List.map_append, List.map_append, List.map_append, flatG_app, flatG_app, flatG_app, ih]
    show flatG [gapP s] ++ (flatG [gapP lp] ++ (cs (txt t) ++ flatG [gapP rp])) = _
    rw [e1, e2, e3]
    unfold around
    rw [cs_app, cs_app, cs_app, cs_app]
    have e0 : cs Str.empty = [] := by decide +kernel
    rw [e0]
    show cs s ++ (_ ++ (cs (txt t) ++ _)) = ((([] ++ cs s) ++ _) ++ cs (txt t)) ++ _
    simp
  | .c2 s t u, h => by
    have ih := plain_txt h.2.1
    have ih2 := plain_txt h.2.2
    have e1 : flatG [gapP s] = cs s := by rw [gap_w h.1]; simp [flatG]
    have e2 : flatG [gapP lp] = cs (PySem.Str.ofString "(") := by decide +kernel
    have e3 : flatG [gapP rp] = cs (PySem.Str.ofString ")") := by decide +kernel
    have e4 : flatG [gapP cm] = cs (PySem.Str.ofString ", ") := by decide +kernel
    show flatG (([s] ++ ([lp] ++ (toks t ++ ([cm] ++ (toks u ++ [rp]))))).map gapP) = cs (around s (Txt.join (PySem.Str.ofString ", ") [txt t, txt u]))
    rw [List.map_append, List.map_append, List.map_append, List.map_append, List.map_append, flatG_app, flatG_app, flatG_app, flatG_app, flatG_app, ih, ih2]
    show flatG [gapP s] ++ (flatG [gapP lp] ++ (cs (txt t) ++ (flatG [gapP cm] ++ (cs (txt u) ++ flatG [gapP rp])))) = _
    rw [e1, e2, e3, e4]
    unfold around
    have e5 : cs (Txt.join (PySem.Str.ofString ", ") [txt t, txt u]) = cs (txt t) ++ (cs (PySem.Str.ofString ", ") ++ cs (txt u)) := by
      show cs (txt t ++ PySem.Str.ofString ", " ++ txt u) = _
      rw [cs_app, cs_app, List.append_assoc]
    rw [cs_app, cs_app, cs_app, cs_app, e5]
    have e0 : cs Str.empty = [] := by decide +kernel
    rw [e0]
    simp
/-! ### terms as data that is shown -/
theorem trD_sh : ∀ {t : Tr}, (∀ k ∈ pre t, (cs k.sym).length ≤ 8 ∧ ∀ c ∈ cs k.sym, lowC c = true) → Sh t.dep (12 * t.size) (trD t)
  | .nm x, h => by
    obtain ⟨h1, h2⟩ := h (.nm x) (List.mem_cons_self ..)
    exact (Sh.str (x := x) (B := 8) (fun c hc => by have := h2 c hc; unfold lowC at this; rw [Bool.and_eq_true, decide_eq_true_iff, decide_eq_true_iff] at this; have h8 : (16 : Nat) ^ 8 = 4294967296 := (by decide); omega) h1).mono (Nat.zero_le _) (by show 8 ≤ 12 * 1; omega)
  | .c0 x, h => by
    obtain ⟨h1, h2⟩ := h (.c0 x) (List.mem_cons_self ..)
    have hs := Sh.str (x := x) (B := 8) (fun c hc => by have := h2 c hc; unfold lowC at this; rw [Bool.and_eq_true, decide_eq_true_iff, decide_eq_true_iff] at this; have h8 : (16 : Nat) ^ 8 = 4294967296 := (by decide); omega) h1
    have := Sh.tup (D := 0) (B := 8) (ds := [.str x]) fun d hd => by rw [List.mem_singleton] at hd; rw [hd]; exact hs
    exact this.mono (Nat.le_refl 1) (by show 1 * 9 ≤ 12 * 1; omega)
  | .c1 s t, h => by
    obtain ⟨h1, h2⟩ := h (.c1 s t) (List.mem_cons_self ..)
    obtain ⟨a1, a2, a3, a4⟩ := Sh.str (x := s) (B := 8) (fun c hc => by have := h2 c hc; unfold lowC at this; rw [Bool.and_eq_true, decide_eq_true_iff, decide_eq_true_iff] at this; have h8 : (16 : Nat) ^ 8 = 4294967296 := (by decide); omega) h1
    obtain ⟨b1, b2, b3, b4⟩ := trD_sh (t := t) fun k hk => h k (show k ∈ Tr.c1 s t :: pre t from List.mem_cons_of_mem _ hk)
    show Sh (1 + t.dep) (12 * (1 + t.size)) (.tuple [.str s, trD t])
    refine ⟨by simp [PyData.showable, PyData.showableAll, b1], ?_, ?_, ?_⟩
    · rw [PyData.leavesShort, PyData.leavesShortAll, a2, PyData.leavesShortAll, b2]; rfl
    · rw [PyData.depth, PyData.depthAll, PyData.depthAll, PyData.depthAll]; omega
    · rw [PyData.bulk, PyData.bulkAll, PyData.bulkAll, PyData.bulkAll]; omega
  | .c2 s t u, h => by
    obtain ⟨h1, h2⟩ := h (.c2 s t u) (List.mem_cons_self ..)
    obtain ⟨a1, a2, a3, a4⟩ := Sh.str (x := s) (B := 8) (fun c hc => by have := h2 c hc; unfold lowC at this; rw [Bool.and_eq_true, decide_eq_true_iff, decide_eq_true_iff] at this; have h8 : (16 : Nat) ^ 8 = 4294967296 := (by decide); omega) h1
    obtain ⟨b1, b2, b3, b4⟩ := trD_sh (t := t) fun k hk => h k (show k ∈ Tr.c2 s t u :: (pre t ++ pre u) from List.mem_cons_of_mem _ (List.mem_append_left _ hk))
    obtain ⟨c1, c2, c3, c4⟩ := trD_sh (t := u) fun k hk => h k (show k ∈ Tr.c2 s t u :: (pre t ++ pre u) from List.mem_cons_of_mem _ (List.mem_append_right _ hk))
    show Sh (1 + max t.dep u.dep) (12 * (1 + t.size + u.size)) (.tuple [.str s, trD t, trD u])
    refine ⟨by simp [PyData.showable, PyData.showableAll, b1, c1], ?_, ?_, ?_⟩
    · rw [PyData.leavesShort, PyData.leavesShortAll, a2, PyData.leavesShortAll, b2, PyData.leavesShortAll, c2]; rfl
    · rw [PyData.depth, PyData.depthAll, PyData.depthAll, PyData.depthAll, PyData.depthAll]; omega
    · rw [PyData.bulk, PyData.bulkAll, PyData.bulkAll, PyData.bulkAll, PyData.bulkAll]; omega
theorem sh_list1 {D B : Nat} {d : PyData} (h : Sh D B d) : Sh (D + 1) (B + 1) (.list [d]) := by
  obtain ⟨a1, a2, a3, a4⟩ := h
  refine ⟨by simp [PyData.showable, PyData.showableAll, a1], ?_, ?_, ?_⟩
  · rw [PyData.leavesShort, PyData.leavesShortAll, a2]; rfl
  · rw [PyData.depth, PyData.depthAll, PyData.depthAll]; omega
  · rw [PyData.bulk, PyData.bulkAll, PyData.bulkAll]; omega
theorem trD_nod : ∀ t : Tr, PyData.hasDict (trD t) = false
  | .nm _ => by rw [trD, PyData.hasDict]
  | .c0 s => by simp [trD, PyData.hasDict, PyData.hasDictAll]
  | .c1 s t => by simp [trD, PyData.hasDict, PyData.hasDictAll, trD_nod t]
  | .c2 s t u => by simp [trD, PyData.hasDict, PyData.hasDictAll, trD_nod t, trD_nod u]
end Pg

set_option Elab.async false
set_option linter.all false
set_option maxRecDepth 100000
set_option maxHeartbeats 4000000
namespace Pg
open PySem PySem.Spec PyProof.Rows L2 LamX
/-! ### so many spaces -/
abbrev spc : Str := " "
def rSpc : R2 := fun x y H Q => ∃ k : Nat, x = .str spc ∧ y = .int (k : Nat) ∧ k ≤ 10000 ∧ ∀ z : Str, cs z = List.replicate k 32 → Q (.str z) H
section
variable {X : Cx}
theorem op_spc : OpR X (binaryOp .Mult) rSpc := by
  intro pins s σ H x y v u Q I rx ry ⟨k, ex, ey, hk, q⟩
  subst ex ey
  obtain ⟨t, rfl⟩ := rx
  obtain ⟨t', rfl⟩ := ry
  have hc : spc.cps = #[32] := by decide +kernel
  have hl1 : spc.length = 1 := by decide +kernel
  have hz : k ≤ sizeLine := Nat.le_of_lt (smallN (by omega))
  refine P.mul_str ?_ (fun _ _ => ?_) (fun _ _ => ?_) ?_
  · rw [decide_eq_false (by omega), decide_eq_false (by omega)]; rfl
  · rw [hl1]
    have h1 : 1 ≤ (2 ^ 63 - 1) / (k : Int) := (Int.le_ediv_iff_mul_le (by omega)).mpr (by omega)
    omega
  · rw [hl1, Nat.one_mul]
    exact decide_eq_false (Nat.not_lt.mpr hz)
  · split
    · rename_i h
      have e0 : k = 0 := by omega
      subst e0
      exact ⟨by decide, ⟨.str Str.empty, H, I.tok _, ⟨_, rfl⟩, q _ rfl⟩⟩
    · split
      · rename_i h1 h
        have e1 : k = 1 := by
          rw [hl1] at h
          simp at h
          omega
        subst e1
        exact ⟨.str spc, H, I, ⟨_, rfl⟩, q _ (by show spc.cps.toList = _; rw [hc]; rfl)⟩
      · rw [hc]
        have e32 : ∀ m : Nat, ((List.replicate m #[(32 : Nat)]).foldl (· ++ ·) #[]) = (List.replicate m 32).toArray := fun m => by
          induction m with
          | zero => rfl
          | succ m ih =>
            rw [List.replicate_succ', List.foldl_append, ih, List.replicate_succ']
            show (List.replicate m 32).toArray ++ #[32] = _
            rw [← List.append_toArray]
        have ek : ((k : Nat) : Int).toNat = k := by omega
        rw [ek, e32]
        refine ⟨?_, ⟨.str _, H, I.tok _, ⟨_, rfl⟩, q _ ?_⟩⟩
        · simp [Str.length]
          omega
        · simp [cs]
end
end Pg

set_option Elab.async false
set_option linter.all false
set_option maxRecDepth 100000
set_option maxHeartbeats 4000000
namespace Pg
open PySem PySem.Spec PyProof.Rows L2 LamX
def kjoin : List Tr → List Str
  | [] => []
  | k :: ks => toks k ++ ks.flatMap fun k => cm :: toks k
theorem toks_kids {t : Tr} (nk : ∀ x, t ≠ .nm x) (h : t.kids ≠ []) : toks t = t.sym :: lp :: (kjoin t.kids ++ [rp]) := by
  cases t with
  | nm x => exact absurd rfl (nk x)
  | c0 s => exact absurd rfl h
  | c1 s t => show s :: lp :: (toks t ++ [rp]) = s :: lp :: ((toks t ++ []) ++ [rp]); simp
  | c2 s t u => show s :: lp :: (toks t ++ cm :: (toks u ++ [rp])) = s :: lp :: ((toks t ++ ((cm :: toks u) ++ [])) ++ [rp]); simp
theorem kjoin_step {ks : List Tr} {i : Nat} {k : Tr} (h : ks[i]? = some k) : kjoin (ks.take (i + 1)) = (if i = 0 then [] else kjoin (ks.take i) ++ [cm]) ++ toks k := by
  cases ks with
  | nil => simp at h
  | cons a b =>
    cases i with
    | zero =>
      simp at h
      subst h
      simp [kjoin]
    | succ i =>
      have h' : b[i]? = some k := by simpa using h
      rw [if_neg (by omega)]
      show toks a ++ ((b.take (i + 1)).flatMap fun k => cm :: toks k) = ((toks a ++ ((b.take i).flatMap fun k => cm :: toks k)) ++ [cm]) ++ toks k
      rw [take_snoc h']
      simp
theorem Tr.size_kid {t k : Tr} (m : k ∈ t.kids) : k.size + 1 ≤ t.size := by
  cases t with
  | nm x => exact absurd m List.not_mem_nil
  | c0 s => exact absurd m List.not_mem_nil
  | c1 s t => rw [show (Tr.c1 s t).kids = [t] from rfl, List.mem_singleton] at m; rw [m]; show t.size + 1 ≤ 1 + t.size; omega
  | c2 s t u =>
    show k.size + 1 ≤ 1 + t.size + u.size
    rcases List.mem_cons.mp (show k ∈ [t, u] from m) with e | e
    · rw [e]; omega
    · rw [List.mem_singleton] at e; rw [e]; omega
def spLpa (K : PySem.W.Frag) (d : Nat) : Sp := fun vs H Q _ => ∃ (v : V) (t : Tr), vs = [v] ∧ TrAt K H t v ∧ t.dep ≤ d ∧ t.size ≤ 1000 ∧ ∀ p H', H p = none → Same H H' → H' p = some (.lst ((toks t).map V.str)) → Q (.ref p) H'
end Pg
namespace K03
open PySem PySem.Spec PyProof.Rows L2 Pg LamX
section
variable {P : Program} {w : World} {K : PySem.W.Frag} {mg : Str → Option Value} {base : Heap} {f : Addr} {fd : FuncData}
abbrev s_lpa : Stmt := top 34
abbrev N_lpa : List Str := ["term", "found", "k"]
abbrev P_lpa : List Str := ["term"]
theorem sc_lpa : FnScope N_lpa P_lpa (defScope s_lpa) := ⟨rfl, rfl, rfl, by decide +kernel, rfl, by decide +kernel, by decide +kernel⟩

theorem turn_lpa {d : Nat} (F : FnP K "_law_parts" s_lpa f fd) (hm : mg "_law_parts" = some (.ref f)) (Z : Zs mg) (c_lpa : Cal P w K mg base (d + 1) "_law_parts" (spLpa K d) []) : Cal P w K mg base (d + 2) "_law_parts" (spLpa K (d + 1)) [] := by
  refine mk_cal F hm sc_lpa (fun _ _ _ _ _ _ us hl => match us, hl with | [_], _ => rfl) (fun vs H Q E h => ?_) (fun cdv A outer s H vs Q E hr h => ?_)
  · obtain ⟨v, t, rfl, _⟩ := h
    rfl
  obtain ⟨v, t, rfl, ht, hd, hz, q⟩ := h
  refine ⟨_, (pss_cons (ps_if (pt_val (pe_callB call_isi (by rfl) Z.isinstance (by decide +kernel) (pa_cons (pv 0) (pa_cons (pe_bltn (v := .ty "str") rfl Z.str (by decide +kernel) rfl) pa_nil)))) (pss_one (ps_ret (pe_lst (pa_cons (pv 0) pa_nil)))) pss_nil)
      (pss_cons (ps_if (pt_cmpR op_eq (pe_callB call_len_seq (by rfl) Z.len (by decide +kernel) (pa_cons (pv 0) pa_nil)) pe_int (nomark _)) (pss_one (ps_ret (pe_lst (pa_cons (pe_ix ix_tup (pv 0) pe_int (fun _ _ => rfl)) pa_nil)))) pss_nil)
      (pss_cons (ps_set (i := 1) sc_lpa.nd rfl (by first | exact Or.inl rfl | exact Or.inr rfl) (pe_lst (pa_cons (pe_ix ix_tup (pv 0) pe_int (fun _ _ => rfl)) (pa_cons pe_str pa_nil))))
      (pss_cons (ps_for PassesOwn.never rfl (pi_range2 (by rfl) Z.range (pa_cons pe_int (pa_cons (pe_callB call_len_seq (by rfl) Z.len (by decide +kernel) (pa_cons (pv 0) pa_nil)) pa_nil))) (pg_name (i := 2) sc_lpa.nd rfl (by first | exact Or.inl rfl | exact Or.inr rfl)) (pss_cons (ps_if (pt_cmpR op_gt (pv 2) pe_int (nomark _)) (pss_one (ps_expr (pe_bm PySem.F.plainAttrs_list PySem.F.slot_list_append PySem.F.type_list_append mt_append (pv 1) (pa_cons pe_str pa_nil)))) pss_nil)
      (pss_one (ps_set (i := 1) sc_lpa.nd rfl (by first | exact Or.inl rfl | exact Or.inr rfl) (pe_op op_cat (pv 1) (C8.pe_c c_lpa hr (by first | decide | omega) rfl (pa_cons (pe_ix ix_tup (pv 0) (pv 2) (fun _ _ => rfl)) pa_nil)))))))
      (pss_one (ps_ret (pe_op op_cat (pv 1) (pe_lst (pa_cons pe_str pa_nil))))))))), ?_⟩
  rcases ht.split with ⟨x0, rfl, rfl⟩ | ⟨nk, p, us, rfl, hS, hkids⟩
  · refine ⟨_, rfl, _, _, .type "str", .type "str", true, rfl, .ty "str", .base (.str x0), kit_ty (by decide +kernel), _, rfl, ite2 (fun _ => ?_) (fun z => absurd rfl z)⟩
    exact ⟨_, rfl, (by show 1 ≤ sizeLine; decide), fun l nl => q l _ nl (Same.new nl) upd_same⟩
  have hul := paired_len hkids
  have hkl := t.kids_le
  refine ⟨_, rfl, _, _, .type "tuple", .type "str", false, rfl, .ty "str", tyX_tup hS, kit_ty (by decide +kernel), _, rfl, ite2 (fun z => by cases z) (fun _ => ?_)⟩
  refine ⟨_, rfl, p, _, rfl, .inr hS, rfl, _, rfl, ite2 (fun e => ?_) (fun e => ?_)⟩
  · have e := V.int.inj (of_decide_eq_true e)
    have hk0 : t.kids = [] := by
      apply List.eq_nil_of_length_eq_zero
      rw [← hul]
      rw [List.length_cons] at e
      omega
    have htk : toks t = [t.sym] := by
      cases t with
      | nm x => rfl
      | c0 s => rfl
      | c1 s t => cases hk0
      | c2 s t u => cases hk0
    refine ⟨_, rfl, p, _, 0, _, rfl, rfl, hS, at0 _ _, (by show 1 ≤ sizeLine; decide), fun l nl => q l _ nl (Same.new nl) ?_⟩
    rw [upd_same, htk]
    rfl
  have hk0 : t.kids ≠ [] := fun z => e (decide_eq_true (by rw [List.length_cons, hul, z]; rfl))
  refine ⟨_, rfl, p, _, 0, _, rfl, rfl, hS, at0 _ _, (by show 2 ≤ sizeLine; decide), fun l nl => ?_⟩
  have hlen := toks_len t
  have hlenS : (V.str t.sym :: us).length = us.length + 1 := rfl
  refine ⟨_, rfl, p, _, rfl, .inr ((TK.new nl) _ _ hS), 1, _, rfl, ⟨by omega, by omega, by omega, by rw [hlenS]; omega⟩, ?_⟩
  have en : (((V.str t.sym :: us).length : Nat) - 1 : Int).toNat = t.kids.length := by rw [hlenS, hul]; omega
  rw [en]
  refine for_range (lo := 1) (n := t.kids.length) (fun i σ H' => ∃ (l : Addr) (o2 : Option V), σ = [some (.ref p), some (.ref l), o2] ∧ H l = none ∧ Same H H' ∧ H' l = some (.lst ((t.sym :: lp :: kjoin (t.kids.take i)).map V.str)))
    ⟨l, none, rfl, nl, Same.new nl, upd_same⟩ ?_ ?_
  · rintro i σ H1 hi ⟨l, o2, rfl, nl, sm, hlst⟩
    obtain ⟨k, ek⟩ : ∃ k, t.kids[i]? = some k := ⟨_, List.getElem?_eq_getElem hi⟩
    obtain ⟨u, eu, hu⟩ := paired_get2 hkids ek
    have hkm := List.mem_of_getElem? ek
    have hst := kjoin_step ek
    have hkl2 : (kjoin (t.kids.take i)).length ≤ (toks t).length := by
      have h1 : (kjoin (t.kids.take i)).length ≤ (kjoin t.kids).length := by
        have key : ∀ (ks : List Tr) (i : Nat), (kjoin (ks.take i)).length ≤ (kjoin ks).length := fun ks i => by
          cases ks with
          | nil => simp [kjoin]
          | cons a b =>
            cases i with
            | zero => simp [kjoin]
            | succ i =>
              show (toks a ++ ((b.take i).flatMap fun k => cm :: toks k)).length ≤ (toks a ++ (b.flatMap fun k => cm :: toks k)).length
              rw [List.length_append, List.length_append]
              have : ((b.take i).flatMap fun k => cm :: toks k).length ≤ (b.flatMap fun k => cm :: toks k).length := by
                conv => rhs; rw [← List.take_append_drop i b, List.flatMap_append, List.length_append]
                omega
              omega
        exact key _ _
      rw [toks_kids nk hk0]
      simp only [List.length_cons, List.length_append, List.length_nil]
      omega
    -- the comma
    refine ⟨_, rfl, _, _, rfl, rfl, _, rfl, ite2 (fun e => ?_) (fun e => ?_)⟩
    · have hi0 : i ≠ 0 := by
        have := of_decide_eq_true e
        omega
      refine ⟨_, rfl, .inl ⟨rfl, _, SqL.mk hlst⟩, l, _, _, rfl, rfl, hlst, ?_, ?_⟩
      · rw [List.length_map]
        simp only [List.length_cons]
        exact smallN (by omega)
      have hl2 : (upd H1 l (.lst ((t.sym :: lp :: kjoin (t.kids.take i)).map V.str ++ [.str cm]))) l = some (.lst ((t.sym :: lp :: (kjoin (t.kids.take i) ++ [cm])).map V.str)) := by
        rw [upd_same]
        simp
      have sm2 : Same H (upd H1 l (.lst ((t.sym :: lp :: kjoin (t.kids.take i)).map V.str ++ [.str cm]))) := Same.mut nl sm
      have hS2 : SqT K (upd H1 l (.lst ((t.sym :: lp :: kjoin (t.kids.take i)).map V.str ++ [.str cm]))) p (.str t.sym :: us) := TK.same sm2 _ _ hS
      generalize upd H1 l (.lst ((t.sym :: lp :: kjoin (t.kids.take i)).map V.str ++ [.str cm])) = H2 at hl2 sm2 hS2 ⊢
      refine ⟨_, rfl, _, rfl, _, rfl, p, _, 1 + (i : Int), u, rfl, rfl, hS2, at_of (j := i + 1) (by omega) (by rw [List.getElem?_cons_succ]; exact eu), ?_⟩
      refine ⟨u, k, rfl, TrAt.keep (TK.same sm2) hu, by have := Tr.dep_kid hkm; omega, by have := Tr.size_kid hkm; omega, fun l2 H3 nl2 sm3 hl3 => ?_⟩
      refine ⟨l, l2, _, _, rfl, rfl, sm3 _ _ hl2, hl3, ?_, fun l4 nl4 => ?_⟩
      · have := toks_len k
        have := Tr.size_kid hkm
        rw [List.length_map, List.length_map]
        simp only [List.length_cons, List.length_append, List.length_nil]
        exact Nat.le_of_lt (smallN (by omega))
      refine ⟨l4, _, rfl, same_free (sm2.trans sm3) nl4, (sm2.trans sm3).trans (Same.new nl4), ?_⟩
      rw [upd_same, hst, if_neg hi0]
      simp
    · have hi0 : i = 0 := by
        have e : ¬ (1 : Int) < 1 + (i : Int) := fun z => e (decide_eq_true z)
        omega
      have hS2 : SqT K H1 p (.str t.sym :: us) := TK.same sm _ _ hS
      refine ⟨_, rfl, _, rfl, _, rfl, p, _, 1 + (i : Int), u, rfl, rfl, hS2, at_of (j := i + 1) (by omega) (by rw [List.getElem?_cons_succ]; exact eu), ?_⟩
      refine ⟨u, k, rfl, TrAt.keep (TK.same sm) hu, by have := Tr.dep_kid hkm; omega, by have := Tr.size_kid hkm; omega, fun l2 H3 nl2 sm3 hl3 => ?_⟩
      refine ⟨l, l2, _, _, rfl, rfl, sm3 _ _ hlst, hl3, ?_, fun l4 nl4 => ?_⟩
      · have := toks_len k
        have := Tr.size_kid hkm
        rw [List.length_map, List.length_map]
        simp only [List.length_cons]
        exact Nat.le_of_lt (smallN (by omega))
      refine ⟨l4, _, rfl, same_free (sm.trans sm3) nl4, (sm.trans sm3).trans (Same.new nl4), ?_⟩
      rw [upd_same, hst, if_pos hi0, hi0]
      simp [kjoin]
  · rintro σ H1 ⟨l, o2, rfl, nl, sm, hlst⟩
    rw [List.take_length] at hlst
    refine ⟨_, rfl, (by show 1 ≤ sizeLine; decide), fun l2 nl2 => ?_⟩
    have hl1 : (upd H1 l2 (.lst [.str rp])) l = some (.lst ((t.sym :: lp :: kjoin t.kids).map V.str)) := by rw [upd_ne (ne_of_none hlst nl2)]; exact hlst
    refine ⟨l, l2, _, _, rfl, rfl, hl1, upd_same, ?_, fun l4 nl4 => q l4 _ (same_free (sm.trans (Same.new nl2)) nl4) ((sm.trans (Same.new nl2)).trans (Same.new nl4)) ?_⟩
    · have h1 := congrArg List.length (toks_kids nk hk0)
      simp only [List.length_cons, List.length_append, List.length_nil] at h1
      rw [List.length_map]
      simp only [List.length_cons, List.length_nil]
      exact Nat.le_of_lt (smallN (by omega))
    · rw [upd_same, toks_kids nk hk0]
      simp
theorem ok_lpa (F : FnP K "_law_parts" s_lpa f fd) (hm : mg "_law_parts" = some (.ref f)) (Z : Zs mg) : ∀ d : Nat, Cal P w K mg base (d + 1) "_law_parts" (spLpa K d) []
  | 0 => mk_none (ps := P_lpa) F hm (fun _ _ _ _ _ _ us hl => match us, hl with | [_], _ => rfl) (fun vs H Q E h => by
    obtain ⟨v, t, _, _, hd, _⟩ := h
    have := t.dep_pos
    omega)
  | d + 1 => turn_lpa F hm Z (ok_lpa F hm Z d)
end
end K03

set_option Elab.async false
set_option linter.all false
set_option maxRecDepth 100000
set_option maxHeartbeats 4000000
namespace Pg
open PySem PySem.Spec PyProof.Rows L2 LamX
def plainW (y : Str) : Str := if y = cm then PySem.Str.ofString ", " else y
theorem cs_plainW (y : Str) : cs (plainW y) = cs (gapP y).1 ++ List.replicate (gapP y).2 32 := by
  unfold plainW gapP
  by_cases h : y = cm
  · rw [if_pos h, if_pos h, h]; decide +kernel
  · rw [if_neg h, if_neg h]; simp
theorem cs_join0 (ys : List Str) : cs (Txt.join Str.empty ys) = (ys.map cs).flatten := by
  have e1 : ys = (ys.map cs).map SX.S := by
    rw [List.map_map]
    conv => lhs; rw [← List.map_id ys]
    exact List.map_congr_left fun y _ => cs_inj rfl
  have e2 : Str.empty = SX.S [] := rfl
  have key : ∀ l : List (List Nat), TL.joinL [] l = l.flatten := fun l => by
    induction l with
    | nil => rfl
    | cons a b ih =>
      cases b with
      | nil => simp [TL.joinL]
      | cons c d =>
        show a ++ ([] ++ TL.joinL [] (c :: d)) = _
        rw [ih]
        simp
  conv => lhs; rw [e1, e2, SX.join_S]
  rw [key]
theorem flat_plain : ∀ ts : List Str, ((ts.map plainW).map cs).flatten = flatG (ts.map gapP)
  | [] => rfl
  | y :: ts => by
    rw [List.map_cons, List.map_cons, List.flatten_cons, flat_plain ts, cs_plainW]
    simp [flatG]
theorem plainW_len {y : Str} (h : (cs y).length ≤ 8) : (plainW y).length ≤ 10 := by
  rw [cs_len, cs_plainW, List.length_append, List.length_replicate]
  have : (gapP y).1 = y ∧ (gapP y).2 ≤ 1 := by
    unfold gapP
    split
    · exact ⟨rfl, Nat.le_refl _⟩
    · exact ⟨rfl, Nat.zero_le _⟩
  rw [this.1]
  omega
def spLpl : Sp := fun vs H Q _ => ∃ (p : Addr) (ts : List Str), vs = [.ref p] ∧ H p = some (.lst (ts.map V.str)) ∧ ts.length ≤ 4000 ∧ (∀ y ∈ ts, (cs y).length ≤ 8) ∧ ∀ x H', cs x = flatG (ts.map gapP) → Same H H' → Q (.str x) H'
def spLsp : Sp := fun vs H Q _ => ∃ (a n p : Addr) (ts : List Str) (m : Int), vs = [.ref a, .ref p] ∧ StA H a n m ∧ m + 2 * (ts.length : Int) + 10 ≤ 900000 ∧ H p = some (.lst (ts.map V.str)) ∧ p ≠ a ∧ ts.length ≤ 4000 ∧ (∀ y ∈ ts, (cs y).length ≤ 8) ∧
  ∀ (x : Str) (l : List (Str × Nat)) (n0 : Nat) (H' : Hp), l.map (·.1) = ts → cs x = List.replicate n0 32 ++ flatG l → x.length ≤ 2 + 12 * ts.length → Fr a H H' → StA H' a n (m + 2 * (ts.length : Int) + 1) → Q (.str x) H'
def spLrw (K : PySem.W.Frag) : Sp := fun vs H Q _ => ∃ (a n : Addr) (sg : Sg) (s c : Str) (ar : Nat) (m : Int), vs = [.ref a, .str s, .int (ar : Nat), .str c] ∧ StA H a n m ∧ m + 200 ≤ 900000 ∧ (ar = 1 ∨ ar = 2) ∧ (s, (ar : Int)) ∈ sg ∧ (c, 0) ∈ sg ∧ ∀ (v : V) (t : Tr) (H' : Hp), TrAt K H' t v → Wf sg [] t → t.size ≤ 199 → t.dep ≤ 100 → Fr a H H' → StA H' a n (m + 200) → Q v H'
def spSameN (K : PySem.W.Frag) : Sp := fun vs H Q _ => ∃ (v v' : V) (d : PyData), vs = [v, v'] ∧ Dp K H v d ∧ Dp K H v' d ∧ nest d = true ∧ d.hasDict = false ∧ Sh 110 100000 d ∧ ∀ H', Same H H' → Q (.bl true) H'
end Pg
namespace K03
open PySem PySem.Spec PyProof.Rows L2 Pg LamX
section
variable {P : Program} {w : World} {K : PySem.W.Frag} {mg : Str → Option Value} {base : Heap} {f : Addr} {fd : FuncData}
abbrev s_lpl : Stmt := top 35
abbrev N_lpl : List Str := ["parts", "part"]
abbrev P_lpl : List Str := ["parts"]
theorem sc_lpl : FnScope N_lpl P_lpl (defScope s_lpl) := ⟨rfl, rfl, rfl, by decide +kernel, rfl, by decide +kernel, by decide +kernel⟩

theorem ok_lpl (F : FnP K "_law_plain" s_lpl f fd) (hm : mg "_law_plain" = some (.ref f)) (Z : Zs mg) : Cal P w K mg base 1 "_law_plain" spLpl [] := by
  refine mk_cal F hm sc_lpl (fun _ _ _ _ _ _ us hl => match us, hl with | [_], _ => rfl) (fun vs H Q E h => ?_) (fun cdv A outer s H vs Q E hr h => ?_)
  · obtain ⟨p, ts, rfl, _⟩ := h
    rfl
  obtain ⟨p, ts, rfl, hp, hl, h8, q⟩ := h
  refine ⟨_, (pss_one (ps_ret (pe_bm PySem.F.plainAttrs_str PySem.F.slot_str_join PySem.F.type_str_join mt_join pe_str (pa_cons (pe_lc (own := [("part", 1)]) (g := (gName 1)) (tt := tYes) (te := (tOp (rIxL K) _ (tCB _ (tCons (tOp _ (tVar 1) _) tNil)))) rfl sc_lpl.nd (pi_list (pv 0)) (blkOk_by (N := N_lpl) (sc := defScope s_lpl) (by decide +kernel)) (fun _ _ _ _ _ => by exact (pg_name (i := 1) sc_lpl.nd rfl (Or.inl rfl))) (fun _ _ _ _ _ => by exact pts_nil) (fun _ _ _ _ _ => by exact (pe_ix ix_list (pe_lst (pa_cons (pv 1) (pa_cons pe_str pa_nil))) (pe_callTy call_int1 (by rfl) Z.int (by decide +kernel) (pa_cons (pe_cmpR op_eq (pv 1) pe_str (nomark _)) pa_nil)) (fun _ _ => rfl)))) pa_nil)))), ?_⟩
  dsimp only [tRet, tBM, tCons]
  refine ⟨by rfl, rd_mapL (K := K) (ks := ts) (fun u y => u = .str y) (fun y => .str (plainW y)) (fun R h => ⟨_, rfl, p, rfl, ⟨_, SqL.mk hp⟩, h⟩) (SqL.mk hp) ?_ (by omega) (fun _ => rfl) (fun u y H' hy hu sm Q' q' => ?_) (fun D H' nD sm hD => ?_)⟩
  · clear hp h8 hl q
    induction ts with
    | nil => exact .nil
    | cons y ts ih => exact .cons rfl ih
  · subst hu
    refine ⟨_, rfl, (by show 2 ≤ sizeLine; decide), fun l nl => ?_⟩
    refine ⟨_, rfl, rfl, .inr ⟨_, rfl, l, _, _, .str (plainW y), rfl, rfl, SqL.mk upd_same, ?_, q' _ (Same.new nl)⟩⟩
    unfold plainW
    by_cases h : y = cm
    · rw [if_pos h, h]
      rfl
    · have e : decide (V.str y = V.str (PySem.Str.ofString ",")) = false := decide_eq_false fun z => h (V.str.inj z)
      rw [if_neg h, e]
      rfl
  · have hsum : ((ts.map plainW).map (·.length)).sum ≤ 10 * ts.length := by
      clear hp hD nD sm q hl
      induction ts with
      | nil => exact Nat.zero_le _
      | cons y ts ih =>
        have h1 := plainW_len (h8 y (List.mem_cons_self ..))
        have h2 := ih fun z hz => h8 z (List.mem_cons_of_mem _ hz)
        simp only [List.map_cons, List.sum_cons, List.length_cons] at h2 ⊢
        omega
    have e0 : (PySem.Str.ofString "").length = 0 := by decide +kernel
    refine ⟨_, D, ts.map plainW, rfl, rfl, .inl (SqL.mk (by rw [hD, List.map_map]; rfl)), ?_, q _ H' ?_ sm⟩
    · rw [e0]
      omega
    · show cs (Txt.join Str.empty (ts.map plainW)) = _
      rw [cs_join0, flat_plain]
abbrev s_lsp : Stmt := top 36
abbrev N_lsp : List Str := ["state", "parts", "text", "part"]
abbrev P_lsp : List Str := ["state", "parts"]
theorem sc_lsp : FnScope N_lsp P_lsp (defScope s_lsp) := ⟨rfl, rfl, rfl, by decide +kernel, rfl, by decide +kernel, by decide +kernel⟩

theorem ok_lsp (F : FnP K "_law_spaced" s_lsp f fd) (hm : mg "_law_spaced" = some (.ref f)) (Z : Zs mg) (c_next : Cal P w K mg base 1 "_law_next" spNext []) : Cal P w K mg base 2 "_law_spaced" spLsp [] := by
  refine mk_cal F hm sc_lsp (fun _ _ _ _ _ _ us hl => match us, hl with | [_, _], _ => rfl) (fun vs H Q E h => ?_) (fun cdv A outer s H vs Q E hr h => ?_)
  · obtain ⟨a, n, p, ts, m, rfl, _⟩ := h
    rfl
  obtain ⟨a, n, p, ts, m, rfl, st, hm9, hp, hpa, hl, h8, q⟩ := h
  refine ⟨_, (pss_cons (ps_set (i := 2) sc_lsp.nd rfl (by first | exact Or.inl rfl | exact Or.inr rfl) (pe_op op_spc pe_str (C8.pe_c c_next hr (by first | decide | omega) rfl (pa_cons (pv 0) (pa_cons pe_int pa_nil)))))
      (pss_cons (ps_for PassesOwn.never rfl (pi_list (pv 1)) (pg_name (i := 3) sc_lsp.nd rfl (by first | exact Or.inl rfl | exact Or.inr rfl)) (pss_one (ps_set (i := 2) sc_lsp.nd rfl (by first | exact Or.inl rfl | exact Or.inr rfl) (pe_op op_add_str (pe_op op_add_str (pv 2) (pv 3)) (pe_op op_spc pe_str (pe_ix ix_list (pe_lst (pa_cons pe_int (pa_cons pe_int (pa_cons pe_int (pa_cons (C8.pe_c c_next hr (by first | decide | omega) rfl (pa_cons (pv 0) (pa_cons pe_int pa_nil))) pa_nil))))) (C8.pe_c c_next hr (by first | decide | omega) rfl (pa_cons (pv 0) (pa_cons pe_int pa_nil))) (fun _ _ => rfl)))))))
      (pss_one (ps_ret (pv 2))))), ?_⟩
  refine ⟨_, rfl, a, n, 3, m, rfl, by decide, st, by omega, fun r H1 r0 r1 f1 st1 => ?_⟩
  obtain ⟨k0, rfl⟩ := Int.eq_ofNat_of_zero_le r0
  refine ⟨k0, rfl, rfl, by omega, fun z0 hz0 => ?_⟩
  have hp1 := f1 _ _ hpa hp
  refine ⟨_, rfl, p, rfl, ⟨_, SqL.mk hp1⟩, ?_⟩
  refine for_list (K := K) (a := p) (xs := ts.map V.str) (fun i σ H' => ∃ (x : Str) (l : List (Str × Nat)) (o3 : Option V), σ = [some (.ref a), some (.ref p), some (.str x), o3] ∧ l.map (·.1) = ts.take i ∧ cs x = List.replicate k0 32 ++ flatG l ∧ x.length ≤ 2 + 12 * i ∧ Pg.Fr a H1 H' ∧ StA H' a n (m + 1 + 2 * (i : Int)))
    ⟨z0, [], none, rfl, rfl, by rw [hz0]; simp [flatG], by rw [cs_len, hz0, List.length_replicate]; omega, Fr.refl, st1.mono (by omega)⟩ (fun i σ H' _ ⟨_, _, _, _, _, _, _, fr, _⟩ => SqL.mk (fr _ _ hpa hp1)) ?_ ?_
  · rintro i y σ H2 hy ⟨x, l, o3, rfl, hl1, hx, hxl, fr, st2⟩
    rw [List.getElem?_map] at hy
    obtain ⟨y, ey, rfl⟩ : ∃ y', ts[i]? = some y' ∧ V.str y' = y := by
      cases e : ts[i]? with
      | none => rw [e] at hy; cases hy
      | some z => rw [e] at hy; exact ⟨z, rfl, Option.some.inj hy⟩
    have hi : i < ts.length := (List.getElem?_eq_some_iff.mp ey).1
    have hy8 := h8 y (List.mem_of_getElem? ey)
    have hyl : y.length ≤ 8 := by rw [cs_len]; exact hy8
    refine ⟨_, rfl, _, rfl, x, y, rfl, rfl, Nat.le_of_lt (smallN (by omega)), ?_⟩
    refine ⟨_, rfl, a, n, 5, _, rfl, by decide, st2, by omega, fun r3 H3 r30 r31 f3 st3 => ?_⟩
    refine ⟨(by show 4 ≤ sizeLine; decide), fun l3 nl3 => ?_⟩
    refine ⟨_, rfl, a, n, 4, _, rfl, by decide, st3.new nl3, by omega, fun r4 H4 r40 r41 f4 st4 => ?_⟩
    obtain ⟨g, hg, hg4⟩ : ∃ g : Nat, atI [V.int 0, V.int 0, V.int 1, V.int r3] r4 = some (.int (g : Nat)) ∧ g ≤ 4 := by
      rcases (by omega : r4 = 0 ∨ r4 = 1 ∨ r4 = 2 ∨ r4 = 3) with rfl | rfl | rfl | rfl
      · exact ⟨0, rfl, by omega⟩
      · exact ⟨0, rfl, by omega⟩
      · exact ⟨1, rfl, by omega⟩
      · exact ⟨r3.toNat, by rw [Int.toNat_of_nonneg r30]; rfl, by omega⟩
    refine ⟨l3, _, r4, _, rfl, rfl, SqL.mk (f4 _ _ (st3.ne nl3).1 upd_same), hg, g, rfl, rfl, by omega, fun z hz => ?_⟩
    have hzl : z.length = g := by rw [cs_len, hz, List.length_replicate]
    refine ⟨_, _, rfl, rfl, ?_, ?_⟩
    · rw [PySem.Str.length_append]
      exact Nat.le_of_lt (smallN (by omega))
    refine ⟨_, l ++ [(y, g)], _, rfl, ?_, ?_, ?_, fr.trans (f3.trans ((Fr.new nl3).trans f4)), st4.mono ?_⟩
    · rw [List.map_append, hl1, take_snoc ey]; rfl
    · rw [cs_app, cs_app, hx, hz, flatG_app]
      simp [flatG]
    · rw [PySem.Str.length_append, PySem.Str.length_append]
      omega
    · have : ((i + 1 : Nat) : Int) = (i : Int) + 1 := by omega
      omega
  · rintro σ H2 ⟨x, l, o3, rfl, hl1, hx, hxl, fr, st2⟩
    rw [List.length_map] at hl1 hxl st2
    rw [List.take_length] at hl1
    exact ⟨_, rfl, q x l k0 H2 hl1 hx hxl (f1.trans fr) (st2.mono (by omega))⟩
end
end K03

set_option Elab.async false
set_option linter.all false
set_option maxRecDepth 100000
set_option maxHeartbeats 4000000
namespace K03
open PySem PySem.Spec PyProof.Rows L2 Pg LamX
section
variable {P : Program} {w : World} {K : PySem.W.Frag} {mg : Str → Option Value} {base : Heap} {f : Addr} {fd : FuncData}
abbrev s_lrow : Stmt := top 37
abbrev N_lrow : List Str := ["state", "sign", "arity", "constant", "tree", "k"]
abbrev P_lrow : List Str := ["state", "sign", "arity", "constant"]
theorem sc_lrow : FnScope N_lrow P_lrow (defScope s_lrow) := ⟨rfl, rfl, rfl, by decide +kernel, rfl, by decide +kernel, by decide +kernel⟩

theorem ok_lrow (F : FnP K "_law_row" s_lrow f fd) (hm : mg "_law_row" = some (.ref f)) (Z : Zs mg) (c_next : Cal P w K mg base 1 "_law_next" spNext []) : Cal P w K mg base 2 "_law_row" (spLrw K) [] := by
  refine mk_cal F hm sc_lrow (fun _ _ _ _ _ _ us hl => match us, hl with | [_, _, _, _], _ => rfl) (fun vs H Q E h => ?_) (fun cdv A outer s H vs Q E hr h => ?_)
  · obtain ⟨a, n, sg, sn, cn, ar, m, rfl, _⟩ := h
    rfl
  obtain ⟨a, n, sg, sn, cn, ar, m, rfl, st, hm9, har, hs, hc, q⟩ := h
  refine ⟨_, (pss_cons (ps_set (i := 4) sc_lrow.nd rfl (by first | exact Or.inl rfl | exact Or.inr rfl) (pe_tup (pa_cons (pv 3) pa_nil)))
      (pss_cons (ps_for PassesOwn.never rfl (pi_range1 (by rfl) Z.range (pa_cons (pe_op op_add (pe_ix ix_list (pe_lst (pa_cons pe_int (pa_cons pe_int pa_nil))) (pe_op op_sub (pv 2) pe_int) (fun _ _ => rfl)) (C8.pe_c c_next hr (by first | decide | omega) rfl (pa_cons (pv 0) (pa_cons pe_int pa_nil)))) pa_nil)) (pg_name (i := 5) sc_lrow.nd rfl (by first | exact Or.inl rfl | exact Or.inr rfl)) (pss_one (ps_set (i := 4) sc_lrow.nd rfl (by first | exact Or.inl rfl | exact Or.inr rfl) (pe_ix ix_list (pe_lst (pa_cons (pe_tup (pa_cons (pv 1) (pa_cons (pv 4) pa_nil))) (pa_cons (pe_tup (pa_cons (pv 1) (pa_cons (pv 4) (pa_cons (pe_tup (pa_cons (pv 3) pa_nil)) pa_nil)))) (pa_cons (pe_tup (pa_cons (pv 1) (pa_cons (pe_tup (pa_cons (pv 3) pa_nil)) (pa_cons (pv 4) pa_nil)))) pa_nil)))) (pe_op op_add (pe_op op_sub (pv 2) pe_int) (pe_op op_mul (pe_callTy call_int1 (by rfl) Z.int (by decide +kernel) (pa_cons (pe_cmpR op_eq (pv 2) pe_int (nomark _)) pa_nil)) (C8.pe_c c_next hr (by first | decide | omega) rfl (pa_cons (pv 0) (pa_cons pe_int pa_nil))))) (fun _ _ => rfl)))))
      (pss_one (ps_ret (pv 4))))), ?_⟩
  refine ⟨_, rfl, (by show 1 ≤ sizeLine; decide), fun p0 np0 => ?_⟩
  have st0 := st.new (o := .tup [.str cn]) np0
  have hp0 : SqT K (upd H p0 (.tup [.str cn])) p0 [.str cn] := SqT.mk upd_same
  have f0 : Pg.Fr a H (upd H p0 (.tup [.str cn])) := Fr.new np0
  generalize upd H p0 (.tup [.str cn]) = H1 at st0 hp0 f0 ⊢
  refine ⟨(by show 2 ≤ sizeLine; decide), fun l nl => ?_⟩
  obtain ⟨b, hb, hb90⟩ : ∃ b : Int, atI [V.int 20, V.int 90] ((ar : Int) - 1) = some (.int b) ∧ 0 ≤ b ∧ b ≤ 90 := by
    rcases har with rfl | rfl
    · exact ⟨20, rfl, by omega, by omega⟩
    · exact ⟨90, rfl, by omega, by omega⟩
  refine ⟨_, rfl, _, _, rfl, rfl, l, _, _, _, rfl, rfl, SqL.mk upd_same, hb, _, rfl, a, n, 10, _, rfl, by decide, st0.new nl, by omega, fun r H2 r0 r1 f2 s2 => ?_⟩
  refine ⟨_, _, rfl, rfl, _, rfl, by omega, by omega, ?_⟩
  have tk2 : TK K H1 H2 := (TK.new nl).trans ((st0.new (o := .lst [.int 20, .int 90]) nl).tk f2)
  refine for_range (lo := 0) (n := (b + r).toNat) (fun i σ H' => ∃ (v : V) (t : Tr) (o5 : Option V), σ = [some (.ref a), some (.str sn), some (.int (ar : Nat)), some (.str cn), some v, o5] ∧ TrAt K H' t v ∧ Wf sg [] t ∧ t.size ≤ 1 + 2 * i ∧ t.dep ≤ 1 + i ∧ Pg.Fr a H2 H' ∧ StA H' a n (m + 1 + (i : Int)))
    ⟨_, .c0 cn, none, rfl, ⟨p0, rfl, tk2 _ _ hp0⟩, hc, Nat.le_refl _, Nat.le_refl _, Fr.refl, s2.mono (by omega)⟩ ?_ ?_
  · rintro i σ H3 hi ⟨v, t, o5, rfl, ht, hw, hz, hd, fr, st3⟩
    have hi99 : i < 99 := by omega
    refine ⟨_, rfl, _, rfl, (by show 2 ≤ sizeLine; decide), fun p1 n1 => ?_⟩
    refine ⟨_, rfl, _, rfl, _, rfl, (by show 1 ≤ sizeLine; decide), fun c1 nc1 => ?_⟩
    refine ⟨(by show 3 ≤ sizeLine; decide), fun p2 n2 => ?_⟩
    refine ⟨_, rfl, _, rfl, (by show 1 ≤ sizeLine; decide), fun c2 nc2 => ?_⟩
    refine ⟨_, rfl, (by show 3 ≤ sizeLine; decide), fun p3 n3 => ?_⟩
    refine ⟨(by show 3 ≤ sizeLine; decide), fun l3 nl3 => ?_⟩
    have hb1 : SqT K (upd H3 p1 (.tup [.str sn, v])) p1 [.str sn, v] := SqT.mk upd_same
    have k1 : TK K H3 (upd H3 p1 (.tup [.str sn, v])) := TK.new n1
    have g1 := st3.new (o := .tup [.str sn, v]) n1
    have fr1 : Pg.Fr a H3 (upd H3 p1 (.tup [.str sn, v])) := Fr.new n1
    generalize upd H3 p1 (.tup [.str sn, v]) = Ha at *
    have hb2 : SqT K (upd Ha c1 (.tup [.str cn])) c1 [.str cn] := SqT.mk upd_same
    have k2 : TK K Ha (upd Ha c1 (.tup [.str cn])) := TK.new nc1
    have g2 := g1.new (o := .tup [.str cn]) nc1
    have fr2 : Pg.Fr a Ha (upd Ha c1 (.tup [.str cn])) := Fr.new nc1
    generalize upd Ha c1 (.tup [.str cn]) = Hb at *
    have hb3 : SqT K (upd Hb p2 (.tup [.str sn, v, .ref c1])) p2 [.str sn, v, .ref c1] := SqT.mk upd_same
    have k3 : TK K Hb (upd Hb p2 (.tup [.str sn, v, .ref c1])) := TK.new n2
    have g3 := g2.new (o := .tup [.str sn, v, .ref c1]) n2
    have fr3 : Pg.Fr a Hb (upd Hb p2 (.tup [.str sn, v, .ref c1])) := Fr.new n2
    generalize upd Hb p2 (.tup [.str sn, v, .ref c1]) = Hc at *
    have hb4 : SqT K (upd Hc c2 (.tup [.str cn])) c2 [.str cn] := SqT.mk upd_same
    have k4 : TK K Hc (upd Hc c2 (.tup [.str cn])) := TK.new nc2
    have g4 := g3.new (o := .tup [.str cn]) nc2
    have fr4 : Pg.Fr a Hc (upd Hc c2 (.tup [.str cn])) := Fr.new nc2
    generalize upd Hc c2 (.tup [.str cn]) = Hd at *
    have hb5 : SqT K (upd Hd p3 (.tup [.str sn, .ref c2, v])) p3 [.str sn, .ref c2, v] := SqT.mk upd_same
    have k5 : TK K Hd (upd Hd p3 (.tup [.str sn, .ref c2, v])) := TK.new n3
    have g5 := g4.new (o := .tup [.str sn, .ref c2, v]) n3
    have fr5 : Pg.Fr a Hd (upd Hd p3 (.tup [.str sn, .ref c2, v])) := Fr.new n3
    generalize upd Hd p3 (.tup [.str sn, .ref c2, v]) = He at *
    refine ⟨_, rfl, _, _, rfl, rfl, _, rfl, rfl, .inr ⟨_, rfl, _, rfl, a, n, 2, _, rfl, by decide, g5.new nl3, by omega, fun r4 H4 r40 r41 f4 s4 => ?_⟩⟩
    have hl4 : H4 l3 = some (.lst [.ref p1, .ref p2, .ref p3]) := f4 _ _ (g5.ne nl3).1 upd_same
    have kE : TK K He H4 := (TK.new nl3).trans ((g5.new (o := .lst [.ref p1, .ref p2, .ref p3]) nl3).tk f4)
    have frE : Pg.Fr a H2 H4 := fr.trans (fr1.trans (fr2.trans (fr3.trans (fr4.trans (fr5.trans ((Fr.new nl3).trans f4))))))
    have s4' : StA H4 a n (m + 1 + ((i + 1 : Nat) : Int)) := s4.mono (by omega)
    have hdp := t.dep_pos
    refine ⟨_, _, rfl, rfl, .inr ⟨by omega, by omega⟩, _, _, rfl, rfl, ?_⟩
    rcases har with rfl | rfl
    · refine ⟨l3, _, _, .ref p1, rfl, rfl, SqL.mk hl4, ?_, ?_⟩
      · have : ((1 : Nat) : Int) - 1 + (if decide (V.int ((1 : Nat) : Int) = V.int 2) = true then (1 : Int) else 0) * r4 = 0 := by
          have e : decide (V.int ((1 : Nat) : Int) = V.int 2) = false := by decide
          rw [e]
          simp
        rw [this]
        rfl
      · exact ⟨_, .c1 sn t, _, rfl, ⟨p1, v, rfl, (k2.trans (k3.trans (k4.trans (k5.trans kE)))) _ _ hb1, TrAt.keep (k1.trans (k2.trans (k3.trans (k4.trans (k5.trans kE))))) ht⟩, ⟨hs, hw⟩, by show 1 + t.size ≤ _; omega, by show 1 + t.dep ≤ _; omega, frE, s4'⟩
    · have hval : ((2 : Nat) : Int) - 1 + (if decide (V.int ((2 : Nat) : Int) = V.int 2) = true then (1 : Int) else 0) * r4 = 1 + r4 := by
        have e : decide (V.int ((2 : Nat) : Int) = V.int 2) = true := by decide
        rw [e]
        simp
      rcases (by omega : r4 = 0 ∨ r4 = 1) with rfl | rfl
      · refine ⟨l3, _, _, .ref p2, rfl, rfl, SqL.mk hl4, by rw [hval]; rfl, ?_⟩
        exact ⟨_, .c2 sn t (.c0 cn), _, rfl, ⟨p2, v, .ref c1, rfl, (k4.trans (k5.trans kE)) _ _ hb3, TrAt.keep (k1.trans (k2.trans (k3.trans (k4.trans (k5.trans kE))))) ht, ⟨c1, rfl, (k3.trans (k4.trans (k5.trans kE))) _ _ hb2⟩⟩, ⟨hs, hw, hc⟩, by show 1 + t.size + 1 ≤ _; omega, by show 1 + max t.dep 1 ≤ _; omega, frE, s4'⟩
      · refine ⟨l3, _, _, .ref p3, rfl, rfl, SqL.mk hl4, by rw [hval]; rfl, ?_⟩
        exact ⟨_, .c2 sn (.c0 cn) t, _, rfl, ⟨p3, .ref c2, v, rfl, kE _ _ hb5, ⟨c2, rfl, (k5.trans kE) _ _ hb4⟩, TrAt.keep (k1.trans (k2.trans (k3.trans (k4.trans (k5.trans kE))))) ht⟩, ⟨hs, hc, hw⟩, by show 1 + 1 + t.size ≤ _; omega, by show 1 + max 1 t.dep ≤ _; omega, frE, s4'⟩
  · rintro σ H3 ⟨v, t, o5, rfl, ht, hw, hz, hd, fr, st3⟩
    exact ⟨_, rfl, q v t H3 ht hw (by omega) (by omega) (f0.trans ((Fr.new nl).trans (f2.trans fr))) (st3.mono (by omega))⟩
theorem mk_fng {x : Str} {st : Stmt} {N ps : List Str} {k : Nat} {sp : Sp} (F : FnP K x st f fd) (S : FnScope N ps (defScope st)) (len : ∀ vs H Q E, sp vs H Q E → vs.length = ps.length)
    (body : ∀ (cdv : Value) (A : Around) (outer : List Env) (s : Shared) (H : Hp) (vs : List V) (Q : VK), (A.deeper (envOfC x (defScope st) s.heap.objs.size f cdv)).guards = some [] → Room k (A.deeper (envOfC x (defScope st) s.heap.objs.size f cdv)) → sp vs H Q E0 →
      ∃ t, PSs (cxOf CX0 P w K mg base N x (defScope st) f cdv A outer s H E0).nox (defBody st) t ∧ t { nx := fun _ H' => Q .non H', rt := Q } (start N vs) H) : FnG P w K mg base (k + 1) f fd ps sp := by
  obtain ⟨oc, od, dV, kV, doc, pm, an, cdv, ct, osl, rfl, lk, hcd, _, _⟩ := F.ex
  exact fng_of lk hcd S len fun A outer s H vs Q hg hr hsp => body cdv A outer s H vs Q hg hr hsp
theorem hu_n150 {k : Nat} {A : Around} (hr : Room k A) : A.units + 150 + 1 < cLine := by have := hr.un; omega
abbrev s_same : Stmt := top 28
abbrev N_same : List Str := ["told", "due"]
abbrev P_same : List Str := ["told", "due"]
theorem sc_same : FnScope N_same P_same (defScope s_same) := ⟨rfl, rfl, rfl, by decide +kernel, rfl, by decide +kernel, by decide +kernel⟩

theorem ok_same (F : FnP K "_law_same" s_same f fd) (Z : Zs mg) : FnG P w K mg base 1 f fd ["told", "due"] (spSameN K) := by
  refine mk_fng F sc_same (fun vs H Q E h => ?_) (fun cdv A outer s H vs Q hG hr h => ?_)
  · obtain ⟨v, v', d, rfl, _⟩ := h
    rfl
  obtain ⟨v, v', d, rfl, h1, h2, hn, hd, hs, q⟩ := h
  refine ⟨_, (pss_one (ps_ret (pe_cmpR op_eq (pe_callB (cr_repr (n := 150) (hu_n150 hr) hG) (by rfl) Z.repr (by decide +kernel) (pa_cons (pe_lst (pa_cons (pv 0) pa_nil)) pa_nil)) (pe_callB (cr_repr (n := 150) (hu_n150 hr) hG) (by rfl) Z.repr (by decide +kernel) (pa_cons (pe_lst (pa_cons (pv 1) pa_nil)) pa_nil)) (nomark _)))), ?_⟩
  have hsl := sh_list1 hs
  have hno : (PyData.list [d]).hasDict = false := by simp [PyData.hasDict, PyData.hasDictAll, hd]
  dsimp only [tRet, tOp, tCB, tCons]
  refine ⟨_, rfl, (by show 1 ≤ sizeLine; decide), fun l1 n1 => ?_⟩
  refine ⟨l1, _, rfl, Dp.lst (SqL.mk upd_same) (.cons (dp_tk (TK.new n1) _ _ hn h1) .nil), hsl.ok, hno, hsl.size (by decide), Nat.le_trans hsl.dp (by decide), ?_⟩
  refine ⟨_, rfl, (by show 1 ≤ sizeLine; decide), fun l2 n2 => ?_⟩
  refine ⟨l2, _, rfl, Dp.lst (SqL.mk upd_same) (.cons (dp_tk ((TK.new n1).trans (TK.new n2)) _ _ hn h2) .nil), hsl.ok, hno, hsl.size (by decide), Nat.le_trans hsl.dp (by decide), ?_⟩
  have e := q _ ((Same.new (o := .lst [v]) n1).trans (Same.new (o := .lst [v']) n2))
  refine ⟨rfl, ?_⟩
  rw [decide_eq_true rfl]
  exact e
end
end K03

set_option Elab.async false
set_option linter.all false
set_option maxRecDepth 100000
set_option maxHeartbeats 4000000
namespace Pg
open PySem PySem.Spec PyProof.Rows L2 LamX
/-! ### the heap but for the state and two tables -/
def B2 (a P1 P2 : Addr) (H H' : Hp) : Prop := ∀ b o, b ≠ a → b ≠ P1 → b ≠ P2 → H b = some o → H' b = some o
theorem B2.refl {a P1 P2 : Addr} {H : Hp} : B2 a P1 P2 H H := fun _ _ _ _ _ h => h
theorem B2.trans {a P1 P2 : Addr} {H H1 H2 : Hp} (x : B2 a P1 P2 H H1) (y : B2 a P1 P2 H1 H2) : B2 a P1 P2 H H2 := fun b o h1 h2 h3 h => y b o h1 h2 h3 (x b o h1 h2 h3 h)
theorem B2.fr {a P1 P2 : Addr} {H H' : Hp} (f : Fr a H H') : B2 a P1 P2 H H' := fun b o h1 _ _ h => f b o h1 h
theorem B2.p1 {a P1 P2 : Addr} {H H' : Hp} (f : ButP P1 H H') : B2 a P1 P2 H H' := fun b o _ h2 _ h => f b o h2 h
theorem B2.p2 {a P1 P2 : Addr} {H H' : Hp} (f : ButP P2 H H') : B2 a P1 P2 H H' := fun b o _ _ h3 h => f b o h3 h
theorem fr_tab {H H' : Hp} {P a : Addr} {q : Str} {xs : List V} (t : TabS H P q) (h : H a = some (.lst xs)) (f : Fr a H H') : TabS H' P q := by
  obtain ⟨ps, h1, h2, h3⟩ := t
  refine ⟨ps, f _ _ (ne_of h1 h (by intro z; cases z)) h1, h2, fun pos cv hc => ?_⟩
  obtain ⟨c, e1, e2⟩ := h3 pos cv hc
  exact ⟨c, e1, f _ _ (ne_of e2 h (by intro z; unfold CodeO at z; cases z)) e2⟩
theorem but_tab {H H' : Hp} {P P2 : Addr} {q q2 : Str} (t : TabS H P q) (t2 : TabS H P2 q2) (ne : P2 ≠ P) (f : ButP P H H') : TabS H' P2 q2 := by
  obtain ⟨ps0, hp, _⟩ := t
  obtain ⟨ps, h1, h2, h3⟩ := t2
  refine ⟨ps, f _ _ ne h1, h2, fun pos cv hc => ?_⟩
  obtain ⟨c, e1, e2⟩ := h3 pos cv hc
  exact ⟨c, e1, f _ _ (ne_of e2 hp (by intro z; unfold CodeO at z; cases z)) e2⟩
theorem put_tab {H : Hp} {P a : Addr} {q : Str} {xs : List V} {o : HO} (t : TabS H P q) (h : H a = some (.lst xs)) : TabS (upd H a o) P q := fr_tab t h fun b u n e => by rw [upd_ne n]; exact e
structure LS (a n P1 P2 : Addr) (q1 q2 : Str) (H : Hp) (m : Int) : Prop where
  st : StA H a n m
  t1 : TabS H P1 q1
  t2 : TabS H P2 q2
section
variable {K : PySem.W.Frag} {a n P1 P2 p : Addr} {q1 q2 : Str} {H H' : Hp} {m m' : Int} {o : HO} {xs : List V}
theorem LS.mono (s : LS a n P1 P2 q1 q2 H m) (h : m ≤ m') : LS a n P1 P2 q1 q2 H m' := ⟨s.st.mono h, s.t1, s.t2⟩
theorem LS.same (s : LS a n P1 P2 q1 q2 H m) (e : Same H H') : LS a n P1 P2 q1 q2 H' m := ⟨s.st.same e, s.t1.ext fun b o h => e b o h, s.t2.ext fun b o h => e b o h⟩
theorem LS.new (s : LS a n P1 P2 q1 q2 H m) (h : H p = none) : LS a n P1 P2 q1 q2 (upd H p o) m := s.same (Same.new h)
theorem LS.fr (s : LS a n P1 P2 q1 q2 H m) (f : Fr a H H') (st : StA H' a n m') : LS a n P1 P2 q1 q2 H' m' := by
  obtain ⟨ns, c, h1, _⟩ := s.st.ex
  exact ⟨st, fr_tab s.t1 h1 f, fr_tab s.t2 h1 f⟩
theorem LS.but {P : Addr} {q : Str} (s : LS a n P1 P2 q1 q2 H m) (t : TabS H P q) (f : ButP P H H') : StA H' a n m := by
  obtain ⟨ps, hP, _⟩ := t
  obtain ⟨ns, c, h1, h2, h3⟩ := s.st.ex
  exact ⟨ns, c, f _ _ (ne_of h1 hP (by intro z; cases z)) h1, f _ _ (ne_of h2 hP (by intro z; cases z)) h2, h3⟩
theorem LS.b1 (s : LS a n P1 P2 q1 q2 H m) (ne : P1 ≠ P2) (f : ButP P1 H H') (t : TabS H' P1 q1) : LS a n P1 P2 q1 q2 H' m :=
  ⟨s.but s.t1 f, t, but_tab s.t1 s.t2 ne.symm f⟩
theorem LS.b2 (s : LS a n P1 P2 q1 q2 H m) (ne : P1 ≠ P2) (f : ButP P2 H H') (t : TabS H' P2 q2) : LS a n P1 P2 q1 q2 H' m :=
  ⟨s.but s.t2 f, but_tab s.t2 s.t1 ne f, t⟩
theorem LS.tk (s : LS a n P1 P2 q1 q2 H m) (f : B2 a P1 P2 H H') : TK K H H' := by
  obtain ⟨ps1, hP1, _⟩ := s.t1
  obtain ⟨ps2, hP2, _⟩ := s.t2
  obtain ⟨ns, c, ha, _⟩ := s.st.ex
  intro p ys h
  rcases h with (h | ⟨o, h⟩) | h
  · exact .inl (.inl (f _ _ (ne_of h ha (by intro z; cases z)) (ne_of h hP1 (by intro z; cases z)) (ne_of h hP2 (by intro z; cases z)) h))
  · exact .inl (.inr ⟨o, f _ _ (ne_of h ha (by intro z; cases z)) (ne_of h hP1 (by intro z; cases z)) (ne_of h hP2 (by intro z; cases z)) h⟩)
  · exact .inr h
theorem LS.lst (s : LS a n P1 P2 q1 q2 H m) (f : B2 a P1 P2 H H') (ne : p ≠ a) (h : H p = some (.lst xs)) : H' p = some (.lst xs) := by
  obtain ⟨ps1, hP1, _⟩ := s.t1
  obtain ⟨ps2, hP2, _⟩ := s.t2
  exact f _ _ ne (ne_of h hP1 (by intro z; cases z)) (ne_of h hP2 (by intro z; cases z)) h
end
/-! ### the texts -/
theorem map_gap (l : List Str) : (l.map gapP).map (·.1) = l := by
  rw [List.map_map]
  conv => rhs; rw [← List.map_id l]
  exact List.map_congr_left fun _ _ => rfl
theorem split_plain {t : Tr} (h : WtT t) {x : Str} (e : cs x = flatG ((toks t).map gapP)) : splitS (cs x) = toks t := by
  rw [e]
  exact split_term h (n0 := 0) (map_gap _)
theorem split_tail {l : List Nat} {r : List Str} {k : Nat} (h : splitS l = r) : splitS (l ++ List.replicate k 32) = r := by
  unfold splitS at h ⊢
  rw [List.foldl_append]
  have ee : l.foldl stepS ([], false) = (r, (l.foldl stepS ([], false)).2) := Prod.ext h rfl
  rw [ee]
  exact (fold_sp k _).1
theorem flatG_len : ∀ {l : List (Str × Nat)}, (∀ p ∈ l, (cs p.1).length ≤ 8 ∧ p.2 ≤ 1) → (flatG l).length ≤ 9 * l.length
  | [], _ => Nat.zero_le _
  | p :: l, h => by
    have h1 := h p (List.mem_cons_self ..)
    have h2 := flatG_len (l := l) fun q hq => h q (List.mem_cons_of_mem _ hq)
    have e : flatG (p :: l) = (cs p.1 ++ List.replicate p.2 32) ++ flatG l := by simp [flatG]
    rw [e, List.length_append, List.length_append, List.length_replicate, List.length_cons]
    omega
theorem flat_chars : ∀ {l : List (Str × Nat)}, (∀ p ∈ l, ∀ c ∈ cs p.1, c < 128) → ∀ c ∈ flatG l, c < 128
  | [], _, c, hc => absurd hc List.not_mem_nil
  | p :: l, h, c, hc => by
    have e : flatG (p :: l) = (cs p.1 ++ List.replicate p.2 32) ++ flatG l := by simp [flatG]
    rw [e] at hc
    rcases List.mem_append.mp hc with hc | hc
    · rcases List.mem_append.mp hc with hc | hc
      · exact h p (List.mem_cons_self ..) c hc
      · rw [(List.mem_replicate.mp hc).2]; decide
    · exact flat_chars (l := l) (fun q hq => h q (List.mem_cons_of_mem _ hq)) c hc
theorem plain_facts {sg : Sg} {t : Tr} (h : TmOk sg t) {x : Str} (e : cs x = flatG ((toks t).map gapP)) : x = txt t ∧ splitS (cs x) = toks t ∧ x.length ≤ 36 * t.size ∧ (∀ c ∈ cs x, c < 128) := by
  have hs := tok_small h.w8
  refine ⟨cs_inj (e.trans (plain_txt h.wt)), split_plain h.wt e, ?_, ?_⟩
  · rw [cs_len, e]
    have h1 := flatG_len (l := (toks t).map gapP) fun p hp => by
      obtain ⟨y, hy, rfl⟩ := List.mem_map.mp hp
      have : (gapP y).1 = y ∧ (gapP y).2 ≤ 1 := by
        unfold gapP
        refine ⟨rfl, ?_⟩
        show (if y = cm then 1 else 0) ≤ 1
        split
        · exact Nat.le_refl _
        · exact Nat.zero_le _
      rw [this.1]
      exact ⟨(hs y hy).1, this.2⟩
    have h2 := toks_len t
    rw [List.length_map] at h1
    omega
  · rw [e]
    exact flat_chars fun p hp => by
      obtain ⟨y, hy, rfl⟩ := List.mem_map.mp hp
      exact (hs y hy).2
theorem okT_of {t : Tr} (hz : t.size ≤ 1000) (h : ∀ k ∈ pre t, (cs k.sym).length ≤ 8 ∧ ∀ c ∈ cs k.sym, lowC c = true) (hp : ∀ k ∈ pre t, k.size ≤ t.size) : ∀ k ∈ pre t, okT k := fun k hk => ⟨by rw [cs_len]; exact (h k hk).1, Nat.le_trans (hp k hk) hz⟩
theorem pre_size : ∀ {t k : Tr}, k ∈ pre t → k.size ≤ t.size
  | .nm x, k, h => by
    have : k = .nm x := by simpa [pre] using h
    rw [this]
    exact Nat.le_refl _
  | .c0 x, k, h => by
    have : k = .c0 x := by simpa [pre] using h
    rw [this]
    exact Nat.le_refl _
  | .c1 s t, k, h => by
    rcases List.mem_cons.mp (show k ∈ Tr.c1 s t :: pre t from h) with e | e
    · rw [e]; exact Nat.le_refl _
    · have := pre_size e
      show k.size ≤ 1 + t.size
      omega
  | .c2 s t u, k, h => by
    rcases List.mem_cons.mp (show k ∈ Tr.c2 s t u :: (pre t ++ pre u) from h) with e | e
    · rw [e]; exact Nat.le_refl _
    · show k.size ≤ 1 + t.size + u.size
      rcases List.mem_append.mp e with e | e
      · have := pre_size e; omega
      · have := pre_size e; omega
theorem if_rel {c : TT} {t u : TS} {D : Ends} {σ : L2.St} {H : Hp} (Pv : Hp → Prop) (hc : ∀ Q : Bool → Hp → Prop, (∀ H', Pv H' → Q false H') → c σ H Q) (hu : ∀ H', Pv H' → u D σ H') : tIfS c t u D σ H :=
  hc _ fun H' h => ite2 (fun e => absurd e (by decide)) (fun _ => hu H' h)
def GoodT (K : PySem.W.Frag) (sg : Sg) (H : Hp) (ws : List V) : Prop := ∀ v ∈ ws, ∃ t, TrAt K H t v ∧ TmOk sg t ∧ t.size ≤ 199 ∧ t.dep ≤ 100
theorem GoodT.keep {K : PySem.W.Frag} {sg : Sg} {H H' : Hp} {ws : List V} (k : TK K H H') (h : GoodT K sg H ws) : GoodT K sg H' ws := fun v hv => let ⟨t, h1, h2⟩ := h v hv; ⟨t, TrAt.keep k h1, h2⟩
end Pg

set_option Elab.async false
set_option linter.all false
set_option maxRecDepth 100000
set_option maxHeartbeats 4000000
namespace K03
open PySem PySem.Spec PyProof.Rows L2 Pg LamX
section
variable {P : Program} {w : World} {K : PySem.W.Frag} {mg : Str → Option Value} {base : Heap} {f : Addr} {fd : FuncData}
def spLaw (K : PySem.W.Frag) (P1 P2 : Addr) (q1 q2 : Str) : Sp := fun vs H Q _ => ∃ (a : Addr) (ns : List Int), vs = [.ref a] ∧ SqL K H a (ns.map V.int) ∧ ns.length ≤ 63 ∧ TabS H P1 q1 ∧ TabS H P2 q2 ∧ ∀ H', Q (.bl true) H'
abbrev s_law : Stmt := top 38
abbrev N_law : List Str := ["script", "state", "signs", "terms", "constant", "sign", "arity", "term", "short", "parts", "text", "spaced"]
abbrev P_law : List Str := ["script"]
theorem sc_law : FnScope N_law P_law (defScope s_law) := ⟨rfl, rfl, rfl, by decide +kernel, rfl, by decide +kernel, by decide +kernel⟩

theorem ok_law {P1 P2 fS : Addr} {q1 q2 : Str} {fdS : FuncData} (ne12 : P1 ≠ P2) (F : FnP K "law" s_law f fd) (FS : FnP K "_law_same" s_same fS fdS) (m_same : mg "_law_same" = some (.ref fS)) (G_same : FnG P w K mg base 1 fS fdS ["told", "due"] (spSameN K)) (Z : Zs mg) (GR : GRd mg)
    (c_stream : Cal P w K mg base 1 "_law_stream" (spStream K) []) (c_next : Cal P w K mg base 1 "_law_next" spNext []) (c_signs : Cal P w K mg base 3 "_law_signs" (spSigns K) []) (c_term : Cal P w K mg base 62 "_law_term" (spTerm K 60) [])
    (c_lrow : Cal P w K mg base 2 "_law_row" (spLrw K) []) (c_lpa : Cal P w K mg base 101 "_law_parts" (spLpa K 100) []) (c_lpl : Cal P w K mg base 1 "_law_plain" spLpl []) (c_lsp : Cal P w K mg base 2 "_law_spaced" spLsp [])
    {l2 : Nat} (hl2 : l2 ≤ 100) (c_ttx : Cal P w K mg base l2 "term_text" (spTtx K P2 q2) []) (c_rdt : Cal P w K mg base 6 "read_term" (spRdt K P1 q1) []) : FnG P w K mg base 132 f fd ["script"] (spLaw K P1 P2 q1 q2) := by
  have kp_same := FS.kp
  have b_same : Binds K fdS ["told", "due"] [] := FS.bindsN (fun _ _ _ _ _ _ us hl => match us, hl with | [_, _], _ => rfl)
  refine mk_fng F sc_law (fun vs H Q E h => ?_) (fun cdv A outer s H vs Q hG hr h => ?_)
  · obtain ⟨a, ns, rfl, _⟩ := h
    rfl
  obtain ⟨a0, zs, rfl, hS0, h63, tab1, tab2, q⟩ := h
  refine ⟨_, (pss_cons (ps_set (i := 1) sc_law.nd rfl (by first | exact Or.inl rfl | exact Or.inr rfl) (pe_lst (pa_cons (C8.pe_c c_stream hr (by first | decide | omega) rfl (pa_cons (pv 0) pa_nil)) (pa_cons pe_int pa_nil))))
      (pss_cons (ps_set (i := 2) sc_law.nd rfl (by first | exact Or.inl rfl | exact Or.inr rfl) (C8.pe_c c_signs hr (by first | decide | omega) rfl (pa_cons (pv 1) (pa_cons (pe_op op_add pe_int (C8.pe_c c_next hr (by first | decide | omega) rfl (pa_cons (pv 1) (pa_cons pe_int pa_nil)))) pa_nil))))
      (pss_cons (ps_set (i := 3) sc_law.nd rfl (by first | exact Or.inl rfl | exact Or.inr rfl) (pe_lst (pa_cons (C8.pe_c c_term hr (by first | decide | omega) rfl (pa_cons (pv 1) (pa_cons (pv 2) (pa_cons (pe_slice sl_list (pe_lst (pa_cons pe_str (pa_cons pe_str (pa_cons pe_str pa_nil)))) po_none (po_some (C8.pe_c c_next hr (by first | decide | omega) rfl (pa_cons (pv 1) (pa_cons pe_int pa_nil))))) (pa_cons (pe_op op_add pe_int (C8.pe_c c_next hr (by first | decide | omega) rfl (pa_cons (pv 1) (pa_cons pe_int pa_nil)))) pa_nil))))) pa_nil)))
      (pss_cons (ps_expr (pe_bm PySem.F.plainAttrs_list PySem.F.slot_list_append PySem.F.type_list_append mt_append (pv 3) (pa_cons (C8.pe_c c_term hr (by first | decide | omega) rfl (pa_cons (pv 1) (pa_cons (pv 2) (pa_cons (pe_lst (pa_cons pe_str pa_nil)) (pa_cons (pe_op op_add pe_int (C8.pe_c c_next hr (by first | decide | omega) rfl (pa_cons (pv 1) (pa_cons pe_int pa_nil)))) pa_nil))))) pa_nil)))
      (pss_cons (ps_set (i := 4) sc_law.nd rfl (by first | exact Or.inl rfl | exact Or.inr rfl) (pe_ix ix_list (pe_lc (own := [("sign", 5), ("arity", 6)]) (g := (gTup K 2 (gCons (gName 5) (gCons (gName 6) gNil)))) (tt := (tTest (tOp _ (tVar 6) _))) (te := (tVar 5)) rfl sc_law.nd (pi_tup (pv 2)) (blkOk_by (N := N_law) (sc := defScope s_law) (by decide +kernel)) (fun _ _ _ _ _ => by exact (pg_tup rfl (pgs_cons (pg_name (i := 5) sc_law.nd rfl (Or.inl rfl)) (pgs_cons (pg_name (i := 6) sc_law.nd rfl (Or.inl rfl)) pgs_nil)))) (fun _ _ _ _ _ => by exact (pts_one (pt_cmpR op_eq (pv 6) pe_int (nomark _)))) (fun _ _ _ _ _ => by exact (pv 5))) pe_int (fun _ _ => rfl)))
      (pss_cons (ps_for PassesOwn.never rfl (pi_tup (pv 2)) (pg_tup rfl (pgs_cons (pg_name (i := 5) sc_law.nd rfl (by first | exact Or.inl rfl | exact Or.inr rfl)) (pgs_cons (pg_name (i := 6) sc_law.nd rfl (by first | exact Or.inl rfl | exact Or.inr rfl)) pgs_nil))) (pss_one (ps_if (PW.pt (pw_and (pt_cmpR op_gt (pv 6) pe_int (nomark _)) (pw_and1 (pt_cmpR op_eq (C8.pe_c c_next hr (by first | decide | omega) rfl (pa_cons (pv 1) (pa_cons pe_int pa_nil))) pe_int (nomark _))))) (pss_one (ps_expr (pe_bm PySem.F.plainAttrs_list PySem.F.slot_list_append PySem.F.type_list_append mt_append (pv 3) (pa_cons (C8.pe_c c_lrow hr (by first | decide | omega) rfl (pa_cons (pv 1) (pa_cons (pv 5) (pa_cons (pv 6) (pa_cons (pv 4) pa_nil))))) pa_nil)))) pss_nil)))
      (pss_cons (ps_for PassesOwn.never rfl (pi_list (pv 3)) (pg_name (i := 7) sc_law.nd rfl (by first | exact Or.inl rfl | exact Or.inr rfl)) (pss_cons (ps_set (i := 9) sc_law.nd rfl (by first | exact Or.inl rfl | exact Or.inr rfl) (C8.pe_c c_lpa hr (by first | decide | omega) rfl (pa_cons (pv 7) pa_nil)))
      (pss_cons (ps_set (i := 10) sc_law.nd rfl (by first | exact Or.inl rfl | exact Or.inr rfl) (C8.pe_c c_lpl hr (by first | decide | omega) rfl (pa_cons (pv 9) pa_nil)))
      (pss_cons (ps_if (PW.pt (pw_or (pt_not (pt_val (pe_callG G_same hG (hr.mono (by decide)) (by rfl) m_same kp_same b_same (pa_cons (C8.pe_c c_ttx hr (by first | decide | omega) rfl (pa_cons (pv 7) pa_nil)) (pa_cons (pv 10) pa_nil))))) (pw_or1 (PW.pt (pw_and (pt_cmpR op_le (pe_callB call_len_str (by rfl) Z.len (by decide +kernel) (pa_cons (pv 10) pa_nil)) pe_int (nomark _)) (pw_and1 (pt_not (pt_val (pe_callG G_same hG (hr.mono (by decide)) (by rfl) m_same kp_same b_same (pa_cons (C8.pe_c c_rdt hr (by first | decide | omega) rfl (pa_cons (pv 2) (pa_cons (pv 10) pa_nil))) (pa_cons (pv 7) pa_nil))))))))))) (pss_one (ps_ret pe_bl)) pss_nil)
      (pss_cons (ps_set (i := 11) sc_law.nd rfl (by first | exact Or.inl rfl | exact Or.inr rfl) (C8.pe_c c_lsp hr (by first | decide | omega) rfl (pa_cons (pv 1) (pa_cons (pv 9) pa_nil))))
      (pss_one (ps_if (PW.pt (pw_and (pt_cmpR op_le (pe_callB call_len_str (by rfl) Z.len (by decide +kernel) (pa_cons (pv 11) pa_nil)) pe_int (nomark _)) (pw_and1 (pt_not (pt_val (pe_callG G_same hG (hr.mono (by decide)) (by rfl) m_same kp_same b_same (pa_cons (C8.pe_c c_rdt hr (by first | decide | omega) rfl (pa_cons (pv 2) (pa_cons (pv 11) pa_nil))) (pa_cons (pv 7) pa_nil)))))))) (pss_one (ps_ret pe_bl)) pss_nil)))))))
      (pss_cons (ps_set (i := 8) sc_law.nd rfl (by first | exact Or.inl rfl | exact Or.inr rfl) (C8.pe_c c_lpl hr (by first | decide | omega) rfl (pa_cons (C8.pe_c c_lpa hr (by first | decide | omega) rfl (pa_cons (pe_ix ix_list (pv 3) pe_int (fun _ _ => rfl)) pa_nil)) pa_nil)))
      (pss_one (ps_ret (pe_and (pe_cmpR op_eq (C8.pe_gc (v := .int 4000) (by rfl) GR.mx) pe_int (nomark _)) (pe_one (pe_callG G_same hG (hr.mono (by decide)) (by rfl) m_same kp_same b_same (pa_cons (C8.pe_c c_rdt hr (by first | decide | omega) rfl (pa_cons (pv 2) (pa_cons (pe_op op_add_str (pv 8) (pe_op op_spc pe_str (pe_op op_sub pe_int (pe_callB call_len_str (by rfl) Z.len (by decide +kernel) (pa_cons (pv 8) pa_nil))))) pa_nil))) (pa_cons (pe_ix ix_list (pv 3) pe_int (fun _ _ => rfl)) pa_nil))))))))))))))), ?_⟩
  refine ⟨_, rfl, a0, zs, rfl, hS0, h63, fun n ns H1 nn0 sm1 hn hne hlen hin => ?_⟩
  refine ⟨(by show 2 ≤ sizeLine; decide), fun a na => ?_⟩
  have nna : n ≠ a := ne_of_none hn na
  have s0 : StA (upd H1 a (.lst [.ref n, .int 0])) a n 0 := ⟨ns, 0, upd_same, by rw [upd_ne nna]; exact hn, nna, hne, hlen, hin, Int.le_refl _, Int.le_refl _⟩
  have sHa : Same H (upd H1 a (.lst [.ref n, .int 0])) := sm1.trans (Same.new na)
  have L0 : LS a n P1 P2 q1 q2 (upd H1 a (.lst [.ref n, .int 0])) 0 := ⟨s0, tab1.ext fun b o h => sHa b o h, tab2.ext fun b o h => sHa b o h⟩
  generalize upd H1 a (.lst [.ref n, .int 0]) = Ha at L0 ⊢
  clear s0 sHa nna na hin hlen hne hn sm1 nn0 tab1 tab2 hS0
  -- signs
  refine ⟨_, rfl, _, rfl, a, n, 4, 0, rfl, by decide, L0.st, by omega, fun r H2 r0 r1 f2 s2 => ?_⟩
  refine ⟨_, _, rfl, rfl, a, n, _, _, rfl, s2, by omega, by omega, by omega, fun g sg H3 hsg gs f3 s3 => ?_⟩
  have L3 := (L0.fr f2 s2).fr f3 s3
  clear s3 f3 s2 f2 L0
  -- terms
  refine ⟨_, rfl, _, rfl, (by show 3 ≤ sizeLine; decide), fun l nl => ?_⟩
  refine ⟨_, rfl, a, n, 4, _, rfl, by decide, L3.st.new nl, by omega, fun r4 H4 r40 r41 f4 s4 => ?_⟩
  have hl4 : H4 l = some (.lst [V.str "x", V.str "v", V.str "xx"]) := f4 _ _ (L3.st.ne nl).1 upd_same
  obtain ⟨k, rfl⟩ := Int.eq_ofNat_of_zero_le r40
  refine ⟨_, rfl, l, _, rfl, SqL.mk hl4, fun nm nnm => ?_⟩
  rw [cutV_take]
  obtain ⟨nms, hnms⟩ : ∃ nms : List Str, nms = (["x", "v", "xx"] : List Str).take k := ⟨_, rfl⟩
  have hnv : ([V.str "x", V.str "v", V.str "xx"] : List V).take k = nms.map V.str := by rw [hnms, List.map_take]; rfl
  have hnl : nms.length ≤ 3 := by rw [hnms, List.length_take]; exact Nat.min_le_right _ _
  have hnok : ∀ x ∈ nms, NmOk x := fun x hx => by
    rw [hnms] at hx
    have h1 := List.mem_of_mem_take hx
    refine nmL_ok x ?_
    simp only [List.mem_cons, List.not_mem_nil, or_false] at h1 ⊢
    rcases h1 with h | h | h
    · exact .inl h
    · exact .inr (.inl h)
    · exact .inr (.inr (.inl h))
  rw [hnv]
  have L4 : LS a n P1 P2 q1 q2 H4 52 := ((L3.new nl).fr f4 s4).mono (by omega)
  have hsg4 := hsg.keep ((L3.tk (K := K) (B2.fr (Fr.new nl))).trans ((L3.new (o := .lst [V.str "x", V.str "v", V.str "xx"]) nl).tk (B2.fr f4)))
  have L5 : LS a n P1 P2 q1 q2 (upd H4 nm (.lst (nms.map V.str))) 52 := L4.new nnm
  have hsg5 : SgAt K (upd H4 nm (.lst (nms.map V.str))) g sg := hsg4.keep (TK.new nnm)
  have nma := (L4.st.ne nnm).1
  have hnm5 : (upd H4 nm (.lst (nms.map V.str))) nm = some (.lst (nms.map V.str)) := upd_same
  generalize upd H4 nm (.lst (nms.map V.str)) = H5 at L5 hsg5 hnm5 ⊢
  clear hsg4 L4 hl4 s4 f4 r41 hsg nl L3 nnm
  refine ⟨_, rfl, a, n, 60, _, rfl, by decide, L5.st, by omega, fun r6 H6 r60 r61 f6 s6 => ?_⟩
  have L6 := L5.fr f6 s6
  refine ⟨_, _, rfl, rfl, a, n, g, nm, sg, nms, 1 + r6, _, rfl, L6.st, by omega, hsg5.keep (L5.tk (B2.fr f6)), gs, SqL.mk (f6 _ _ nma hnm5), nma, by omega, by omega, by omega, fun v t H7 ht hw hz f7 s7 => ?_⟩
  have L7 : LS a n P1 P2 q1 q2 H7 300 := (L6.fr f7 s7).mono (by omega)
  have hsg7 := hsg5.keep (L5.tk (K := K) (B2.fr (f6.trans f7)))
  have hz0 : t.size ≤ 60 := by omega
  have ok0 := tm_ok gs hnok hw
  clear s7 f7 s6 f6 L6 hsg5 hnm5 nma L5 hz hw
  refine ⟨(by show 1 ≤ sizeLine; decide), fun T nT => ?_⟩
  have L8 : LS a n P1 P2 q1 q2 (upd H7 T (.lst [v])) 300 := L7.new nT
  have hsg8 : SgAt K (upd H7 T (.lst [v])) g sg := hsg7.keep (TK.new nT)
  have nTa := (L7.st.ne nT).1
  have nTn := (L7.st.ne nT).2
  have hT8 : (upd H7 T (.lst [v])) T = some (.lst [v]) := upd_same
  have ht8 : TrAt K (upd H7 T (.lst [v])) t v := TrAt.keep (TK.new nT) ht
  generalize upd H7 T (.lst [v]) = H8 at L8 hsg8 hT8 ht8 ⊢
  clear ht hsg7 L7 nT
  -- the second term
  dsimp only [gName, tNext, tSeq, tAsg]
  refine ⟨_, rfl, .inl ⟨rfl, _, SqL.mk hT8⟩, _, rfl, _, rfl, (by show 1 ≤ sizeLine; decide), fun nm nnm => ?_⟩
  have L9 : LS a n P1 P2 q1 q2 (upd H8 nm (.lst [.str "xvxvxvxv"])) 300 := L8.new nnm
  have hnm9 : (upd H8 nm (.lst [.str "xvxvxvxv"])) nm = some (.lst ((["xvxvxvxv"] : List Str).map V.str)) := upd_same
  have nma := (L8.st.ne nnm).1
  have hT9 : (upd H8 nm (.lst [.str "xvxvxvxv"])) T = some (.lst [v]) := by rw [upd_ne (ne_of_none hT8 nnm)]; exact hT8
  have tk9 : TK K H8 (upd H8 nm (.lst [.str "xvxvxvxv"])) := TK.new nnm
  generalize upd H8 nm (.lst [.str "xvxvxvxv"]) = H9 at L9 hnm9 hT9 tk9 ⊢
  refine ⟨_, rfl, a, n, 6, _, rfl, by decide, L9.st, by omega, fun r1 H10 r10 r11 f10 s10 => ?_⟩
  have L10 := L9.fr f10 s10
  refine ⟨_, _, rfl, rfl, a, n, g, nm, sg, ["xvxvxvxv"], 1 + r1, _, rfl, L10.st, by omega, (hsg8.keep tk9).keep (L9.tk (B2.fr f10)), gs, SqL.mk (f10 _ _ nma hnm9), nma, (by decide), by omega, by omega, fun v1 t1 H11 ht1 hw1 hz1 f11 s11 => ?_⟩
  have ok1 := tm_ok gs (fun x hx => nmL_ok x (by rw [List.mem_singleton] at hx; rw [hx]; decide)) hw1
  have L11 := L10.fr f11 s11
  have tk11 : TK K H8 H11 := tk9.trans (L9.tk (B2.fr (f10.trans f11)))
  have hT11 : H11 T = some (.lst [v]) := L9.lst (B2.fr (f10.trans f11)) nTa hT9
  refine ⟨T, _, _, rfl, rfl, hT11, ?_, ?_⟩
  · show 1 < sizeLine
    decide
  have L12 : LS a n P1 P2 q1 q2 (upd H11 T (.lst [v, v1])) 700 := by
    have hP1 := (L11.t1)
    exact ⟨(L11.st.put ⟨nTa, nTn⟩).mono (by omega), put_tab L11.t1 hT11, put_tab L11.t2 hT11⟩
  have tk12 : TK K H8 (upd H11 T (.lst [v, v1])) := tk11.trans (TK.put hT11)
  have hT12 : (upd H11 T (.lst [v, v1])) T = some (.lst ([v, v1] ++ [])) := upd_same
  have hgood : GoodT K sg (upd H11 T (.lst [v, v1])) ([v, v1] ++ []) := by
    intro y hy
    simp only [List.append_nil, List.mem_cons, List.not_mem_nil, or_false] at hy
    rcases hy with rfl | rfl
    · have := t.dep_le
      exact ⟨t, TrAt.keep tk12 ht8, ok0, by omega, by omega⟩
    · have := t1.dep_le
      exact ⟨t1, TrAt.keep (TK.put hT11) ht1, ok1, by omega, by omega⟩
  have hsg12 := hsg8.keep tk12
  have ht12 : TrAt K (upd H11 T (.lst [v, v1])) t1 v1 := TrAt.keep (TK.put hT11) ht1
  have hz1 : t1.size ≤ 60 := by omega
  rw [show ([v] ++ [v1] : List V) = [v, v1] from rfl]
  generalize upd H11 T (.lst [v, v1]) = H12 at L12 hT12 hgood hsg12 ht12 ⊢
  clear tk12 hT11 tk11 L11 ht1 hw1 f11 s11 L10 f10 s10 tk9 hT9 nma hnm9 L9 nnm L8 hsg8 hT8 ht8
  -- the constant
  dsimp only [gName, tNext, tSeq, tAsg]
  dsimp only [tOp]
  refine rd_prsIf (K := K) (i := 2) (fun s => .str s.1) (fun s => decide (s.2 = 0)) rfl hsg12 (by have := gs.len; omega) (fun _ _ => rfl) (fun s H' _ _ Q' q' => ?_) (fun s H' _ _ Q' q' => ?_) (fun D H13 nD sm13 hD => ?_)
  · refine ⟨_, rfl, rfl, _, rfl, ?_⟩
    have : decide (V.int s.2 = V.int 0) = decide (s.2 = 0) := by
      by_cases h : s.2 = 0
      · rw [h]; rfl
      · rw [decide_eq_false h, decide_eq_false fun z => h (V.int.inj z)]
    rw [this]
    exact q'
  · exact ⟨_, rfl, q' _ (fun _ _ h => h)⟩
  obtain ⟨c, cr, hcf, hcm⟩ : ∃ (c : Str) (cr : List V), (sg.filter fun s => decide (s.2 = 0)).map (fun s => V.str s.1) = V.str c :: cr ∧ (c, 0) ∈ sg := by
    obtain ⟨s, hs, hs0⟩ := gs.c0
    cases e : sg.filter fun s => decide (s.2 = 0) with
    | nil => exact absurd (List.mem_filter.mpr ⟨hs, decide_eq_true hs0⟩) (by rw [e]; exact List.not_mem_nil)
    | cons x r =>
      have hx : x ∈ sg.filter fun s => decide (s.2 = 0) := by rw [e]; exact List.mem_cons_self ..
      obtain ⟨h1, h2⟩ := List.mem_filter.mp hx
      refine ⟨x.1, _, rfl, ?_⟩
      rw [← of_decide_eq_true h2]
      exact h1
  rw [hcf] at hD
  refine ⟨D, _, 0, _, rfl, rfl, SqL.mk hD, at0 _ _, ?_⟩
  have L13 := L12.same sm13
  have hT13 := sm13 _ _ hT12
  have hgood13 := hgood.keep (TK.same sm13)
  have hsg13 := hsg12.keep (TK.same sm13)
  have ht13 := TrAt.keep (TK.same (K := K) sm13) ht12
  clear hD hcf cr sm13 nD ht12 hsg12 hgood hT12 L12
  obtain ⟨rs, hS, pr⟩ := hsg13.ex
  refine ⟨_, rfl, g, rfl, ⟨_, hS⟩, for_tup (K := K) (a := g) (xs := rs.map V.ref) (fun i σ H' => ∃ (o5 o6 : Option V) (ws : List V), σ = [some (.ref a0), some (.ref a), some (.ref g), some (.ref T), some (.str c), o5, o6, none, none, none, none, none] ∧ TK K H13 H' ∧ LS a n P1 P2 q1 q2 H' (700 + 300 * (i : Int)) ∧ H' T = some (.lst ([v, v1] ++ ws)) ∧ GoodT K sg H' ([v, v1] ++ ws) ∧ ws.length ≤ i)
    ⟨none, none, [], rfl, TK.refl, L13.mono (by omega), hT13, hgood13, Nat.le_refl _⟩ (fun i σ H' _ ⟨_, _, _, _, tk, _⟩ => tk _ _ hS) ?_ ?_⟩
  · rintro i x σ Hc hx ⟨o5, o6, ws, rfl, tk, Lc, hTc, hgc, hwl⟩
    rw [List.getElem?_map] at hx
    obtain ⟨rr, er, rfl⟩ : ∃ rr, rs[i]? = some rr ∧ V.ref rr = x := by
      cases e : rs[i]? with
      | none => rw [e] at hx; cases hx
      | some z => rw [e] at hx; exact ⟨z, rfl, Option.some.inj hx⟩
    obtain ⟨s0, es, hrr⟩ := Pg.paired_get pr er
    have hmem := List.mem_of_getElem? es
    have hi : i < sg.length := (List.getElem?_eq_some_iff.mp es).1
    have g4 := gs.len
    have har := gs.ar _ hmem
    refine ⟨rr, _, rfl, tk _ _ hrr, rfl, _, _, rfl, _, _, rfl, rfl, ?_⟩
    obtain ⟨sn, sz⟩ := s0
    dsimp only at har hmem hrr
    obtain ⟨ar, rfl⟩ := Int.eq_ofNat_of_zero_le har.1
    have skip : ∀ (H' : Hp), TK K H13 H' → LS a n P1 P2 q1 q2 H' (700 + 300 * (i : Int) + 1) → H' T = some (.lst ([v, v1] ++ ws)) → GoodT K sg H' ([v, v1] ++ ws) → ∃ (o5 o6 : Option V) (ws' : List V), ([some (.ref a0), some (.ref a), some (.ref g), some (.ref T), some (.str c), some (.str sn), some (.int ar), none, none, none, none, none] : L2.St) = [some (.ref a0), some (.ref a), some (.ref g), some (.ref T), some (.str c), o5, o6, none, none, none, none, none] ∧ TK K H13 H' ∧ LS a n P1 P2 q1 q2 H' (700 + 300 * ((i + 1 : Nat) : Int)) ∧ H' T = some (.lst ([v, v1] ++ ws')) ∧ GoodT K sg H' ([v, v1] ++ ws') ∧ ws'.length ≤ i + 1 :=
      fun H' k l e g => ⟨_, _, ws, rfl, k, l.mono (by omega), e, g, by omega⟩
    refine ⟨_, rfl, _, _, rfl, rfl, _, rfl, ite2 (fun hpos => ?_) (fun _ => ?_)⟩
    rotate_left
    · exact ite2 (fun e => absurd e (by decide)) (fun _ => skip _ tk (Lc.mono (by omega)) hTc hgc)
    have hpos := of_decide_eq_true hpos
    refine ⟨_, rfl, a, n, 4, _, rfl, by decide, Lc.st, by omega, fun r4 Hd r40 r41 fd' sd => ?_⟩
    have Ld := Lc.fr fd' sd
    have tkd := Lc.tk (K := K) (B2.fr fd')
    have hTd := Lc.lst (B2.fr fd') nTa hTc
    refine ⟨rfl, _, rfl, ite2 (fun e => ?_) (fun e => ?_)⟩
    rotate_left
    · exact skip _ (tk.trans tkd) Ld hTd (hgc.keep tkd)
    refine ⟨_, rfl, .inl ⟨rfl, _, SqL.mk hTd⟩, _, rfl, _, rfl, _, rfl, _, rfl, a, n, sg, sn, c, ar, _, rfl, Ld.st, by omega, by omega, hmem, hcm, fun vr tr He htr hwr hzr hdr fe se => ?_⟩
    have Le := Ld.fr fe se
    have tke := tkd.trans (Ld.tk (K := K) (B2.fr fe))
    have hTe := Ld.lst (B2.fr fe) nTa hTd
    refine ⟨T, _, _, rfl, rfl, hTe, ?_, ?_⟩
    · show ([v, v1] ++ ws).length < sizeLine
      simp only [List.length_append, List.length_cons, List.length_nil]
      exact smallN (by omega)
    rw [List.append_assoc]
    have kp := TK.put (K := K) (o := .lst ([v, v1] ++ (ws ++ [vr]))) hTe
    refine ⟨_, _, ws ++ [vr], rfl, tk.trans (tke.trans kp), ⟨(Le.st.put ⟨nTa, nTn⟩).mono (by omega), put_tab Le.t1 hTe, put_tab Le.t2 hTe⟩, upd_same, fun y hy => ?_, ?_⟩
    · rw [← List.append_assoc] at hy
      rcases List.mem_append.mp hy with h | h
      · exact (hgc.keep (tke.trans kp)) y h
      · rw [List.mem_singleton] at h
        rw [h]
        exact ⟨tr, TrAt.keep kp htr, tm_ok gs (fun x hx => absurd hx List.not_mem_nil) hwr, hzr, hdr⟩
    · rw [List.length_append]
      show ws.length + 1 ≤ i + 1
      omega
  · rintro σ Hc ⟨o5, o6, ws, rfl, tk, Lc, hTc, hgc, hwl⟩
    dsimp only [tSeq, gName]
    have hrl : rs.length = sg.length := paired_len pr
    have hsgc := hsg13.keep tk
    have ht1c := TrAt.keep tk ht13
    have g4 := gs.len
    rw [List.length_map] at hwl Lc
    have Lc0 : LS a n P1 P2 q1 q2 Hc 2000 := Lc.mono (by omega)
    clear Lc tk
    refine ⟨_, rfl, T, rfl, ⟨_, SqL.mk hTc⟩, ?_⟩
    refine for_list (K := K) (a := T) (xs := [v, v1] ++ ws) (fun i σ H' => ∃ (o7 o9 o10 o11 : Option V), σ = [some (.ref a0), some (.ref a), some (.ref g), some (.ref T), some (.str c), o5, o6, o7, none, o9, o10, o11] ∧ B2 a P1 P2 Hc H' ∧ LS a n P1 P2 q1 q2 H' (2000 + 2000 * (i : Int)))
      ⟨none, none, none, none, rfl, B2.refl, Lc0.mono (by omega)⟩ (fun i σ H' _ ⟨_, _, _, _, _, b, _⟩ => SqL.mk (Lc0.lst b nTa hTc)) ?_ ?_
    · rintro i y σ Hi hy ⟨o7, o9, o10, o11, rfl, bi, Li⟩
      have hi : i < ([v, v1] ++ ws).length := (List.getElem?_eq_some_iff.mp hy).1
      have hi7 : i < 6 := by
        simp only [List.length_append, List.length_cons, List.length_nil] at hi
        omega
      have tki := Lc0.tk (K := K) bi
      obtain ⟨t, ht, ok, hz, hd⟩ := (hgc.keep tki) y (List.mem_of_getElem? hy)
      have hsgi := hsgc.keep tki
      have h8 : ∀ y ∈ toks t, (cs y).length ≤ 8 := fun y hy => (tok_small ok.w8 y hy).1
      have htl := toks_len t
      have shT : Sh 110 100000 (trD t) := (trD_sh ok.w8).mono (by omega) (by omega)
      refine ⟨_, rfl, y, t, rfl, ht, hd, by omega, fun p H1 np s1 hp => ?_⟩
      have npa := (Li.st.ne np).1
      have L1 := Li.same s1
      have k1 : TK K Hi H1 := TK.same s1
      dsimp only [gName, tSeq, tAsg]
      refine ⟨_, rfl, p, toks t, rfl, hp, by omega, h8, fun x H2 hx s2 => ?_⟩
      obtain ⟨ex, esp, hxl, hxc⟩ := plain_facts ok hx
      have L2' := L1.same s2
      have k2 := k1.trans (TK.same (K := K) s2)
      have hp2 := s2 _ _ hp
      have b2 : B2 a P1 P2 Hi H2 := (B2.fr (Fr.of s1)).trans (B2.fr (Fr.of s2))
      refine if_rel (fun H' => B2 a P1 P2 H2 H' ∧ LS a n P1 P2 q1 q2 H' (2000 + 2000 * (i : Int))) (fun Q' q' => ?_) (fun H3 ⟨b3, L3⟩ => ?_)
      · refine ⟨_, rfl, y, t, rfl, TrAt.keep k2 ht, by omega, okT_of (by omega) ok.w8 (fun k hk => pre_size hk), L2'.t2, fun H3 bp3 tab3 _ => ?_⟩
        have L3 := L2'.b2 ne12 bp3 tab3
        have k3 := L2'.tk (K := K) (B2.p2 bp3)
        have b3 : B2 a P1 P2 H2 H3 := B2.p2 bp3
        refine ⟨_, rfl, .str (txt t), .str x, .str x, rfl, by rw [ex]; exact Dp.str _, Dp.str _, rfl, rfl, (Sh.str (x := x) (B := 8000) (fun c hc => Nat.lt_of_lt_of_le (hxc c hc) (by decide)) (by rw [← cs_len]; omega)).mono (by omega) (by omega), fun H4 s4 => ⟨true, rfl, ?_⟩⟩
        refine ite2 (fun h => absurd h (by decide)) (fun _ => ?_)
        have L4 := L3.same s4
        have k4 := k3.trans (TK.same (K := K) s4)
        have b4 := b3.trans (B2.fr (a := a) (P1 := P1) (P2 := P2) (Fr.of s4))
        refine ⟨_, rfl, x, rfl, Nat.le_of_lt (smallN (by omega)), _, _, rfl, rfl, _, rfl, ite2 (fun hle => ?_) (fun _ => q' _ ⟨b4, L4⟩)⟩
        have hle := of_decide_eq_true hle
        refine ⟨_, rfl, _, rfl, g, sg, x, t, rfl, hsgi.keep (k2.trans k4), by omega, by omega, esp, ok.rd, fun y hy => by rw [cs_len]; have := h8 y hy; omega, by omega, hd, L4.t1, fun v2 H5 ht2 bp5 tab5 => ?_⟩
        have L5 := L4.b1 ne12 bp5 tab5
        have k5 := k4.trans (L4.tk (K := K) (B2.p1 bp5))
        have b5 := b4.trans (B2.p1 bp5)
        refine ⟨_, rfl, v2, y, trD t, rfl, tr_dp ht2, tr_dp (TrAt.keep (k2.trans k5) ht), nest_tr t, trD_nod t, shT, fun H6 s6 => ⟨true, rfl, ?_⟩⟩
        exact q' _ ⟨b5.trans (B2.fr (Fr.of s6)), L5.same s6⟩
      have hp3 := L2'.lst b3 npa hp2
      have k3 := k2.trans (L2'.tk (K := K) b3)
      have bI3 := b2.trans b3
      refine ⟨_, rfl, _, rfl, a, n, p, toks t, _, rfl, L3.st, by omega, hp3, npa, by omega, h8, fun z lg n0 H4 hl hz4 hzl f4 st4 => ?_⟩
      have L4 : LS a n P1 P2 q1 q2 H4 (2000 + 2000 * ((i + 1 : Nat) : Int)) := (L3.fr f4 st4).mono (by omega)
      have k4 := k3.trans (L3.tk (K := K) (B2.fr f4))
      have b4 := bI3.trans (B2.fr f4)
      dsimp only [gName, tSeq, tAsg]
      refine if_rel (fun H' => B2 a P1 P2 Hi H' ∧ LS a n P1 P2 q1 q2 H' (2000 + 2000 * ((i + 1 : Nat) : Int))) (fun Q' q' => ?_) (fun H5 ⟨b5, L5⟩ => ⟨_, _, _, _, rfl, bi.trans b5, L5⟩)
      refine ⟨_, rfl, z, rfl, Nat.le_of_lt (smallN (by omega)), _, _, rfl, rfl, _, rfl, ite2 (fun hle => ?_) (fun _ => q' _ ⟨b4, L4⟩)⟩
      have hle := of_decide_eq_true hle
      refine ⟨_, rfl, _, rfl, g, sg, z, t, rfl, hsgi.keep k4, by omega, by omega, by rw [hz4]; exact split_term ok.wt hl, ok.rd, fun y hy => by rw [cs_len]; have := h8 y hy; omega, by omega, hd, L4.t1, fun v2 H5 ht2 bp5 tab5 => ?_⟩
      have L5 := L4.b1 ne12 bp5 tab5
      have k5 := k4.trans (L4.tk (K := K) (B2.p1 bp5))
      have b5 := b4.trans (B2.p1 bp5)
      refine ⟨_, rfl, v2, y, trD t, rfl, tr_dp ht2, tr_dp (TrAt.keep k5 ht), nest_tr t, trD_nod t, shT, fun H6 s6 => ⟨true, rfl, ?_⟩⟩
      exact q' _ ⟨b5.trans (B2.fr (Fr.of s6)), L5.same s6⟩
    · rintro σ Hi ⟨o7, o9, o10, o11, rfl, bi, Li⟩
      have tki := Lc0.tk (K := K) bi
      have hTi := Lc0.lst bi nTa hTc
      have ht := TrAt.keep tki ht1c
      have hsgi := hsgc.keep tki
      have hdl := t1.dep_le
      have h8 : ∀ y ∈ toks t1, (cs y).length ≤ 8 := fun y hy => (tok_small ok1.w8 y hy).1
      have htl := toks_len t1
      have shT : Sh 110 100000 (trD t1) := (trD_sh ok1.w8).mono (by omega) (by omega)
      refine ⟨_, rfl, T, _, 1, v1, rfl, rfl, SqL.mk hTi, atI_nat (j := 1) rfl, v1, t1, rfl, ht, by omega, by omega, fun p H1 np s1 hp => ?_⟩
      refine ⟨p, toks t1, rfl, hp, by omega, h8, fun x H2 hx s2 => ?_⟩
      obtain ⟨ex, esp, hxl, hxc⟩ := plain_facts ok1 hx
      have sm2 := s1.trans s2
      have L2' := Li.same sm2
      have k2 := TK.same (K := K) sm2
      have hT2 := sm2 _ _ hTi
      dsimp only [tSeq, tAsg, gName, tRet]
      refine ⟨rfl, ?_⟩
      rw [decide_eq_true rfl]
      refine ⟨true, rfl, ?_⟩
      rw [if_pos rfl]
      have hx4 : x.length ≤ 4000 := by omega
      refine ⟨_, rfl, _, rfl, _, rfl, x, rfl, Nat.le_of_lt (smallN (by omega)), _, _, rfl, rfl, 4000 - x.length, rfl, ?_, by omega, fun z hz => ?_⟩
      · exact congrArg V.int (by omega)
      have hzl : z.length = 4000 - x.length := by rw [cs_len, hz, List.length_replicate]
      refine ⟨_, _, rfl, rfl, Nat.le_of_lt (smallN (by omega)), ?_⟩
      refine ⟨g, sg, x ++ z, t1, rfl, hsgi.keep k2, by omega, by rw [PySem.Str.length_append]; omega, by rw [cs_app, hz]; exact split_tail esp, ok1.rd, fun y hy => by rw [cs_len]; have := h8 y hy; omega, by omega, by omega, L2'.t1, fun v2 H5 ht2 bp5 tab5 => ?_⟩
      have L5 := L2'.b1 ne12 bp5 tab5
      have k5 := L2'.tk (K := K) (B2.p1 bp5)
      have hT5 := L2'.lst (B2.p1 bp5) nTa hT2
      refine ⟨_, rfl, T, _, 1, v1, rfl, rfl, SqL.mk hT5, atI_nat (j := 1) rfl, v2, v1, trD t1, rfl, tr_dp ht2, tr_dp (TrAt.keep (k2.trans k5) ht), nest_tr t1, trD_nod t1, shT, fun H6 s6 => ?_⟩
      exact q _
end
end K03

set_option Elab.async false
set_option linter.all false
set_option maxRecDepth 100000
set_option maxHeartbeats 0
namespace Pg
open PySem PySem.Spec PyProof.Rows L2
/-- the law's def is called from outside, where no repr is under way: its promise over the heap in which the script alone is tracked -/
theorem law_callG {P : Program} {w : World} {K : PySem.W.Frag} {mg mb : Str → Option Value} {k : Nat} {fa a : Addr} {fd : FuncData} {x : Str} {sp : Sp} {s₁ : Shared} {vs : List Value} {ns : List Int}
    (KX : K.In s₁.heap) (hns : s₁.heap.Ns mainGlobals mg) (hb : s₁.heap.Ns builtinsNs mb) (hbb : ∀ x : Str, x ≠ "__name__" → mb x = bootBuiltins x) (hlim : s₁.heap.NoLimit) (hg : s₁.gens = #[])
    (ha : s₁.heap.get? a = some { cls := .type "list", data := .seq vs.toArray }) (hi : IntsAre vs ns) (hl : ns.length ≤ sizeLine) (hr : Room k callerA) (hgd : callerA.guards = some [])
    (F : ∀ base : Heap, K.In base → base.Ns mainGlobals mg → FnG P w K mg base k fa fd [x] sp) (hbind : ∀ (s : Shared) (u : Value), BindsTo s fd ⟨[u], []⟩ [(x, u)])
    (hsp : ∀ H : Hp, SqL K H a (ns.map V.int) → sp [.ref a] H (fun v _ => v = .bl true) E0) :
    codeAny (model P w) callerA (.call (.ref fa) ⟨[.ref a], []⟩) (fun r s' => r = .ok (.ret (.bool true)) ∧ OldK s₁.heap s'.heap ∧ s'.os = s₁.os ∧ AllBare s'.gens) s₁ := by
  have rv := vals_ints hi
  obtain ⟨H, own, hS, hok⟩ : ∃ H : Hp, (∀ b u, H b = some u → b = a ∧ K.lookup a = none ∧ ∃ ob xs, u = .frz ob (.lst xs)) ∧ SqL K H a (ns.map V.int) ∧ HOk P w H s₁.heap := by
    cases hk : K.lookup a with
    | some o =>
      have e := (KX a o hk).symm.trans ha
      cases e
      exact ⟨fun _ => none, fun b u z => (by cases z), .inr ⟨_, vs.toArray, _, hk, rfl, rfl, rfl, by rw [List.size_toArray, hi.length]; exact hl, by simpa using rv⟩, fun b u z => by cases (show (none : Option HO) = some u from z)⟩
    | none =>
      refine ⟨upd (fun _ => none) a (.frz { cls := .type "list", data := .seq vs.toArray } (.lst (ns.map V.int))), fun b u z => ?_, .inl (.inr ⟨_, upd_same⟩), fun b u z => ?_⟩
      · by_cases e : b = a
        · subst e
          rw [upd_same] at z
          exact ⟨rfl, rfl, _, _, (Option.some.inj z).symm⟩
        · rw [upd_ne e] at z
          cases z
      · by_cases e : b = a
        · subst e
          rw [upd_same] at z
          cases z
          exact ⟨ha, by rw [List.length_map]; exact hl, vs, _, rv, ha⟩
        · rw [upd_ne e] at z
          cases z
  have stay : ∀ {b : Addr} {o : Obj}, s₁.heap.get? b = some o → H b = none → (hidT s₁.heap H).get? b = some o := fun e z => hidT_get e z
  have ofK : ∀ {b : Addr} {o : Obj}, K.lookup b = some o → H b = none := fun {b o} e => by
    cases z : H b with
    | none => rfl
    | some u =>
      obtain ⟨rfl, h2, _⟩ := own b u z
      rw [h2] at e
      cases e
  have ofD : ∀ {b : Addr} {o : Obj} {es : Array DictEntry} {ep : Nat}, s₁.heap.get? b = some o → o.data = .dict es ep → H b = none := fun {b o es ep} e d => by
    cases z : H b with
    | none => rfl
    | some u =>
      obtain ⟨rfl, _, _⟩ := own b u z
      rw [ha] at e
      cases e
      cases (show Data.seq vs.toArray _ = Data.dict es ep from d)
  have names : ∀ {b : Addr} {m : Str → Option Value}, s₁.heap.Ns b m → (hidT s₁.heap H).Ns b m := fun ⟨o, es, ep, e, d, r⟩ => ⟨o, es, ep, stay e (ofD e d), d, r⟩
  have inK : K.In (hidT s₁.heap H) := fun b o e => stay (KX b o e) (ofK e)
  have hM : Mod K mg (hidT s₁.heap H) := ⟨inK, names hns, ⟨mb, names hb, hbb⟩, let ⟨mc, h1, h2⟩ := hlim; ⟨mc, names h1, h2⟩⟩
  have e0 : Env0 P w K mg (hidT s₁.heap H) callerA [] s₁ H := ⟨rfl, hM, fun b o e => of_hidT e, Nat.le_of_eq (hidT_size _ _), trivial, fun b hb => absurd (show b ∈ ([] : List Addr) from hb) (by simp), hok, .of_eq hg⟩
  refine codeAny_mono ((F _ inK (names hns)).run callerA [] s₁ H ⟨[.ref a], []⟩ [.ref a] [.ref a] _ hgd hr e0 (hbind s₁ (.ref a)) (.cons rfl .nil) (hsp H hS)) fun r s' h => ?_
  cases r with
  | error e => exact (show False from h).elim
  | ok fl =>
    cases fl with
    | next => exact False.elim h
    | brk => exact False.elim h
    | cont => exact False.elim h
    | ret u =>
      obtain ⟨v, H', os, bare, un, hok', r', q⟩ := h
      obtain rfl : v = .bl true := q
      obtain rfl : u = Value.bool true := r'
      refine ⟨rfl, OldK.of_keep fun b o e => ?_, os, bare⟩
      cases z : H b with
      | none => exact un.keep b o e z (by intro y; exact absurd (show b ∈ ([] : List Addr) from y) (by simp)) (by simp)
      | some u =>
        obtain ⟨_, _, ob, xs, rfl⟩ := own b u z
        have e1 := (hok b _ z).1
        have e2 := (hok' b _ (un.frzs b ob _ z)).1
        rw [e] at e1
        cases e1
        exact e2
end Pg

set_option Elab.async false
set_option linter.all false
set_option maxRecDepth 100000
set_option maxHeartbeats 0
namespace Pg
open PySem PySem.Spec PyProof.Rows L2 LamX NdefX
abbrev noCodes : Obj := { cls := .none, data := .fields #[] }
/-- law_callG, where defs of the program make lambdas: js, their code objects and tables -/
theorem law_callTG {P : Program} {w : World} {K : PySem.W.Frag} {mg mb : Str → Option Value} {k : Nat} {fa a : Addr} {js : List (Addr × Addr)} {fd : FuncData} {x : Str} {sp : Sp} {s₁ : Shared} {vs : List Value} {ns : List Int}
    (KX : K.In s₁.heap) (hns : s₁.heap.Ns mainGlobals mg) (hb : s₁.heap.Ns builtinsNs mb) (hbb : ∀ x : Str, x ≠ "__name__" → mb x = bootBuiltins x) (hlim : s₁.heap.NoLimit) (hg : s₁.gens = #[])
    (tabs : ∀ j ∈ js, s₁.heap.get? j.2 = some noCodes ∧ K.lookup j.2 = none ∧ PySem.W.codeHdIn K j.1 j.2 = true)
    (hmod : ∃ (bm : Addr) (ob : Obj), mg "__builtins__" = some (.ref bm) ∧ bm ≠ builtinsNs ∧ s₁.heap.get? bm = some ob ∧ ob.cls = .type "module" ∧ ob.dict = some builtinsNs ∧ ob.data = .plain)
    (ha : s₁.heap.get? a = some { cls := .type "list", data := .seq vs.toArray }) (hi : IntsAre vs ns) (hl : ns.length ≤ sizeLine) (hr : Room k callerA) (hgd : callerA.guards = some [])
    (F : ∀ base : Heap, K.In base → base.Ns mainGlobals mg → (∀ j ∈ js, TabB base mg j.1 j.2) → FnG P w K mg base k fa fd [x] sp) (hbind : ∀ (s : Shared) (u : Value), BindsTo s fd ⟨[u], []⟩ [(x, u)])
    (hsp : ∀ H : Hp, (∀ j ∈ js, H j.2 = some (.tbl #[])) → SqL K H a (ns.map V.int) → sp [.ref a] H (fun v _ => v = .bl true) E0) :
    codeAny (model P w) callerA (.call (.ref fa) ⟨[.ref a], []⟩) (fun r s' => r = .ok (.ret (.bool true)) ∧ OldK s₁.heap s'.heap ∧ s'.os = s₁.os ∧ AllBare s'.gens) s₁ := by
  have rv := vals_ints hi
  have nota : ∀ j ∈ js, j.2 ≠ a := fun j hj e => by
    have q := (tabs j hj).1
    rw [e, ha] at q
    cases (show Data.seq vs.toArray _ = Data.fields #[] from congrArg Obj.data (Option.some.inj q))
  -- the script alone
  obtain ⟨G, ownG, atG, outG, hSG, okG⟩ : ∃ G : Hp, (∀ b u, G b = some u → b = a ∧ K.lookup a = none ∧ ∃ ob xs, u = .frz ob (.lst xs)) ∧ (∀ b, b ≠ a → G b = none) ∧ (∀ H : Hp, H a = G a → SqL K H a (ns.map V.int)) ∧ SqL K G a (ns.map V.int) ∧ ∀ u, G a = some u → ∀ H : Hp, ObjOk P w H s₁.heap a u := by
    cases hk : K.lookup a with
    | some o =>
      have e := (KX a o hk).symm.trans ha
      cases e
      have rd : ∀ H : Hp, SqL K H a (ns.map V.int) := fun H => .inr ⟨_, vs.toArray, _, hk, rfl, rfl, rfl, by rw [List.size_toArray, hi.length]; exact hl, by simpa using rv⟩
      exact ⟨fun _ => none, fun b u z => (by cases z), fun _ _ => rfl, fun H _ => rd H, rd _, fun u z => (by cases z)⟩
    | none =>
      refine ⟨upd (fun _ => none) a (.frz { cls := .type "list", data := .seq vs.toArray } (.lst (ns.map V.int))), fun b u z => ?_, fun b nb => upd_ne nb, fun H z => .inl (.inr ⟨_, z.trans upd_same⟩), .inl (.inr ⟨_, upd_same⟩), fun u z H => ?_⟩
      · by_cases e : b = a
        · subst e
          rw [upd_same] at z
          exact ⟨rfl, rfl, _, _, (Option.some.inj z).symm⟩
        · rw [upd_ne e] at z
          cases z
      · rw [upd_same] at z
        cases z
        exact ⟨ha, by rw [List.length_map]; exact hl, vs, _, rv, ha⟩
  -- and the tables
  obtain ⟨H, hH⟩ : ∃ H : Hp, H = fun b => if b ∈ js.map (·.2) then some (HO.tbl #[]) else G b := ⟨_, rfl⟩
  have inJ : ∀ {b : Addr}, b ∈ js.map (·.2) → H b = some (.tbl #[]) ∧ s₁.heap.get? b = some noCodes ∧ K.lookup b = none ∧ ∃ c, PySem.W.codeHdIn K c b = true := fun {b} h => by
    obtain ⟨j, hj, e⟩ := List.mem_map.mp h
    obtain ⟨t1, t2, t3⟩ := tabs j hj
    subst e
    exact ⟨by rw [hH]; exact if_pos h, t1, t2, j.1, t3⟩
  have outJ : ∀ {b : Addr}, b ∉ js.map (·.2) → H b = G b := fun {b} h => by rw [hH]; exact if_neg h
  have aJ : a ∉ js.map (·.2) := fun h => by
    obtain ⟨j, hj, e⟩ := List.mem_map.mp h
    exact nota j hj e
  have own : ∀ b u, H b = some u → (b = a ∧ K.lookup a = none ∧ ∃ ob xs, u = .frz ob (.lst xs)) ∨ (b ∈ js.map (·.2) ∧ u = .tbl #[]) := fun b u z => by
    by_cases h : b ∈ js.map (·.2)
    · rw [(inJ h).1] at z
      exact .inr ⟨h, (Option.some.inj z).symm⟩
    · rw [outJ h] at z
      exact .inl (ownG b u z)
  have ok : HOk P w H s₁.heap := fun b u z => by
    by_cases h : b ∈ js.map (·.2)
    · rw [(inJ h).1] at z
      cases z
      exact (inJ h).2.1
    · rw [outJ h] at z
      obtain ⟨e, _⟩ := ownG b u z
      subst e
      exact okG u z H
  have clear : ∀ {b : Addr} {o : Obj}, s₁.heap.get? b = some o → (∀ vs n, o.data ≠ .seq vs n) → o.data ≠ .fields #[] → H b = none := fun {b o} e n1 n2 => by
    cases z : H b with
    | none => rfl
    | some u =>
      rcases own b u z with ⟨eb, _⟩ | ⟨h, _⟩
      · rw [eb, ha] at e
        cases e
        exact (n1 _ _ rfl).elim
      · rw [(inJ h).2.1] at e
        cases e
        exact (n2 rfl).elim
  have ofK : ∀ {b : Addr} {o : Obj}, K.lookup b = some o → H b = none := fun {b o} e => by
    cases z : H b with
    | none => rfl
    | some u =>
      rcases own b u z with ⟨eb, h2, _⟩ | ⟨h, _⟩
      · rw [eb, h2] at e
        cases e
      · rw [(inJ h).2.2.1] at e
        cases e
  have ofD : ∀ {b : Addr} {o : Obj} {es : Array DictEntry} {ep : Nat}, s₁.heap.get? b = some o → o.data = .dict es ep → H b = none := fun {b o es ep} e d => clear e (fun _ _ z => by rw [d] at z; cases z) (fun z => by rw [d] at z; cases z)
  have names : ∀ {b : Addr} {m : Str → Option Value}, s₁.heap.Ns b m → (hidT s₁.heap H).Ns b m := fun ⟨o, es, ep, e, d, r⟩ => ⟨o, es, ep, hidT_get e (ofD e d), d, r⟩
  have inK : K.In (hidT s₁.heap H) := fun b o e => hidT_get (KX b o e) (ofK e)
  have hM : Mod K mg (hidT s₁.heap H) := ⟨inK, names hns, ⟨mb, names hb, hbb⟩, let ⟨mc, h1, h2⟩ := hlim; ⟨mc, names h1, h2⟩⟩
  have e0 : Env0 P w K mg (hidT s₁.heap H) callerA [] s₁ H := ⟨rfl, hM, fun b o e => of_hidT e, Nat.le_of_eq (hidT_size _ _), trivial, fun b hb => absurd (show b ∈ ([] : List Addr) from hb) (by simp), ok, .of_eq hg⟩
  have hTB : ∀ j ∈ js, TabB (hidT s₁.heap H) mg j.1 j.2 := fun j hj => by
    obtain ⟨t1, t2, t3⟩ := tabs j hj
    obtain ⟨bm, ob, m1, m2, m3, m4, m5, m6⟩ := hmod
    obtain ⟨og, eg, epg, g1, g2, _⟩ := hns
    refine tabB_of_K inK t3 ⟨bm, ob, m1, m2, fun z => ?_, fun z => ?_, hidT_get m3 (clear m3 (fun _ _ z => by rw [m6] at z; cases z) (fun z => by rw [m6] at z; cases z)), m4, m5, m6⟩ fun z => ?_
    · rw [z, g1] at m3
      cases m3
      rw [g2] at m6
      cases m6
    · rw [z, t1] at m3
      cases m3
      cases m6
    · rw [← z, g1] at t1
      cases t1
      cases g2
  refine codeAny_mono ((F _ inK (names hns) hTB).run callerA [] s₁ H ⟨[.ref a], []⟩ [.ref a] [.ref a] _ hgd hr e0 (hbind s₁ (.ref a)) (.cons rfl .nil) (hsp H (fun j hj => (inJ (List.mem_map.mpr ⟨j, hj, rfl⟩)).1) (outG H (outJ aJ)))) fun r s' h => ?_
  cases r with
  | error e => exact (show False from h).elim
  | ok fl =>
    cases fl with
    | next => exact False.elim h
    | brk => exact False.elim h
    | cont => exact False.elim h
    | ret u =>
      obtain ⟨v, H', os, bare, un, ok', r', q⟩ := h
      obtain rfl : v = .bl true := q
      obtain rfl : u = Value.bool true := r'
      have rest : ∀ b o, b ∉ js.map (·.2) → s₁.heap.get? b = some o → s'.heap.get? b = some o := fun b o nb e => by
        cases z : H b with
        | none => exact un.keep b o e z (by intro y; exact absurd (show b ∈ ([] : List Addr) from y) (by simp)) (by simp)
        | some u =>
          rcases own b u z with ⟨_, _, ob, xs, eu⟩ | ⟨h, _⟩
          · rw [eu] at z
            have e1 := (ok b _ z).1
            have e2 := (ok' b _ (un.frzs b ob _ z)).1
            rw [e] at e1
            cases e1
            exact e2
          · exact absurd h nb
      have more : ∀ b, b ∈ js.map (·.2) → ∃ ps : Array Value, s'.heap.get? b = some { cls := .none, data := .fields ps } := fun b h => by
        obtain ⟨ps, z⟩ := un.tbls b #[] (inJ h).1
        exact ⟨_, ok' b _ z⟩
      refine ⟨rfl, ⟨fun b o e => ?_, fun b o e => ?_⟩, os, bare⟩
      · by_cases h : b ∈ js.map (·.2)
        · obtain ⟨_, t1, _, c, hc⟩ := inJ h
          obtain ⟨ps, hp⟩ := more b h
          obtain rfl : noCodes = o := Option.some.inj (t1.symm.trans e)
          exact .inr (.inl ⟨((PySem.W.codeHd_of_K KX hc).tab t1).isCodeTable, rfl, #[], ps, rfl, by rw [Array.empty_append]; exact hp⟩)
        · exact .inl (rest b o h e)
      · by_cases h : b ∈ js.map (·.2)
        · obtain ⟨ps, hp⟩ := more b h
          exact ⟨_, hp⟩
        · exact ⟨o, rest b o h e⟩
/-- the code object of a def that the head found -/
theorem fd_code {K : PySem.W.Frag} {h : Heap} {x : Str} {st : Stmt} {fd : FuncData} (X : K.In h) (F : FnP K x st (He.fAd K (x, none)) fd) : fd.code = .ref (He.codeOf K (x, none)) := by
  obtain ⟨oc, od, dV, kV, doc, pm, an, cdv, ct, osl, rfl, lk, hcd, _, _⟩ := F.ex
  obtain ⟨c, o, vs, t, e, _⟩ := PySem.W.codeRec_of X hcd
  have e' : cdv = .ref c := e
  have := He.codeOf_eq (p := (x, none)) lk e'
  rw [this]
  exact e'
end Pg

set_option Elab.async false
set_option linter.all false
set_option maxRecDepth 100000
set_option maxHeartbeats 0
namespace K03
open PySem PySem.Spec PyProof.Rows L2 Pg LamX
def dOf (x : Str) (st : Stmt) : He.DefD := ⟨(x, none), x, x, defArgs st, defBody st, defScope st, [], []⟩
def dM (C m q : Str) (st : Stmt) : He.DefD := ⟨(C, some m), m, q, defArgs st, defBody st, defScope st, [], []⟩
def fn : List He.DefD := [dOf "is_small_letter" (top 8), dOf "is_word" (top 9), dOf "arity_of" (top 10), dOf "number_beside" (top 11), ⟨("nodes_of", none), "nodes_of", "nodes_of", defArgs (top 12), defBody (top 12), defScope (top 12), [.non], []⟩, dOf "fold" (top 13), dOf "size_of" (top 14), dOf "depth_of" (top 15), dOf "split_parts" (top 17), dOf "term_text" (top 21), dOf "sign_text" (top 22), dOf "read_term" (top 23), dOf "take_term" (top 24), dOf "leaf_of" (top 25), dOf "end_terms" (top 26), dOf "_law_same" (top 28), dOf "_law_stream" (top 29), dOf "_law_next" (top 30), dOf "_law_word" (top 31), dOf "_law_signs" (top 32), dOf "_law_term" (top 33), dOf "_law_parts" (top 34), dOf "_law_plain" (top 35), dOf "_law_spaced" (top 36), dOf "_law_row" (top 37), dOf "law" (top 38), dM "Parts" "__init__" "Parts.__init__" (inner (top 18) 0), dM "Parts" "peek" "Parts.peek" (inner (top 18) 1), dM "Parts" "take" "Parts.take" (inner (top 18) 2), dM "Parts" "expect" "Parts.expect" (inner (top 18) 3), dM "Parts" "expect_end" "Parts.expect_end" (inner (top 18) 4)]
def fa : List He.Fa := [.glo "is_small_letter", .glo "is_word", .glo "arity_of", .glo "number_beside", .glo "nodes_of", .glo "fold", .glo "size_of", .glo "depth_of", .glo "split_parts", .glo "term_text", .glo "sign_text", .glo "read_term", .glo "take_term", .glo "leaf_of", .glo "end_terms", .glo "_law_same", .glo "_law_stream", .glo "_law_next", .glo "_law_word", .glo "_law_signs", .glo "_law_term", .glo "_law_parts", .glo "_law_plain", .glo "_law_spaced", .glo "_law_row", .glo "law", .free "len", .free "abs", .free "int", .free "max", .free "sum", .free "tuple", .free "list", .free "isinstance", .free "repr", .free "range", .free "reversed", .free "all", .free "str", .glo "Parts", .cls "Parts", .noat "Parts" "parts", .noat "Parts" "at", .mkr "Parts", .meth "Parts" "peek", .meth "Parts" "take", .meth "Parts" "expect", .meth "Parts" "expect_end", .int "MAX_WORD" 8, .int "MAX_TREE" 400, .int "MAX_DEEP" 100, .int "MAX_TERM_TEXT" 4000, .glo "RESERVED"]
def ex (K : PySem.W.Frag) : Bool := He.tupB K "RESERVED" (rsv.map He.Dv.str) && decide ((He.cT K ("depth_of", none)).2 ≠ (He.cT K ("term_text", none)).2)
abbrev R : PySem.W.OpenRow := PySem.W.OpenLaw.row PySem.Challenge.rw_pergola_k03_texts_of_terms
def tf : List He.Defn := [("depth_of", none), ("term_text", none)]
abbrev hk : PySem.W.Hook := He.hookX 4 fa fn [] tf ex
def ob (s : PySem.W.SharedT) : He.AlX := He.obsX 4 fa fn [] tf ex (HandSHeadRun.getT s)
theorem ob_eq (s : PySem.W.SharedT) : ob s = hk.obs s.abs := He.obsX_eq (HandSHeadRun.getT_eq s)
theorem run (w : World) : HandSHeadRun.RunEq R (PySem.W.view R.prog [38]) hk ob 3000 ("PergolaError" :: "BadForm" :: "MAX_WORD" :: "MAX_TREE" :: "MAX_DEEP" :: "RESERVED" :: "is_small_letter" :: "is_word" :: "arity_of" :: "number_beside" :: "nodes_of" :: "fold" :: "size_of" :: "depth_of" :: "split_parts" :: "Parts" :: "MAX_TERM_TEXT" :: "term_text" :: "sign_text" :: "read_term" :: "take_term" :: "leaf_of" :: "end_terms" :: "_law_same" :: "_law_stream" :: "_law_next" :: "_law_word" :: "_law_signs" :: "_law_term" :: "_law_parts" :: "_law_plain" :: "_law_spaced" :: "_law_row" :: []) w := by
  intro os
  kernel_rfl
theorem facts {P : Program} {w : World} {K : PySem.W.Frag} {h : Heap} {mg : Str → Option Value} {f : Addr} (X : K.In h) (GN : h.Ns mainGlobals mg) (hfa : mg ("law" : Str) = some (.ref f)) (c : He.SaysX fa fn [] tf ex w h K) :
    ∃ fd : FuncData, (∀ (s : Shared) (v : Value), BindsTo s fd ⟨[v], []⟩ [("script", v)]) ∧ ∀ base : Heap, K.In base → base.Ns mainGlobals mg → (∀ j ∈ tf.map (He.cT K), TabB base mg j.1 j.2) → FnG P w K mg base 132 f fd ["script"] (spLaw K (He.cT K ("depth_of", none)).2 (He.cT K ("term_text", none)).2 ((("depth_of" : Str) ++ (".<locals>." : Str)) ++ ("<lambda>" : Str)) ((("term_text" : Str) ++ (".<locals>." : Str)) ++ ("<lambda>" : Str))) := by
  have cd := c.t.d
  obtain ⟨d0, F_low⟩ := cd.def_ 0 (d := dOf "is_small_letter" (top 8)) rfl
  obtain ⟨d1, F_isw⟩ := cd.def_ 1 (d := dOf "is_word" (top 9)) rfl
  obtain ⟨d2, F_aro⟩ := cd.def_ 2 (d := dOf "arity_of" (top 10)) rfl
  obtain ⟨d3, F_nub⟩ := cd.def_ 3 (d := dOf "number_beside" (top 11)) rfl
  obtain ⟨d4, F_nodes⟩ := cd.def_ 4 rfl
  obtain ⟨d5, F_fold⟩ := cd.def_ 5 (d := dOf "fold" (top 13)) rfl
  obtain ⟨d6, F_szo⟩ := cd.def_ 6 (d := dOf "size_of" (top 14)) rfl
  obtain ⟨d7, F_dpo⟩ := cd.def_ 7 (d := dOf "depth_of" (top 15)) rfl
  obtain ⟨d8, F_spl⟩ := cd.def_ 8 (d := dOf "split_parts" (top 17)) rfl
  obtain ⟨d9, F_ttx⟩ := cd.def_ 9 (d := dOf "term_text" (top 21)) rfl
  obtain ⟨d10, F_sgt⟩ := cd.def_ 10 (d := dOf "sign_text" (top 22)) rfl
  obtain ⟨d11, F_rdt⟩ := cd.def_ 11 (d := dOf "read_term" (top 23)) rfl
  obtain ⟨d12, F_tkt⟩ := cd.def_ 12 (d := dOf "take_term" (top 24)) rfl
  obtain ⟨d13, F_lof⟩ := cd.def_ 13 (d := dOf "leaf_of" (top 25)) rfl
  obtain ⟨d14, F_end⟩ := cd.def_ 14 (d := dOf "end_terms" (top 26)) rfl
  obtain ⟨d15, F_same⟩ := cd.def_ 15 (d := dOf "_law_same" (top 28)) rfl
  obtain ⟨d16, F_stream⟩ := cd.def_ 16 (d := dOf "_law_stream" (top 29)) rfl
  obtain ⟨d17, F_next⟩ := cd.def_ 17 (d := dOf "_law_next" (top 30)) rfl
  obtain ⟨d18, F_word⟩ := cd.def_ 18 (d := dOf "_law_word" (top 31)) rfl
  obtain ⟨d19, F_signs⟩ := cd.def_ 19 (d := dOf "_law_signs" (top 32)) rfl
  obtain ⟨d20, F_term⟩ := cd.def_ 20 (d := dOf "_law_term" (top 33)) rfl
  obtain ⟨d21, F_lpa⟩ := cd.def_ 21 (d := dOf "_law_parts" (top 34)) rfl
  obtain ⟨d22, F_lpl⟩ := cd.def_ 22 (d := dOf "_law_plain" (top 35)) rfl
  obtain ⟨d23, F_lsp⟩ := cd.def_ 23 (d := dOf "_law_spaced" (top 36)) rfl
  obtain ⟨d24, F_lrow⟩ := cd.def_ 24 (d := dOf "_law_row" (top 37)) rfl
  obtain ⟨d25, F_law⟩ := cd.def_ 25 (d := dOf "law" (top 38)) rfl
  obtain ⟨dm0, F_pini⟩ := cd.def_ 26 (d := dM "Parts" "__init__" "Parts.__init__" (inner (top 18) 0)) rfl
  obtain ⟨dm1, F_pek⟩ := cd.def_ 27 (d := dM "Parts" "peek" "Parts.peek" (inner (top 18) 1)) rfl
  obtain ⟨dm2, F_tak⟩ := cd.def_ 28 (d := dM "Parts" "take" "Parts.take" (inner (top 18) 2)) rfl
  obtain ⟨dm3, F_exp⟩ := cd.def_ 29 (d := dM "Parts" "expect" "Parts.expect" (inner (top 18) 3)) rfl
  obtain ⟨dm4, F_exe⟩ := cd.def_ 30 (d := dM "Parts" "expect_end" "Parts.expect_end" (inner (top 18) 4)) rfl
  have m_low := He.glo_ok X GN (cd.fact 0 (f := .glo "is_small_letter") rfl)
  have m_isw := He.glo_ok X GN (cd.fact 1 (f := .glo "is_word") rfl)
  have m_aro := He.glo_ok X GN (cd.fact 2 (f := .glo "arity_of") rfl)
  have m_nub := He.glo_ok X GN (cd.fact 3 (f := .glo "number_beside") rfl)
  have m_nodes := He.glo_ok X GN (cd.fact 4 (f := .glo "nodes_of") rfl)
  have m_fold := He.glo_ok X GN (cd.fact 5 (f := .glo "fold") rfl)
  have m_szo := He.glo_ok X GN (cd.fact 6 (f := .glo "size_of") rfl)
  have m_dpo := He.glo_ok X GN (cd.fact 7 (f := .glo "depth_of") rfl)
  have m_spl := He.glo_ok X GN (cd.fact 8 (f := .glo "split_parts") rfl)
  have m_ttx := He.glo_ok X GN (cd.fact 9 (f := .glo "term_text") rfl)
  have m_sgt := He.glo_ok X GN (cd.fact 10 (f := .glo "sign_text") rfl)
  have m_rdt := He.glo_ok X GN (cd.fact 11 (f := .glo "read_term") rfl)
  have m_tkt := He.glo_ok X GN (cd.fact 12 (f := .glo "take_term") rfl)
  have m_lof := He.glo_ok X GN (cd.fact 13 (f := .glo "leaf_of") rfl)
  have m_end := He.glo_ok X GN (cd.fact 14 (f := .glo "end_terms") rfl)
  have m_same := He.glo_ok X GN (cd.fact 15 (f := .glo "_law_same") rfl)
  have m_stream := He.glo_ok X GN (cd.fact 16 (f := .glo "_law_stream") rfl)
  have m_next := He.glo_ok X GN (cd.fact 17 (f := .glo "_law_next") rfl)
  have m_word := He.glo_ok X GN (cd.fact 18 (f := .glo "_law_word") rfl)
  have m_signs := He.glo_ok X GN (cd.fact 19 (f := .glo "_law_signs") rfl)
  have m_term := He.glo_ok X GN (cd.fact 20 (f := .glo "_law_term") rfl)
  have m_lpa := He.glo_ok X GN (cd.fact 21 (f := .glo "_law_parts") rfl)
  have m_lpl := He.glo_ok X GN (cd.fact 22 (f := .glo "_law_plain") rfl)
  have m_lsp := He.glo_ok X GN (cd.fact 23 (f := .glo "_law_spaced") rfl)
  have m_lrow := He.glo_ok X GN (cd.fact 24 (f := .glo "_law_row") rfl)
  have e := hfa.symm.trans (He.glo_ok X GN (cd.fact 25 (f := .glo "law") rfl))
  cases e
  have b := FunD.bindsA (ps := ["script"]) F_law fun _ _ _ _ _ _ us hl => match us, hl with | [_], _ => rfl
  have Z : Zs mg := ⟨He.free_ok X GN (cd.fact 26 (f := .free "len") rfl), He.free_ok X GN (cd.fact 27 (f := .free "abs") rfl), He.free_ok X GN (cd.fact 28 (f := .free "int") rfl), He.free_ok X GN (cd.fact 29 (f := .free "max") rfl), He.free_ok X GN (cd.fact 30 (f := .free "sum") rfl), He.free_ok X GN (cd.fact 31 (f := .free "tuple") rfl), He.free_ok X GN (cd.fact 32 (f := .free "list") rfl), He.free_ok X GN (cd.fact 33 (f := .free "isinstance") rfl), He.free_ok X GN (cd.fact 34 (f := .free "repr") rfl), He.free_ok X GN (cd.fact 35 (f := .free "range") rfl), He.free_ok X GN (cd.fact 36 (f := .free "reversed") rfl), He.free_ok X GN (cd.fact 37 (f := .free "all") rfl), He.free_ok X GN (cd.fact 38 (f := .free "str") rfl)⟩
  have code_dpo := fd_code (x := "depth_of") (st := top 15) X F_dpo
  have code_ttx := fd_code (x := "term_text") (st := top 21) X F_ttx
  have hex : ex K = true := c.more
  obtain ⟨x1, x2⟩ := He.ba hex
  have ne12 := of_decide_eq_true x2
  have g_parts := He.glo_ok X GN (cd.fact 39 (f := .glo "Parts") rfl)
  have T : PtC K (He.ga K "Parts") := ⟨He.cls_ok (cd.fact 40 (f := .cls "Parts") rfl), He.noat_ok (cd.fact 41 (f := .noat "Parts" "parts") rfl), He.noat_ok (cd.fact 42 (f := .noat "Parts" "at") rfl)⟩
  have mk := He.mkr_ok (cd.fact 43 (f := .mkr "Parts") rfl)
  have e_pek := He.meth_ok (cd.fact 44 (f := .meth "Parts" "peek") rfl)
  have e_tak := He.meth_ok (cd.fact 45 (f := .meth "Parts" "take") rfl)
  have e_exp := He.meth_ok (cd.fact 46 (f := .meth "Parts" "expect") rfl)
  have e_exe := He.meth_ok (cd.fact 47 (f := .meth "Parts" "expect_end") rfl)
  obtain ⟨tk1, i1⟩ := He.int_ok X GN (cd.fact 48 (f := .int "MAX_WORD" 8) rfl)
  obtain ⟨tk2, i2⟩ := He.int_ok X GN (cd.fact 49 (f := .int "MAX_TREE" 400) rfl)
  obtain ⟨tk3, i3⟩ := He.int_ok X GN (cd.fact 50 (f := .int "MAX_DEEP" 100) rfl)
  obtain ⟨tk4, i4⟩ := He.int_ok X GN (cd.fact 51 (f := .int "MAX_TERM_TEXT" 4000) rfl)
  have G : Wo K mg (He.ga K "RESERVED") := ⟨⟨_, i1, tk1, rfl⟩, He.glo_ok X GN (cd.fact 52 (f := .glo "RESERVED") rfl), fun H => He.tupB_ok x1 H⟩
  have GR : GRd mg := ⟨⟨_, i4, tk4, rfl⟩, ⟨_, i2, tk2, rfl⟩, ⟨_, i3, tk3, rfl⟩⟩
  refine ⟨d25, fun s v => b s [v] rfl, fun base _ _ tb => ?_⟩
  have TB_dpo := tb (He.cT K ("depth_of", none)) (List.mem_map.mpr ⟨("depth_of", none), by simp [tf], rfl⟩)
  have TB_ttx := tb (He.cT K ("term_text", none)) (List.mem_map.mpr ⟨("term_text", none), by simp [tf], rfl⟩)
  have c_next : Cal P w K mg base 1 "_law_next" spNext [] := ok_next F_next m_next Z
  have c_word := ok_word F_word m_word Z c_next
  have c_signs := ok_signs F_signs m_signs Z c_next c_word
  have c_stream : Cal P w K mg base 1 "_law_stream" (spStream K) [] := ok_stream F_stream m_stream Z
  have c_term := ok_term F_term m_term Z c_next
  have c_nodes : Cal P w K mg base 1 "nodes_of" (spNds K) [.non] := ok_nodes1 F_nodes m_nodes Z
  have c_dpo := ok_dpo F_dpo code_dpo TB_dpo m_dpo Z (ok_fold (j := 0) (fun _ _ _ _ _ h => h) F_fold m_fold Z c_nodes)
  have c_sgt : Cal P w K mg base 1 "sign_text" (spOs okT rTxt) [] := ok_sgt F_sgt m_sgt Z
  have c_ttx := ok_ttx F_ttx code_ttx TB_ttx m_ttx Z c_sgt (ok_fold (j := 0) (fun _ _ _ _ _ h => h) F_fold m_fold Z c_nodes)
  have c_szo := ok_szo F_szo m_szo Z c_nodes
  have c_low : Cal P w K mg base 1 "is_small_letter" spLow [] := ok_low F_low m_low Z
  have c_isw := ok_isw F_isw m_isw Z G c_low
  have c_nub : Cal P w K mg base 1 "number_beside" (spNub K) [] := ok_nub F_nub m_nub Z
  have c_aro := ok_aro F_aro m_aro Z c_nub
  have c_spl := ok_spl F_spl m_spl Z c_low
  have k_parts := ok_pini mk g_parts T F_pini c_spl
  have m_pek : C8.Met P w K mg base 1 (He.ga K "Parts") "peek" (spPek (He.ga K "Parts")) [] := ok_pek e_pek T F_pek Z
  have m_tak := ok_tak e_tak T F_tak m_pek
  have m_exp := ok_exp e_exp T F_exp m_tak
  have m_exe := ok_exe e_exe T F_exe m_exp
  have c_lof := ok_lof F_lof m_lof c_aro c_isw
  have c_end := ok_end F_end m_end Z c_aro m_exp
  have c_tkt := ok_tkt F_tkt m_tkt c_aro c_lof c_end m_tak m_exp
  have c_rdt := ok_rdt F_rdt m_rdt Z GR k_parts c_tkt m_exe c_szo c_dpo
  have c_lpa : Cal P w K mg base 101 "_law_parts" (spLpa K 100) [] := ok_lpa F_lpa m_lpa Z 100
  have c_lpl : Cal P w K mg base 1 "_law_plain" spLpl [] := ok_lpl F_lpl m_lpl Z
  have c_lsp := ok_lsp F_lsp m_lsp Z c_next
  have c_lrow := ok_lrow F_lrow m_lrow Z c_next
  have G_same := ok_same (P := P) (w := w) (mg := mg) (base := base) F_same Z
  exact ok_law ne12 F_law F_same m_same G_same Z GR c_stream c_next c_signs (c_term 60) c_lrow c_lpa c_lpl c_lsp (l2 := 3) (by decide) c_ttx c_rdt
end K03
open PySem PySem.W PySem.Calls PyProof.Rows
theorem PySem.Challenge.cw_pergola_k03_texts_of_terms_holds : PySem.Challenge.rw_pergola_k03_texts_of_terms.Holds := by
  w_on; o_law
  refine HandSHeadRun.head_any (r := OpenLaw.row PySem.Challenge.rw_pergola_k03_texts_of_terms) (q := view (OpenLaw.row PySem.Challenge.rw_pergola_k03_texts_of_terms).prog [38]) (H := K03.hk) (ob := K03.ob) (M := 3000) (loose := ("PergolaError" :: "BadForm" :: "MAX_WORD" :: "MAX_TREE" :: "MAX_DEEP" :: "RESERVED" :: "is_small_letter" :: "is_word" :: "arity_of" :: "number_beside" :: "nodes_of" :: "fold" :: "size_of" :: "depth_of" :: "split_parts" :: "Parts" :: "MAX_TERM_TEXT" :: "term_text" :: "sign_text" :: "read_term" :: "take_term" :: "leaf_of" :: "end_terms" :: "_law_same" :: "_law_stream" :: "_law_next" :: "_law_word" :: "_law_signs" :: "_law_term" :: "_law_parts" :: "_law_plain" :: "_law_spaced" :: "_law_row" :: [])) (d := HandSHeadRun.topDef (OpenLaw.row PySem.Challenge.rw_pergola_k03_texts_of_terms).prog 38) (kwd := []) K03.ob_eq
    (by kernel_rfl) (fun s => by kernel_rfl) K03.run (by kernel_rfl) (by kernel_rfl) (by kernel_rfl) (by rfl) (by first | assumption | decide +kernel) (by decide +kernel) ⟨rfl, rfl, rfl, rfl, rfl, by decide +kernel⟩ ?hw ?hc
  case hw => w_witness2
  case hc =>
    refine Att.attach_call (l := PySem.Challenge.rw_pergola_k03_texts_of_terms) (n := 63) rfl (by kernel_rfl) fun w s₀ s₁ mg mb fa o pm cd doc a vs ns G Y ho hd hcd hmg0 hobj hints hlen hg => ?_
    obtain ⟨K, KX, c⟩ := Y
    have hmg : mg ("law" : PySem.Str) = some (.ref fa) := by
      have e : (HandSHeadRun.topDef (OpenLaw.row PySem.Challenge.rw_pergola_k03_texts_of_terms).prog 38).name = ("law" : PySem.Str) := by kernel_rfl
      rw [← e]
      exact hmg0
    obtain ⟨fd, hb, hF⟩ := K03.facts (P := (PySem.Challenge.rw_pergola_k03_texts_of_terms).prog) (w := w) KX G.T.g hmg c
    refine Pg.law_callTG (js := K03.tf.map (He.cT K)) KX G.T.g G.T.b G.T.builtins G.T.nolimit hg (fun j hj => ?_) G.T.bmain hobj hints (Nat.le_trans hlen (by decide)) (k := 132) ⟨rfl, by decide, by decide⟩ rfl hF hb (fun H hT hS => ⟨a, ns, rfl, hS, hlen, LamX.TabS.nil (hT _ (List.mem_map.mpr ⟨("depth_of", none), by simp [K03.tf], rfl⟩)), LamX.TabS.nil (hT _ (List.mem_map.mpr ⟨("term_text", none), by simp [K03.tf], rfl⟩)), fun _ => rfl⟩)
    obtain ⟨p, hp, e⟩ := List.mem_map.mp hj
    subst e
    exact ⟨c.empty p hp, c.out p hp, c.hd p hp⟩

