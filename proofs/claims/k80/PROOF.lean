import PyProof.Rows.All
import Wide.All
import OpenK.AllK
import Wide.FinOn
import PyProof.EqAt
import PyProof.EqKinds
import PyProof.TupleCall
import PyProof.AutoSeq1
import PyProof.SliceList
import PyProof.ReprRoads
import KE.DataCmp
import HandS.Base
import HandS.Call
import HandS.List
import HandS.Comp
import HandS.Ends
import HandS.Dict
import HandS.Iter
import HandS.Text
import HandS.Words
import HandS.WordsList
import HandS.Flow
import HandS.ForMost
import HandS.Defaults
import HandS.IsInst
import HandS.TupAny
import HandS.Rev
import HandS.Codes
import HandS.Style
import HandS.HeadEnd
import HandS.HeadHook2
import HandS.Wide
import HandS.Exc
import HandS.ExcOwn
import HandS.ExcIs
import HandS.RaiseMore
import HandS.FStr
import HandS.WordsExc
import HandS.Walk
import HandS.Lambda
import HandS.Nested
import HandS.SortKw
import KE.DataMinMax
import PyProof.ReprBulk
import HandS.Steps
import HandS.HeadHook4
import HandS.Strs
import HandS.TupMul
import HandS.Star
import KE.KDictPairs
import HandS.Zip
import HandS.DictComp
import KE.GoesMore
import HandS.Head0
import HandS.Head1
import HandS.Head2
import HandS.HeadHook1
import HandS.HeadHook3
import HandS.More
import HandS.NestedK
import KE.GoesZip
import HandS.Deep
import HandS.ReplaceLit
import HandS.ReplaceList
import KE.IntTextText
import PySem.Challenge.RW_pergola_k80_commands_read
set_option Elab.async false
set_option linter.all false
set_option maxRecDepth 100000
set_option maxHeartbeats 4000000
namespace Pg
open PySem PySem.Spec PyProof.Rows L2 PySem.SeqAt
open AutoSeq1 (wpAny_loadPart' idx_int)
open MeetsSeq MeetsSeq2 MeetsSeq3 SeqRoads2

/-! own rule: a list takes the items of a tuple -/
theorem ext_tup (l : Addr) (its : Array Value) (n : Nat) (b : Addr) (its2 : Array Value) (n2 : Nat) (dd : Option Addr) (sl : Array (Option Value))
    (hs0 : ¬(!its.isEmpty && Builtin.List.listTooLong (its.size + its2.size)) = true) (hs1 : its.size ≤ sizeLine) (hs2 : its.size + its2.size ≤ sizeLine + 1) :
    Meets (Builtin.«list.extend» ⟨[.ref l, .ref b], []⟩) (fun _ R s => s.heap.get? l = some { cls := .type "list", dict := none, data := .seq its n, slots := #[] } ∧
      s.heap.get? b = some { cls := .type "tuple", dict := dd, data := .seq its2 n2, slots := sl } ∧
      R (.ok (.ret Value.none)) { s with heap := s.heap.update l (Obj.mapSeq fun x => x ++ its2), toks := s.toks }) :=
  .of_wp fun prog w A R s h => by
    obtain ⟨hp, g, d, tk, os⟩ := s
    obtain ⟨hl, hb, h⟩ := h
    have g1 := idx_int
    have g2 := AutoSeq1.sub_tuple_tuple
    have g3 := AutoSeq1.sub_list_list
    have g4 := AutoSeq1.sub_tuple_list
    have g5 := AutoSeq1.sub_list_tuple
    have hz' : (its ++ its2).size ≤ sizeLine + 1 := by
      rw [Array.size_append]
      exact hs2
    wp_walk using (wpAny_updateSeq hl rfl (hz := hs1) (_hz' := hz')), wpAny_loadPart' hl, wpAny_loadPart' hb
    exact ⟨_, rfl, h⟩
section
variable {X : Cx}
def rExtT (K : PySem.W.Frag) : V → List V → Hp → VK → Prop := fun x vs H Q => ∃ l b xs zs, x = .ref l ∧ vs = [.ref b] ∧ H l = some (.lst xs) ∧ SqT K H b zs ∧ xs.length + zs.length ≤ sizeLine ∧ Q .non (upd H l (.lst (xs ++ zs)))
theorem mt_extT : MtM X "list.extend" (rExtT X.K) := by
  intro pins s σ H x vs v us Q I rx rv h
  obtain ⟨l, b, xs, zs, rfl, rfl, hH, hB, hz, q⟩ := h
  cases rx
  obtain ⟨u, rfl, ru⟩ := rv.one
  cases ru
  obtain ⟨z, its, n, r, hl, e⟩ := I.lstM hH
  obtain ⟨its2, r2, ⟨⟨cls, dd, data, sl⟩, ho, hc, n2, hd⟩, hz2⟩ := I.tuple hB
  simp only at hc hd
  subst hc hd
  have r2l := r2.length
  have rl := r.length
  have hsz : its.toArray.size + its2.toArray.size ≤ sizeLine := by rw [List.size_toArray, List.size_toArray]; omega
  have hlong : ¬ (!its.toArray.isEmpty && Builtin.List.listTooLong (its.toArray.size + its2.toArray.size)) = true := by rw [notLongL hsz, Bool.and_false]; exact Bool.false_ne_true
  refine call_meets F.slot_list_extend ⟨_, e, rfl⟩ F.entry_list_extend (F.args_list_extend_2 _ _)
    (ext_tup l its.toArray n b its2.toArray n2 dd sl hlong (by rw [List.size_toArray] at hsz ⊢; omega) (Nat.le_succ_of_le hsz)) ⟨e, ho, ?_⟩
  refine ⟨.non, _, I.lset (its' := its ++ its2) hH e (by simp) (r.append r2) ?_, rfl, q⟩
  rw [List.length_append]
  exact hz

/-! own rule: t[:0:-1], the parts behind the first one, from the last to the first -/
theorem down_adj (n : Nat) : Builtin.Slice.sliceAdjust none (some 0) (-1) (n : Int) = ((n : Int) - 1, if n = 0 then -1 else 0) := by
  unfold Builtin.Slice.sliceAdjust
  simp only [show ((-1 : Int) < 0) from by decide, if_true, show ¬ ((0 : Int) < 0) from by decide, if_false]
  refine Prod.ext rfl ?_
  show min (0 : Int) ((n : Int) - 1) = if n = 0 then -1 else 0
  split <;> omega
theorem down_places (n : Nat) : Builtin.Slice.slicePlaces ((n : Int) - 1) (if n = 0 then -1 else 0) (-1) = n - 1 := by
  unfold Builtin.Slice.slicePlaces
  simp only [show ¬ ((-1 : Int) > 0) from by decide, if_false, Int.neg_neg, Int.ediv_one]
  by_cases h : n = 0
  · subst h; simp
  · rw [if_neg h]
    split <;> omega
theorem down_pick (l : List Value) : ((List.range (l.length - 1)).filterMap fun (k : Nat) => l.toArray[((l.length : Int) - 1 + (k : Int) * -1).toNat]?) = (l.drop 1).reverse := by
  cases l with
  | nil => rfl
  | cons a t =>
    have e1 : (a :: t).length - 1 = t.length := rfl
    rw [e1]
    have : ∀ (m : Nat) , m ≤ t.length → ((List.range m).filterMap fun (k : Nat) => (a :: t).toArray[((((a :: t).length : Nat) : Int) - 1 + (k : Int) * -1).toNat]?) = t.reverse.take m := by
      intro m
      induction m with
      | zero => intro _; rfl
      | succ m ih =>
        intro hm
        rw [List.range_succ, List.filterMap_append, ih (by omega)]
        have ei : ((((a :: t).length : Nat) : Int) - 1 + (m : Int) * -1).toNat = (t.length - 1 - m) + 1 := by rw [List.length_cons]; omega
        have hlt : t.length - 1 - m < t.length := by omega
        have eg : (a :: t).toArray[(t.length - 1 - m) + 1]? = some (t[t.length - 1 - m]'hlt) := by simp [hlt]
        have er : t.reverse[m]? = some (t[t.length - 1 - m]'hlt) := by
          rw [List.getElem?_reverse (by omega), List.getElem?_eq_getElem hlt]
        rw [List.take_add_one, er]
        simp only [List.filterMap_cons, List.filterMap_nil, ei, eg, Option.toList_some]
    rw [this t.length (Nat.le_refl _), List.take_of_length_le (by simp)]
    rfl
theorem down_item {prog : Program} {w : World} {A : Around} {E : Value → Shared → Prop} {s : Shared} {t sl : Addr} {l : List Value} {k1 k2 : Tok} {Q : Value → Shared → Prop} (hT : IsTup s.heap t l.toArray) (hS : s.heap.IsSliceOf sl .none (.int 0 k1) (.int (-1) k2))
    (h : Q (.ref s.heap.objs.size) { s with heap := s.heap.push { cls := .type "tuple", data := .seq (l.drop 1).reverse.toArray } }) (hz : l.length ≤ sizeLine) : wpAny (model prog w) A (getItem (.ref t) (.ref sl)) Q E s := by
  have fit : sizeOk (.seq (l.drop 1).reverse.toArray) := by
    show (l.drop 1).reverse.toArray.size ≤ sizeLine
    rw [List.size_toArray, List.length_reverse, List.length_drop]
    omega
  obtain ⟨os, gs, cs, ds⟩ := id hS
  have hTs : s.TypeIs (.ref sl) "slice" := ⟨os, gs, cs⟩
  unfold getItem
  try with_reducible refine wpAny_holding ?_
  first | refine wpAny_bind (wpAny_pure ?_) | skip
  refine wpAny_bind (wpAny_sequenceKey hT.typeIs (by decide) (wpAny_bind (wpAny_callSpecial?_slot (name := Str.ofString "__getitem__") hT.typeIs PyProof.Rows.slot_tuple_getitem
    (wpAny_call_entry PyProof.Rows.slot_tuple_getitem hT.typeIs entry_tuple_getitem ?_ (args_tuple_getitem _ _)))))
  show wpAny _ _ (Builtin.Tuple.tupleItemsOf (.ref t) >>= _) _ _ s
  refine wpAny_bind (tupleItemsOf_ hT (wpAny_bind (wpAny_typeOf hTs ?_)))
  rw [if_pos (by decide)]
  have app : ∀ {Q' : Int × Int × Nat → Shared → Prop}, Q' ((l.length : Int) - 1, -1, l.length - 1) s → wpAny (model prog w) A.in1 (Builtin.Slice.sliceApplied (.ref sl) (pure ((l.toArray.size : Nat) : Int))) Q' (fun e s' => True) s → True := fun _ _ => trivial
  refine wpAny_bind ?_
  unfold Builtin.Slice.sliceApplied Builtin.Slice.sliceFields
  refine wpAny_bind (wpAny_bind (wpAny_field gs ds (x := .none) rfl (wpAny_bind (wpAny_field gs ds (x := .int 0 k1) rfl (wpAny_bind (wpAny_field gs ds (x := .int (-1) k2) rfl (wpAny_pure ?_)))))))
  refine wpAny_bind (slicePart_int ?_)
  show wpAny _ _ (if ((-1 : Int) == 0) = true then _ else _) _ _ s
  rw [if_neg (by decide)]
  refine wpAny_bind (slicePart_none (wpAny_bind (slicePart_int (wpAny_bind (wpAny_pure ?_)))))
  show wpAny _ _ (match Builtin.Slice.sliceAdjust none (some 0) (-1) ((l.toArray.size : Nat) : Int) with | (lo, hi) => pure (lo, (-1 : Int), Builtin.Slice.slicePlaces lo hi (-1))) _ _ s
  rw [List.size_toArray, down_adj l.length]
  show wpAny _ _ (pure ((l.length : Int) - 1, (-1 : Int), Builtin.Slice.slicePlaces ((l.length : Int) - 1) (if l.length = 0 then -1 else 0) (-1))) _ _ s
  rw [down_places]
  refine wpAny_pure ?_
  have hno : ¬ (((l.length : Int) - 1 == 0 && (-1 : Int) == 1 && (l.length - 1) == l.toArray.size) = true) := by
    simp
  show wpAny _ _ (if (((l.length : Int) - 1 == 0 && (-1 : Int) == 1 && (l.length - 1) == l.toArray.size) = true) then _ else _) _ _ s
  rw [if_neg hno, down_pick]
  first
    | exact wpAny_bind (m := Builtin.Tuple.tupleExact _) (wpAny_newObj_type (wpAny_pure ⟨_, rfl, wpAny_pure h⟩) fit)
    | exact wpAny_bind (m := Builtin.Tuple.tupleExact _) (wpAny_newObj_type (wpAny_bind (wpAny_pure (wpAny_pure ⟨_, rfl, wpAny_pure h⟩))) fit)
    | exact wpAny_bind (wpAny_bind (m := Builtin.Tuple.tupleExact _) (wpAny_newObj_type (wpAny_pure (wpAny_pure ⟨_, rfl, wpAny_pure h⟩)) fit))
    | exact wpAny_bind (wpAny_bind (m := Builtin.Tuple.tupleExact _) (wpAny_newObj_type (wpAny_pure ⟨_, rfl, wpAny_pure h⟩) fit))
end
end Pg

set_option Elab.async false
set_option linter.all false
set_option maxRecDepth 100000
set_option maxHeartbeats 4000000
namespace Pg
open PySem PySem.Spec PyProof.Rows L2 PySem.SeqAt
section
variable {X : Cx}
def tDown (K : PySem.W.Frag) (te : TE) : TE := fun σ H Q => te σ H fun x H1 => ∃ a xs, x = .ref a ∧ SqT K H1 a xs ∧ ∀ p, H1 p = none → Q (.ref p) (upd H1 p (.tup (xs.drop 1).reverse))
theorem pe_down {e : Expr} {te : TE} {k k0 : Nat} {p0 p1 p2 p3 pos : Pos} (he : PE X e te) :
    PE X (.Subscript e (.Slice none (some (.Constant (.int 0) k0 p0)) (some (.UnaryOp .USub (.Constant (.int 1) k p1) p2)) p3) pos) (tDown X.K te) := by
  refine ⟨fun pins s σ H Q I h => Subscript_ (thn (he.run pins s σ H _ I h) fun v s1 ⟨x, H1, I1, r1, q1⟩ => ?_)⟩
  obtain ⟨a, xs, ex, hx, q⟩ := q1
  subst ex
  cases r1
  have st1 : PO X (some (.UnaryOp .USub (.Constant (.int 1) k p1) p2)) (tPart (tUn (rU fun i => .int (-i)) (tC (.int 1)))) := po_some (pe_un un_neg pe_int)
  have st0 : PO X (some (.Constant (.int 0) k0 p0)) (tPart (tC (.int 0))) := po_some pe_int
  refine wpAny_Slice (thn (po_none.run pins s1 σ H1 (fun o H2 => o = none ∧ H2 = H1) I1 ⟨rfl, rfl⟩) fun vl s2 ⟨l, H2, I2, pl, el, e2⟩ => ?_)
  subst el e2
  refine thn (st0.run pins s2 σ H2 (fun o H3 => o = some 0 ∧ H3 = H2) I2 ⟨0, rfl, rfl, rfl⟩) fun vu s3 ⟨u, H3, I3, pu, eu, e3⟩ => ?_
  subst eu e3
  refine thn (st1.run pins s3 σ H3 (fun o H4 => o = some (-1) ∧ H4 = H3) I3 ⟨1, rfl, -1, rfl, rfl, rfl⟩) fun vs s4 ⟨o, H4, I4, ps, eo, e4⟩ => ?_
  subst eo e4
  obtain rfl : vl = .none := by cases pl; rfl
  obtain ⟨t0, rfl⟩ : ∃ t, vu = .int 0 t := by cases pu; exact ⟨_, rfl⟩
  obtain ⟨t1, rfl⟩ : ∃ t, vs = .int (-1) t := by cases ps; exact ⟨_, rfl⟩
  have I5 : Inv X pins σ H4 { s4 with heap := s4.heap.push { cls := .type "slice", data := .fields #[.none, .int 0 t0, .int (-1) t1] } } := I4.kept (t' := s4.toks) fun b ob q => Heap.get?_push_of_some _ q
  obtain ⟨its, r, ht, hz⟩ := I5.tuple hx
  have hlen := r.length
  show wpAny (model X.prog X.w) X.A (subscriptTail e (.Slice none (some (.Constant (.int 0) k0 p0)) (some (.UnaryOp .USub (.Constant (.int 1) k p1) p2)) p3) (.ref a) (.ref s4.heap.objs.size)) (EP X pins σ Q) X.xe { s4 with heap := s4.heap.push { cls := .type "slice", data := .fields #[.none, .int 0 t0, .int (-1) t1] } }
  refine tail_any (ops := [.ref a, .ref s4.heap.objs.size]) ht.typeIs (PyProof.Rows.slot_tuple_getitem.lookup) ?_ (by with_unfolding_all rfl)
  refine down_item ht (Heap.IsSliceOf.new ..) ?_ (by omega)
  refine ⟨.ref _, _, I5.laid (t' := s4.toks) (o := .tup (xs.drop 1).reverse) (fun b ob q => Heap.get?_push_of_some _ q) (Nat.le_refl _) ?_, rfl, q _ (I5.hok.fresh (Nat.le_refl _))⟩
  exact ⟨by rw [List.length_reverse, List.length_drop]; omega, _, (r.drop 1).reverse, IsTup.new _ _⟩

/-! own rules: the order of data that can be compared place by place; == of data of any depth -/
def rLtD (K : PySem.W.Frag) (n : Nat) : R2 := fun x y H Q => ∃ d e, Dp K H x d ∧ Dp K H y e ∧ PySem.W.alike d e = true ∧ d ≠ .none ∧ min d.depth e.depth ≤ n ∧ Q (.bl (PySem.W.dataLt d e)) H
theorem op_ltD {n : Nat} (hu : X.A.units + n < cLine) : OpR X (compareOp .Lt) (rLtD X.K n) := by
  intro pins s σ H x y v u Q I rx ry ⟨d, e, hd, he, al, nn, hm, q⟩
  obtain ⟨as, r1⟩ := Dp.reads I d x v hd rx
  obtain ⟨bs, r2⟩ := Dp.reads I e y u he ry
  exact PySem.W.lt_data r1 r2 al nn (by omega) ⟨.bl _, H, I, rfl, q⟩
def rGtD (K : PySem.W.Frag) (n : Nat) : R2 := fun x y H Q => ∃ d e, Dp K H x d ∧ Dp K H y e ∧ PySem.W.alike d e = true ∧ d ≠ .none ∧ min d.depth e.depth ≤ n ∧ Q (.bl (PySem.W.dataLt e d)) H
theorem op_gtD {n : Nat} (hu : X.A.units + n < cLine) : OpR X (compareOp .Gt) (rGtD X.K n) := by
  intro pins s σ H x y v u Q I rx ry ⟨d, e, hd, he, al, nn, hm, q⟩
  obtain ⟨as, r1⟩ := Dp.reads I d x v hd rx
  obtain ⟨bs, r2⟩ := Dp.reads I e y u he ry
  exact PySem.W.gt_data r1 r2 al nn (by omega) ⟨.bl _, H, I, rfl, q⟩
/-! own rule: repr of a list or tuple of data, where no repr is under way -/
def rRepr (K : PySem.W.Frag) (n : Nat) : List V → Hp → VK → Prop := fun xs H Q => ∃ (a : Addr) (d : PyData), xs = [.ref a] ∧ Dp K H (.ref a) d ∧ d.showable = true ∧ d.hasDict = false ∧ d.shown.length ≤ sizeLine ∧ d.depth ≤ n ∧ Q (.str d.shown) H
theorem cr_repr {n : Nat} (hu : X.A.units + n + 1 < cLine) (hg : X.A.guards = some []) : CallR X (.builtin "repr") (rRepr X.K n) := by
  intro pins s σ H xs us Q I r ⟨a, d, e, hd, hs, hno, hz, hn, q⟩
  subst e
  obtain ⟨u, rfl, ru⟩ := vals1 r
  obtain ⟨as, r1⟩ := Dp.reads I d (.ref a) u hd ru
  cases ru
  refine repr_of_reads' r1 hs (PyData.noDict_hsm hno) hg (by omega) (fun _ _ e => e) (fun h' w tk hk => ?_) hz
  exact ⟨.str d.shown, H, I.kept (t' := tk) hk, ⟨w, rfl⟩, q⟩
end

/-! ### promises of defs that run where no repr is under way -/
structure FnG (P : Program) (w : World) (K : PySem.W.Frag) (mg : Str → Option Value) (base : Heap) (k : Nat) (f : Addr) (fd : FuncData) (ps : List Str) (sp : Sp) : Prop where
  len : ∀ vs H Q E, sp vs H Q E → vs.length = ps.length
  run : ∀ (A : Around) (outer : List Env) (s : Shared) (H : Hp) (args : Args) (us : List Value) (vs : List V) (Q : VK), A.guards = some [] → Room k A → Env0 P w K mg base A outer s H → BindsTo s fd args (ps.zip us) → Vals vs us →
    sp vs H Q E0 → codeAny (model P w) A (.call (.ref f) args) (CR CX0 outer P w H s Q E0) s
section
variable {P : Program} {w : World} {K : PySem.W.Frag} {mg : Str → Option Value} {base : Heap}
theorem fng_of {k : Nat} {f : Addr} {name qual : Str} {params : Arguments} {body : List Stmt} {scope : Scope} {dV kV doc pm cdv ct oc : Value} {an od : Option Addr} {osl : Array (Option Value)} {N ps : List Str} {sp : Sp}
    (lk : K.lookup f = some ⟨oc, od, .func (PySem.W.fnOf name qual params body scope dV kV doc pm an cdv ct), osl⟩) (hcd : PySem.W.codeIn K cdv qual = true) (S : FnScope N ps scope) (len : ∀ vs H Q E, sp vs H Q E → vs.length = ps.length)
    (hbody : ∀ (A : Around) (outer : List Env) (s : Shared) (H : Hp) (vs : List V) (Q : VK), (A.deeper (envOfC qual scope s.heap.objs.size f cdv)).guards = some [] → Room k (A.deeper (envOfC qual scope s.heap.objs.size f cdv)) → sp vs H Q E0 →
      ∃ t, PSs (cxOf CX0 P w K mg base N qual scope f cdv A outer s H E0).nox body t ∧ t { nx := fun _ H' => Q .non H', rt := Q } (start N vs) H) :
    FnG P w K mg base (k + 1) f (PySem.W.fnOf name qual params body scope dV kV doc pm an cdv ct) ps sp := by
  refine ⟨len, fun A outer s H args us vs Q hgd room env bind rv hsp => ?_⟩
  have KX : K.In s.heap := env.mod.kin.keeps fun b o e => (env.bs b o e).1
  have lim : s.heap.NoLimit := env.mod.nolimit.keeps fun b o e => (env.bs b o e).1
  have kinds : ∀ y ∈ ps.zip us, scope.names.lookup y.1 = some .local ∨ (scope.names.lookup y.1 = some .cell ∧ ((cellsFrom (s.heap.objs.size + 1) scope.names []).lookup y.1).isSome = true) := fun ⟨n, v⟩ hy =>
    (S.par n (List.of_mem_zip hy).1).imp_right fun q => ⟨q, PySem.W.cellsFrom_some _ _ _ (.inl q)⟩
  refine codeAny_call_function room.depth (KX _ _ lk) rfl S.co S.gen rfl (PySem.W.codeRec_of KX hcd) (bind _ _ _ _ (wpAny_newFunctionEnv_cells S.kind kinds fun ev he s1 x => ?_))
  subst he
  refine ⟨lim.keeps x.toInCall.keep, codeAny_func ?_⟩
  obtain ⟨t, ht, hq⟩ := hbody A outer s H vs Q hgd (room.deeper _) hsp
  have I := inv_start (CX := CX0) (E := E0) S room.hd env (len _ _ _ _ hsp) rv x
  refine wpAny_mono (ht.nox.run [] s1 (start N vs) H _ I hq) (fun fl s' hs => ?_) fun e s' hs => hs
  cases fl with
  | ret u => obtain ⟨v, σ', H', J, rv, q⟩ := hs; exact ⟨v, H', J.os, J.bare, J.base, J.hok, rv, q⟩
  | next => obtain ⟨σ', H', J, q⟩ := hs; exact ⟨V.non, H', J.os, J.bare, J.base, J.hok, rfl, q⟩
  | brk => obtain ⟨_, _, _, q⟩ := hs; exact q.elim
  | cont => obtain ⟨_, _, _, q⟩ := hs; exact q.elim
end
section
variable {X : Cx} {k : Nat} {f : Addr} {fd : FuncData} {ps : List Str} {sp : Sp} {x : Str} {p pos : Pos} {e : Expr} {es : List Expr} {t : TA}
theorem pe_callG (F : FnG X.prog X.w X.K X.mg X.base k f fd ps sp) (hG : X.A.guards = some []) (hr : Room k X.A) (hg : Gl X x) (hm : X.mg x = some (.ref f)) (hk : PySem.W.keepIn X.K (.ref f) = true) (hb : Binds X.K fd ps [])
    (ha : PA X (e :: es) t) (hdb : (x == ("__debug__" : Str)) = false := by decide) (he : starEach (e :: es) X.env = (false, eval e X.env) :: starEach es X.env := by rfl) (hpl : (backTo pos (starEach es X.env)).any (·.1) = false := by rfl) :
    PE X (.Call (.Name x p) (e :: es) [] pos) (tCall sp [] E0 t) := by
  refine ⟨fun pins s σ H Q I h => wpAny_Call_Name_kw (ld_glob I hg hm ?_ hdb)⟩
  refine PySem.W.callWith_K (h₀ := X.base) I.ok.mod.kin hk (thn (ha.run pos pins s σ H _ I h) fun us s1 ⟨vs, H1, I1, r, q⟩ => ⟨I1.kIn, ?_⟩) he hpl
  have q : sp vs H1 Q E0 := by
    have q' : sp (vs ++ []) H1 Q E0 := q
    rw [List.append_nil] at q'
    exact q'
  have hl : (us ++ []).length = ps.length := by rw [List.append_nil, ← r.length]; exact F.len _ _ _ _ q
  have hb' := hb s1 us I1.kIn hl
  rw [List.append_nil] at hb'
  show wpAny _ _ (call (Value.ref f) us) _ _ s1
  refine wpAny_call (codeAny_mono (F.run X.A X.stack s1 H1 ⟨us, []⟩ us vs Q hG hr I1.env0 hb' r q) fun r s' hq => ?_)
  cases r with
  | error e => exact (show False from hq).elim
  | ok fl =>
    cases fl with
    | ret u => exact I1.after hq
    | next => exact False.elim hq
    | brk => exact False.elim hq
    | cont => exact False.elim hq
end
end Pg

set_option Elab.async false
set_option linter.all false
set_option maxRecDepth 100000
set_option maxHeartbeats 4000000
namespace Pg
open PySem PySem.Spec PyProof.Rows L2

/-! ### a def of the text, called by its name -/
abbrev FnP (K : PySem.W.Frag) (x : Str) (st : Stmt) (f : Addr) (fd : FuncData) : Prop := FunD K x x (defArgs st) (defBody st) (defScope st) [] [] f fd
abbrev Cal := @C8.Cal
theorem mk_cal {P : Program} {w : World} {K : PySem.W.Frag} {mg : Str → Option Value} {base : Heap} {x : Str} {st : Stmt} {f : Addr} {fd : FuncData} {N ps : List Str} {k : Nat} {sp : Sp} (F : FnP K x st f fd) (hm : mg x = some (.ref f)) (S : FnScope N ps (defScope st))
    (hb : ∀ (kV doc pm : Value) (an : Option Addr) (cdv ct : Value) (us : List Value), us.length = ps.length → bindArgs (PySem.W.fnOf x x (defArgs st) (defBody st) (defScope st) .none kV doc pm an cdv ct) ⟨us, []⟩ = pure (ps.zip us))
    (len : ∀ vs H Q E, sp vs H Q E → vs.length = ps.length)
    (body : ∀ (cdv : Value) (A : Around) (outer : List Env) (s : Shared) (H : Hp) (vs : List V) (Q : VK) (E : XK), Room k (A.deeper (envOfC x (defScope st) s.heap.objs.size f cdv)) → sp vs H Q E →
      ∃ t, PSs (cxOf CX0 P w K mg base N x (defScope st) f cdv A outer s H E).nox (defBody st) t ∧ t { nx := fun _ H' => Q .non H', rt := Q } (start N vs) H) : Cal P w K mg base (k + 1) x sp [] :=
  ⟨f, fd, ps, [], F.ok S len (fun cdv A outer s H vs Q E hr h => let ⟨t, a, b⟩ := body cdv A outer s H vs Q E hr h; ⟨t, a.nox, b⟩), hm, F.kp, F.bindsN hb, .nil⟩
/-- a weaker promise, more room -/
theorem cal_imp {P : Program} {w : World} {K : PySem.W.Frag} {mg : Str → Option Value} {base : Heap} {x : Str} {k j : Nat} {sp sp' : Sp} {dv : List V} (c : Cal P w K mg base k x sp dv) (hk : k ≤ j) (h : ∀ vs H Q E, sp' vs H Q E → sp vs H Q E) : Cal P w K mg base j x sp' dv := by
  obtain ⟨f, fd, ps, ds, a, b, c, d, e⟩ := c.ex
  exact ⟨f, fd, ps, ds, (a.mono hk).imp h, b, c, d, e⟩
/-- no call with this promise -/
theorem cal_none {P : Program} {w : World} {K : PySem.W.Frag} {mg : Str → Option Value} {base : Heap} {x : Str} {k : Nat} {sp sp' : Sp} {dv : List V} (c : Cal P w K mg base k x sp' dv) (h : ∀ vs H Q E, ¬ sp vs H Q E) : Cal P w K mg base 0 x sp dv := by
  obtain ⟨f, fd, ps, ds, a, b, c, d, e⟩ := c.ex
  exact ⟨f, fd, ps, ds, ⟨fun vs H Q E q => absurd q (h vs H Q E), fun A outer s H args us vs Q E _ _ _ _ q => absurd q (h vs H Q E)⟩, b, c, d, e⟩

/-! ### what is kept -/
/-- all but the object at a -/
def Fr (a : Addr) (H H' : Hp) : Prop := ∀ b o, b ≠ a → H b = some o → H' b = some o
/-- tuples are kept -/
def TK (K : PySem.W.Frag) (H H' : Hp) : Prop := ∀ p xs, SqT K H p xs → SqT K H' p xs
section
variable {K : PySem.W.Frag} {H H1 H2 : Hp} {a p : Addr} {o : HO} {xs ys : List V}
theorem Fr.refl : Fr a H H := fun _ _ _ h => h
theorem Fr.trans (f : Fr a H H1) (g : Fr a H1 H2) : Fr a H H2 := fun b o n h => g b o n (f b o n h)
theorem Fr.of (s : Same H H1) : Fr a H H1 := fun b o _ h => s b o h
theorem Same.new (h : H p = none) : Same H (upd H p o) := fun b u q => by rw [upd_ne (ne_of_none q h)]; exact q
theorem Same.mut (h : H p = none) (s : Same H H1) : Same H (upd H1 p o) := fun b u q => by rw [upd_ne (ne_of_none q h)]; exact s b u q
theorem Fr.new (h : H p = none) : Fr a H (upd H p o) := .of (Same.new h)
theorem Fr.own : Fr a H (upd H a o) := fun b u n q => by rw [upd_ne n]; exact q
theorem Fr.mut (f : Fr a H H1) (h : H p = none) : Fr a H (upd H1 p o) := fun b u n q => by rw [upd_ne (ne_of_none q h)]; exact f b u n q
theorem TK.refl : TK K H H := fun _ _ h => h
theorem TK.trans (f : TK K H H1) (g : TK K H1 H2) : TK K H H2 := fun p xs h => g p xs (f p xs h)
theorem TK.same (s : Same H H1) : TK K H H1 := fun p xs h => by
  rcases h with (h | ⟨o, h⟩) | h
  · exact .inl (.inl (s _ _ h))
  · exact .inl (.inr ⟨o, s _ _ h⟩)
  · exact .inr h
theorem TK.fr (f : Fr a H H1) (hl : H a = some (.lst xs)) : TK K H H1 := fun p ys h => by
  rcases h with (h | ⟨o, h⟩) | h
  · exact .inl (.inl (f _ _ (ne_of h hl (by intro z; cases z)) h))
  · exact .inl (.inr ⟨o, f _ _ (ne_of h hl (by intro z; cases z)) h⟩)
  · exact .inr h
theorem TK.new (h : H p = none) : TK K H (upd H p o) := .same (Same.new h)
theorem TK.put (h : H p = some (.lst xs)) : TK K H (upd H p o) := .fr Fr.own h
theorem SqT.mk (h : H p = some (.tup xs)) : SqT K H p xs := .inl (.inl h)
theorem SqL.mk (h : H p = some (.lst xs)) : SqL K H p xs := .inl (.inl h)
theorem Fr.seq (f : Fr a H H1) (n : p ≠ a) (h : SqL K H p xs) : SqL K H1 p xs := by
  rcases h with (h | ⟨o, h⟩) | h
  · exact .inl (.inl (f _ _ n h))
  · exact .inl (.inr ⟨o, f _ _ n h⟩)
  · exact .inr h
theorem Fr.free (f : Fr a H H1) (h : H1 p = none) (n : p ≠ a) : H p = none := by
  cases q : H p with
  | none => rfl
  | some o => rw [f p o n q] at h; cases h
theorem same_free (s : Same H H1) (h : H1 p = none) : H p = none := s.free h
end

/-! ### the law's stream of numbers: state[0] a list of numbers below 1009 at n, state[1] how many were taken, at most m -/
structure StA (H : Hp) (a n : Addr) (m : Int) : Prop where
  ex : ∃ (ns : List Int) (c : Int), H a = some (.lst [.ref n, .int c]) ∧ H n = some (.lst (ns.map V.int)) ∧ n ≠ a ∧ ns ≠ [] ∧ ns.length ≤ 4000 ∧ (∀ x ∈ ns, 0 ≤ x ∧ x < 1009) ∧ 0 ≤ c ∧ c ≤ m
section
variable {K : PySem.W.Frag} {H H1 H2 : Hp} {a p n : Addr} {o : HO} {xs ys : List V} {m m' : Int}
theorem StA.mono (s : StA H a n m) (h : m ≤ m') : StA H a n m' := by
  obtain ⟨ns, c, h1, h2, h3, h4, h5, h6, h7, h8⟩ := s.ex
  exact ⟨ns, c, h1, h2, h3, h4, h5, h6, h7, by omega⟩
theorem StA.same (s : StA H a n m) (e : Same H H1) : StA H1 a n m := by
  obtain ⟨ns, c, h1, h2, h3, h4, h5, h6, h7, h8⟩ := s.ex
  exact ⟨ns, c, e _ _ h1, e _ _ h2, h3, h4, h5, h6, h7, h8⟩
theorem StA.at (s : StA H a n m) : ∃ xs, H a = some (.lst xs) := let ⟨ns, c, h1, _⟩ := s.ex; ⟨_, h1⟩
theorem StA.tk (s : StA H a n m) (f : Fr a H H1) : TK K H H1 := let ⟨_, h⟩ := s.at; TK.fr f h
theorem StA.ne (s : StA H a n m) (h : H p = none) : p ≠ a ∧ p ≠ n := by
  obtain ⟨ns, c, h1, h2, _⟩ := s.ex
  exact ⟨(ne_of_none h1 h).symm, (ne_of_none h2 h).symm⟩
theorem StA.put (s : StA H a n m) (h : p ≠ a ∧ p ≠ n) : StA (upd H p o) a n m := by
  obtain ⟨ns, c, h1, h2, h3, h4, h5, h6, h7, h8⟩ := s.ex
  exact ⟨ns, c, by rw [upd_ne h.1.symm]; exact h1, by rw [upd_ne h.2.symm]; exact h2, h3, h4, h5, h6, h7, h8⟩
theorem StA.new (s : StA H a n m) (h : H p = none) : StA (upd H p o) a n m := s.same (Same.new h)
theorem StA.free (s : StA H a n m) (f : Fr a H H1) (s1 : StA H1 a n m') (h : H1 p = none) : H p = none := f.free h (s1.ne h).1
end
/-- the promise of the law's next(state, many): some number below many; one more is taken -/
def spNext : Sp := fun vs H Q _ => ∃ (a n : Addr) (many m : Int), vs = [.ref a, .int many] ∧ 1 ≤ many ∧ StA H a n m ∧ m < 1000000 ∧ ∀ (r : Int) (H' : Hp), 0 ≤ r → r < many → Fr a H H' → StA H' a n (m + 1) → Q (.int r) H'

/-! ### terms and signs -/
inductive Tr where
  | nm (x : Str) | c0 (s : Str) | c1 (s : Str) (t : Tr) | c2 (s : Str) (t u : Tr)
def Tr.size : Tr → Nat
  | .nm _ => 1
  | .c0 _ => 1
  | .c1 _ t => 1 + t.size
  | .c2 _ t u => 1 + t.size + u.size
def Tr.dep : Tr → Nat
  | .nm _ => 1
  | .c0 _ => 1
  | .c1 _ t => 1 + t.dep
  | .c2 _ t u => 1 + max t.dep u.dep
theorem Tr.size_pos : ∀ t : Tr, 1 ≤ t.size
  | .nm _ => Nat.le_refl _
  | .c0 _ => Nat.le_refl _
  | .c1 _ t => by show 1 ≤ 1 + t.size; omega
  | .c2 _ t u => by show 1 ≤ 1 + t.size + u.size; omega
theorem Tr.dep_pos : ∀ t : Tr, 1 ≤ t.dep
  | .nm _ => Nat.le_refl _
  | .c0 _ => Nat.le_refl _
  | .c1 _ t => by show 1 ≤ 1 + t.dep; omega
  | .c2 _ t u => by show 1 ≤ 1 + max t.dep u.dep; omega
theorem Tr.dep_le : ∀ t : Tr, t.dep ≤ t.size
  | .nm _ => Nat.le_refl _
  | .c0 _ => Nat.le_refl _
  | .c1 _ t => by have := t.dep_le; show 1 + t.dep ≤ 1 + t.size; omega
  | .c2 _ t u => by have := t.dep_le; have := u.dep_le; show 1 + max t.dep u.dep ≤ 1 + t.size + u.size; omega
/-- the value v is the term -/
def TrAt (K : PySem.W.Frag) (H : Hp) : Tr → V → Prop
  | .nm x, v => v = .str x
  | .c0 s, v => ∃ p, v = .ref p ∧ SqT K H p [.str s]
  | .c1 s t, v => ∃ p u, v = .ref p ∧ SqT K H p [.str s, u] ∧ TrAt K H t u
  | .c2 s t t', v => ∃ p u u', v = .ref p ∧ SqT K H p [.str s, u, u'] ∧ TrAt K H t u ∧ TrAt K H t' u'
theorem TrAt.keep {K : PySem.W.Frag} {H H' : Hp} (k : TK K H H') : ∀ {t : Tr} {v : V}, TrAt K H t v → TrAt K H' t v
  | .nm _, _, h => h
  | .c0 _, _, ⟨p, e, q⟩ => ⟨p, e, k _ _ q⟩
  | .c1 _ _, _, ⟨p, u, e, q, r⟩ => ⟨p, u, e, k _ _ q, TrAt.keep k r⟩
  | .c2 _ _ _, _, ⟨p, u, u', e, q, r, r'⟩ => ⟨p, u, u', e, k _ _ q, TrAt.keep k r, TrAt.keep k r'⟩
abbrev Sg := List (Str × Int)
/-- the tuple of pairs at p -/
structure SgAt (K : PySem.W.Frag) (H : Hp) (p : Addr) (sg : Sg) : Prop where
  ex : ∃ rs : List Addr, SqT K H p (rs.map V.ref) ∧ Paired (fun r (s : Str × Int) => SqT K H r [.str s.1, .int s.2]) rs sg
theorem Paired.imp2 {α β : Type} {F G : α → β → Prop} (h : ∀ a b, F a b → G a b) : ∀ {xs : List α} {ys : List β}, Paired F xs ys → Paired G xs ys
  | _, _, .nil => .nil
  | _, _, .cons a t => .cons (h _ _ a) (Paired.imp2 h t)
theorem SgAt.keep {K : PySem.W.Frag} {H H' : Hp} {p : Addr} {sg : Sg} (k : TK K H H') (h : SgAt K H p sg) : SgAt K H' p sg := by
  obtain ⟨rs, a, b⟩ := h.ex
  exact ⟨rs, k _ _ a, Paired.imp2 (fun _ _ q => k _ _ q) b⟩
theorem paired_get {α β : Type} {F : α → β → Prop} : ∀ {xs : List α} {ys : List β} {i : Nat} {x : α}, Paired F xs ys → xs[i]? = some x → ∃ y, ys[i]? = some y ∧ F x y
  | _, _, _, _, .nil, e => by simp at e
  | _, _, 0, _, .cons r _, e => by simp at e; subst e; exact ⟨_, rfl, r⟩
  | _, _, i + 1, x, .cons _ t, e => by
    obtain ⟨u, h1, h2⟩ := paired_get (i := i) (x := x) t (by simpa using e)
    exact ⟨u, by simpa using h1, h2⟩
theorem paired_get2 {α β : Type} {F : α → β → Prop} : ∀ {xs : List α} {ys : List β} {i : Nat} {y : β}, Paired F xs ys → ys[i]? = some y → ∃ x, xs[i]? = some x ∧ F x y
  | _, _, _, _, .nil, e => by simp at e
  | _, _, 0, _, .cons r _, e => by simp at e; subst e; exact ⟨_, rfl, r⟩
  | _, _, i + 1, y, .cons _ t, e => by
    obtain ⟨u, h1, h2⟩ := paired_get2 (i := i) (y := y) t (by simpa using e)
    exact ⟨u, by simpa using h1, h2⟩
end Pg

set_option Elab.async false
set_option linter.all false
set_option maxRecDepth 100000
set_option maxHeartbeats 4000000
namespace Pg
open PySem PySem.Spec PyProof.Rows L2
/-! ### texts by their signs -/
abbrev cs (x : Str) : List Nat := x.cps.toList
theorem cs_app (x y : Str) : cs (x ++ y) = cs x ++ cs y := TL.tl_append x y
theorem cs_len (x : Str) : x.length = (cs x).length := by simp [Str.length, cs]
theorem cs_one (c : Nat) : cs (⟨#[c]⟩ : Str) = [c] := rfl
theorem cs_inj {x y : Str} (h : cs x = cs y) : x = y := TL.ext_tl h
/-! ### the law's words -/
def Ab (w : Str) : Prop := 1 ≤ (cs w).length ∧ (cs w).length ≤ 8 ∧ ∀ c ∈ cs w, c = 97 ∨ c = 98 ∨ c = 121 ∨ c = 122
def Wd (i : Nat) (w : Str) : Prop := Ab w ∨ (i < 26 ∧ cs w = [99, 97 + i])
structure Wds (ts : List Str) : Prop where
  nd : ts.Nodup
  wd : ∀ i t, ts[i]? = some t → Wd i t
theorem Wd.len {i : Nat} {w : Str} (h : Wd i w) : w.length ≤ 8 := by
  rw [cs_len]
  rcases h with h | ⟨_, h⟩
  · exact h.2.1
  · rw [h]; exact (by show 2 ≤ 8; decide)
theorem Wds.fresh {ts : List Str} {w : Str} (h : Wds ts) (e : cs w = [99, 97 + ts.length]) : w ∉ ts := fun hm => by
  obtain ⟨i, hi, q⟩ := List.getElem_of_mem hm
  have e1 : ts[i]? = some w := by rw [List.getElem?_eq_getElem hi, q]
  rcases h.wd i w e1 with ⟨_, _, z⟩ | ⟨_, z⟩
  · have := z 99 (by rw [e]; exact List.mem_cons_self ..)
    omega
  · rw [e] at z
    have := (List.cons.inj (List.cons.inj z).2).1
    omega
theorem Wds.snoc {ts : List Str} {w : Str} (h : Wds ts) (n : w ∉ ts) (d : Wd ts.length w) : Wds (ts ++ [w]) where
  nd := List.nodup_append.mpr ⟨h.nd, by simp, fun a ha b hb e => by
    rw [List.mem_singleton] at hb
    subst hb e
    exact n ha⟩
  wd := fun i t q => by
    by_cases hi : i < ts.length
    · rw [List.getElem?_append_left hi] at q
      exact h.wd i t q
    · rw [List.getElem?_append_right (by omega)] at q
      cases hk : i - ts.length with
      | zero =>
        rw [hk] at q
        have e : w = t := by simpa using q
        subst e
        rw [show i = ts.length by omega]
        exact d
      | succ k => rw [hk] at q; simp at q
theorem Wds.nil : Wds [] := ⟨List.nodup_nil, fun i t q => by simp at q⟩
theorem inV_strs (w : Str) (ts : List Str) : inV (.str w) (ts.map V.str) = decide (w ∈ ts) := by
  induction ts with
  | nil => rfl
  | cons t ts ih =>
    show ((t == w) || inV (.str w) (ts.map V.str)) = _
    rw [ih]
    by_cases e : t = w
    · subst e; simp
    · have e2 : (t == w) = false := beq_eq_false_iff_ne.mpr e
      have e3 : ¬ w = t := fun z => e z.symm
      rw [e2, Bool.false_or]
      simp [e3]
theorem flat_strs (ts : List Str) : (ts.map V.str).all flatV = true := by
  induction ts with
  | nil => rfl
  | cons t ts ih => exact ih
/-- some word that is not among ts is made; at most ten numbers are taken -/
def spWord (K : PySem.W.Frag) : Sp := fun vs H Q _ => ∃ (a n l : Addr) (ts : List Str) (m : Int), vs = [.ref a, .ref l] ∧ StA H a n m ∧ m < 900000 ∧ H l = some (.lst (ts.map V.str)) ∧ l ≠ a ∧ Wds ts ∧ ts.length < 26 ∧
  ∀ (w : Str) (H' : Hp), w ∉ ts → Wd ts.length w → Fr a H H' → StA H' a n (m + 10) → Q (.str w) H'
/-! ### the law's signs -/
structure GSg (sg : Sg) : Prop where
  len : 1 ≤ sg.length ∧ sg.length ≤ 4
  nd : (sg.map (·.1)).Nodup
  ar : ∀ s ∈ sg, 0 ≤ s.2 ∧ s.2 ≤ 2
  c0 : ∃ s ∈ sg, s.2 = 0
  wd : ∀ s ∈ sg, ∃ i, Wd i s.1
abbrev SgR (K : PySem.W.Frag) (H : Hp) (rs : List Addr) (sg : Sg) : Prop := Paired (fun r (s : Str × Int) => SqT K H r [.str s.1, .int s.2]) rs sg
theorem paired_app {α β : Type} {F : α → β → Prop} : ∀ {xs : List α} {ys : List β} {zs : List α} {ws : List β}, Paired F xs ys → Paired F zs ws → Paired F (xs ++ zs) (ys ++ ws)
  | _, _, _, _, .nil, h => h
  | _, _, _, _, .cons a t, h => .cons a (paired_app t h)
theorem paired_take {α β : Type} {F : α → β → Prop} : ∀ {xs : List α} {ys : List β} (n : Nat), Paired F xs ys → Paired F (xs.take n) (ys.take n)
  | _, _, 0, _ => .nil
  | _, _, _ + 1, .nil => .nil
  | _, _, n + 1, .cons a t => .cons a (paired_take n t)
theorem paired_drop {α β : Type} {F : α → β → Prop} : ∀ {xs : List α} {ys : List β} (n : Nat), Paired F xs ys → Paired F (xs.drop n) (ys.drop n)
  | _, _, 0, h => h
  | _, _, _ + 1, .nil => .nil
  | _, _, n + 1, .cons _ t => paired_drop n t
theorem paired_len {α β : Type} {F : α → β → Prop} {xs : List α} {ys : List β} (h : Paired F xs ys) : xs.length = ys.length := Paired.length h
theorem SgR.keep {K : PySem.W.Frag} {H H' : Hp} {rs : List Addr} {sg : Sg} (k : TK K H H') (h : SgR K H rs sg) : SgR K H' rs sg := Paired.imp2 (fun _ _ q => k _ _ q) h
theorem cutV_drop (xs : List V) (k : Nat) : cutV xs (some (k : Int)) none = xs.drop k := by
  unfold cutV
  rw [HT.sIx_nat, HT.sIx_none]
  by_cases h : k ≤ xs.length
  · rw [Nat.min_eq_left h, List.take_of_length_le (by rw [List.length_drop]; exact Nat.le_refl _)]
  · rw [Nat.min_eq_right (by omega), List.drop_eq_nil_of_le (Nat.le_refl _), List.drop_eq_nil_of_le (by omega)]
    simp
theorem cutV_take (xs : List V) (k : Nat) : cutV xs none (some (k : Int)) = xs.take k := by
  unfold cutV
  rw [HT.sIx_nat, HT.sIx_none, List.drop_zero, Nat.sub_zero]
  by_cases h : k ≤ xs.length
  · rw [Nat.min_eq_left h]
  · rw [Nat.min_eq_right (by omega), List.take_of_length_le (Nat.le_refl _), List.take_of_length_le (by omega)]
theorem GSg.rot {sg : Sg} (g : GSg sg) (k : Nat) : GSg (sg.drop k ++ sg.take k) := by
  have p : (sg.drop k ++ sg.take k).Perm sg := List.perm_append_comm.trans (by rw [List.take_append_drop])
  exact ⟨by rw [p.length_eq]; exact g.len, ((p.map _).nodup_iff).mpr g.nd, fun s h => g.ar s (p.mem_iff.mp h), let ⟨s, h, e⟩ := g.c0; ⟨s, p.mem_iff.mpr h, e⟩, fun s h => g.wd s (p.mem_iff.mp h)⟩
/-- [sign for sign, arity in ..] over a list or a tuple of pairs -/
theorem take_snoc {α : Type} {xs : List α} {i : Nat} {x : α} (h : xs[i]? = some x) : xs.take (i + 1) = xs.take i ++ [x] := by
  rw [List.take_add_one, h]
  rfl
def FstInv (H : Hp) (D : Addr) (sg : Sg) (i : Nat) (H' : Hp) : Prop := Same H H' ∧ H' D = some (.lst ((sg.take i).map fun s => V.str s.1))
section
variable {K : PySem.W.Frag} {σ : L2.St} {H : Hp} {Q : VK} {p : Addr} {rs : List Addr} {sg : Sg} {j1 j2 : Nat} {te : TE}
theorem yes_turn {σ : L2.St} {H : Hp} {F G : Hp → Prop} (h : F H) : tYes σ H fun b H3 => if b = true then F H3 else G H3 := by
  show (if true = true then F H else G H)
  rw [if_pos rfl]
  exact h
theorem fst_turn {D : Addr} {i : Nat} {x : V} {H' : Hp} (nD : H D = none) (pr : SgR K H rs sg) (h4 : sg.length ≤ 1000) (hw : ∀ x y, wipe (((wipe σ [j1, j2]).set j1 (some x)).set j2 (some y)) [j1, j2] = wipe σ [j1, j2])
    (hv : ∀ x y, (((wipe σ [j1, j2]).set j1 (some x)).set j2 (some y))[j1]? = some (some x)) (hx : (rs.map V.ref)[i]? = some x) (iv : FstInv H D sg i H') :
    gTup K 2 (gCons (gName j1) (gCons (gName j2) gNil)) x (wipe σ [j1, j2]) H' fun σ2 H2 => wipe σ2 [j1, j2] = wipe σ [j1, j2] ∧ tYes σ2 H2 fun b H3 =>
      if b = true then tVar j1 σ2 H3 fun y H4 => ∃ acc, H4 D = some (.lst acc) ∧ acc.length < sizeLine ∧ FstInv H D sg (i + 1) (upd H4 D (.lst (acc ++ [y]))) else FstInv H D sg (i + 1) H3 := by
  rw [List.getElem?_map] at hx
  cases e : rs[i]? with
  | none => rw [e] at hx; cases hx
  | some r =>
    rw [e] at hx
    obtain rfl : V.ref r = x := Option.some.inj hx
    obtain ⟨s, es, hr⟩ := paired_get pr e
    obtain ⟨sm, hd⟩ := iv
    refine ⟨r, _, rfl, TK.same sm _ _ hr, rfl, _, _, rfl, _, _, rfl, rfl, hw _ _, ?_⟩
    refine yes_turn ⟨_, hv _ _, _, hd, ?_, ?_, ?_⟩
    · rw [List.length_map, List.length_take]
      exact small1000 (by omega)
    · exact Same.mut nD sm
    · show upd H' D _ D = _
      rw [upd_same, take_snoc es, List.map_append]
      rfl
theorem rd_fstL {i : Nat} (hi : σ[i]? = some (some (.ref p))) (hS : SqL K H p (rs.map V.ref)) (pr : SgR K H rs sg) (h4 : sg.length ≤ 1000) (hw : ∀ x y, wipe (((wipe σ [j1, j2]).set j1 (some x)).set j2 (some y)) [j1, j2] = wipe σ [j1, j2])
    (hv : ∀ x y, (((wipe σ [j1, j2]).set j1 (some x)).set j2 (some y))[j1]? = some (some x)) (h : ∀ D H', H D = none → Same H H' → H' D = some (.lst ((sg.map (·.1)).map V.str)) → Q (.ref D) H') :
    tLc (iList K (tVar i)) (gTup K 2 (gCons (gName j1) (gCons (gName j2) gNil))) tYes (tVar j1) [j1, j2] σ H Q := by
  refine ⟨_, hi, p, rfl, ⟨_, hS⟩, fun D nD => lc_list (K := K) (xs := rs.map V.ref) (FstInv H D sg) ⟨Same.new nD, upd_same⟩ (fun i H' _ iv => iv.1.seq hS) (fun i x H' hx iv => fst_turn nD pr h4 hw hv hx iv) (fun H' iv => ?_)⟩
  obtain ⟨sm, hd⟩ := iv
  rw [List.length_map, paired_len pr, List.take_length] at hd
  exact h D H' nD sm (by rw [List.map_map]; exact hd)
theorem rd_fstT {i : Nat} (hi : σ[i]? = some (some (.ref p))) (hS : SqT K H p (rs.map V.ref)) (pr : SgR K H rs sg) (h4 : sg.length ≤ 1000) (hw : ∀ x y, wipe (((wipe σ [j1, j2]).set j1 (some x)).set j2 (some y)) [j1, j2] = wipe σ [j1, j2])
    (hv : ∀ x y, (((wipe σ [j1, j2]).set j1 (some x)).set j2 (some y))[j1]? = some (some x)) (h : ∀ D H', H D = none → Same H H' → H' D = some (.lst ((sg.map (·.1)).map V.str)) → Q (.ref D) H') :
    tLc (iTup K (tVar i)) (gTup K 2 (gCons (gName j1) (gCons (gName j2) gNil))) tYes (tVar j1) [j1, j2] σ H Q := by
  refine ⟨_, hi, p, rfl, ⟨_, hS⟩, fun D nD => lc_tup (K := K) (xs := rs.map V.ref) (FstInv H D sg) ⟨Same.new nD, upd_same⟩ (fun i H' _ iv => TK.same iv.1 _ _ hS) (fun i x H' hx iv => fst_turn nD pr h4 hw hv hx iv) (fun H' iv => ?_)⟩
  obtain ⟨sm, hd⟩ := iv
  rw [List.length_map, paired_len pr, List.take_length] at hd
  exact h D H' nD sm (by rw [List.map_map]; exact hd)
end
/-- many signs are made -/
def spSigns (K : PySem.W.Frag) : Sp := fun vs H Q _ => ∃ (a n : Addr) (many m : Int), vs = [.ref a, .int many] ∧ StA H a n m ∧ m < 800000 ∧ 1 ≤ many ∧ many ≤ 4 ∧
  ∀ (p : Addr) (sg : Sg) (H' : Hp), SgAt K H' p sg → GSg sg → Fr a H H' → StA H' a n (m + 50) → Q (.ref p) H'
/-- the stream of a script's numbers -/
def InR (ns : List Int) : Prop := ∀ x ∈ ns, 0 ≤ x ∧ x < 1009
theorem InR.snoc {ns : List Int} {x : Int} (h : InR ns) (h0 : 0 ≤ x) (h1 : x < 1009) : InR (ns ++ [x]) := fun y hy => by
  rcases List.mem_append.mp hy with h' | h'
  · exact h y h'
  · rw [List.mem_singleton] at h'
    rw [h']
    exact ⟨h0, h1⟩
def spStream (K : PySem.W.Frag) : Sp := fun vs H Q _ => ∃ (a : Addr) (zs : List Int), vs = [.ref a] ∧ SqL K H a (zs.map V.int) ∧ zs.length ≤ 63 ∧
  ∀ (p : Addr) (ns : List Int) (H' : Hp), H p = none → Same H H' → H' p = some (.lst (ns.map V.int)) → ns ≠ [] → ns.length ≤ 4000 → InR ns → Q (.ref p) H'
theorem mod_in (x : Int) : 0 ≤ x % 1009 ∧ x % 1009 < 1009 := ⟨Int.emod_nonneg _ (by decide), Int.emod_lt_of_pos _ (by decide)⟩
/-! ### tests whose answer is known -/
def TV (tc : TT) (σ : L2.St) (H : Hp) (b : Bool) : Prop := ∀ Q : Bool → Hp → Prop, Q b H → tc σ H Q
section
variable {t u : TT} {σ : L2.St} {H : Hp} {a b : Bool}
theorem TV.and (h : TV t σ H a) (k : TV u σ H b) : TV (tAnd t u) σ H (a && b) := fun Q q => h _ (by
  cases a with
  | false => rw [if_neg Bool.false_ne_true]; exact q
  | true => rw [if_pos rfl]; exact k Q q)
theorem TV.or (h : TV t σ H a) (k : TV u σ H b) : TV (tOr t u) σ H (a || b) := fun Q q => h _ (by
  cases a with
  | true => rw [if_pos rfl]; exact q
  | false => rw [if_neg Bool.false_ne_true]; exact k Q q)
theorem TV.not (h : TV t σ H a) : TV (tNot t) σ H (!a) := fun Q q => h _ q
theorem TV.ifs {T U : TS} {D : Ends} (h : TV t σ H b) (ht : b = true → T D σ H) (hu : b = false → U D σ H) : tIfS t T U D σ H := h _ (by
  cases b with
  | true => rw [if_pos rfl]; exact ht rfl
  | false => rw [if_neg Bool.false_ne_true]; exact hu rfl)
theorem TV.ite {F G : Hp → Prop} (h : TV t σ H b) (ht : b = true → F H) (hu : b = false → G H) : t σ H fun b H3 => if b = true then F H3 else G H3 := h _ (by
  cases b with
  | true => rw [if_pos rfl]; exact ht rfl
  | false => rw [if_neg Bool.false_ne_true]; exact hu rfl)
end
/-! ### terms over signs -/
def Wf (sg : Sg) (nms : List Str) : Tr → Prop
  | .nm x => x ∈ nms
  | .c0 s => (s, 0) ∈ sg
  | .c1 s t => (s, 1) ∈ sg ∧ Wf sg nms t
  | .c2 s t u => (s, 2) ∈ sg ∧ Wf sg nms t ∧ Wf sg nms u
theorem mem_ar {sg : Sg} {s : Str × Int} {k : Int} (h : s ∈ sg) (e : s.2 = k) : (s.1, k) ∈ sg := by
  subst e
  exact h
theorem mk_none {P : Program} {w : World} {K : PySem.W.Frag} {mg : Str → Option Value} {base : Heap} {x : Str} {st : Stmt} {f : Addr} {fd : FuncData} {ps : List Str} {k : Nat} {sp : Sp} (F : FnP K x st f fd) (hm : mg x = some (.ref f))
    (hb : ∀ (kV doc pm : Value) (an : Option Addr) (cdv ct : Value) (us : List Value), us.length = ps.length → bindArgs (PySem.W.fnOf x x (defArgs st) (defBody st) (defScope st) .none kV doc pm an cdv ct) ⟨us, []⟩ = pure (ps.zip us))
    (h : ∀ vs H Q E, ¬ sp vs H Q E) : Cal P w K mg base k x sp [] :=
  ⟨f, fd, ps, [], ⟨fun vs H Q E q => absurd q (h vs H Q E), fun A outer s H args us vs Q E _ _ _ _ q => absurd q (h vs H Q E)⟩, hm, F.kp, F.bindsN hb, .nil⟩
/-- a term of at most room signs and names is made -/
def spTerm (K : PySem.W.Frag) (lvl : Nat) : Sp := fun vs H Q _ => ∃ (a n g l : Addr) (sg : Sg) (nms : List Str) (room m : Int), vs = [.ref a, .ref g, .ref l, .int room] ∧ StA H a n m ∧ m + 3 * room < 700000 ∧ SgAt K H g sg ∧ GSg sg ∧
  SqL K H l (nms.map V.str) ∧ l ≠ a ∧ nms.length ≤ 1000 ∧ 1 ≤ room ∧ room.toNat ≤ lvl ∧
  ∀ (v : V) (t : Tr) (H' : Hp), TrAt K H' t v → Wf sg nms t → t.size ≤ room.toNat → Fr a H H' → StA H' a n (m + 3 * room) → Q v H'
/-- some of the pairs are taken over into the new list at D -/
def PickInv (K : PySem.W.Frag) (H : Hp) (D : Addr) (sg : Sg) (C Z : Str × Int → Prop) (i : Nat) (H' : Hp) : Prop :=
  Same H H' ∧ ∃ (rs : List Addr) (sg' : Sg), H' D = some (.lst (rs.map V.ref)) ∧ SgR K H' rs sg' ∧ sg'.length ≤ i ∧ (∀ s ∈ sg', s ∈ sg ∧ C s) ∧ (∀ s ∈ sg.take i, Z s → sg' ≠ [])
section
variable {K : PySem.W.Frag} {σ : L2.St} {H : Hp} {Q : VK} {p : Addr} {rs : List Addr} {sg : Sg} {j : Nat} {te : TE} {tt : TT} {C Z : Str × Int → Prop}
/-- [one for one in signs if ..]: of each pair the test tells b; it is taken over if b; C is what is known then -/
theorem rd_pick {i : Nat} (hi : σ[i]? = some (some (.ref p))) (hS : SqT K H p (rs.map V.ref)) (pr : SgR K H rs sg) (h4 : sg.length ≤ 1000) (hw : ∀ x, wipe ((wipe σ [j]).set j (some x)) [j] = wipe σ [j]) (hv : ∀ x, ((wipe σ [j]).set j (some x))[j]? = some (some x))
    (htt : ∀ (r : Addr) (s : Str × Int) (H' : Hp), SqT K H' r [.str s.1, .int s.2] → s ∈ sg → ∃ b, TV tt ((wipe σ [j]).set j (some (.ref r))) H' b ∧ (b = true → C s) ∧ (b = false → ¬ Z s))
    (h : ∀ D H' rs' sg', H D = none → Same H H' → H' D = some (.lst (rs'.map V.ref)) → SgR K H' rs' sg' → sg'.length ≤ sg.length → (∀ s ∈ sg', s ∈ sg ∧ C s) → (∀ s ∈ sg, Z s → sg' ≠ []) → Q (.ref D) H') :
    tLc (iTup K (tVar i)) (gName j) tt (tVar j) [j] σ H Q := by
  refine ⟨_, hi, p, rfl, ⟨_, hS⟩, fun D nD => lc_tup (K := K) (xs := rs.map V.ref) (PickInv K H D sg C Z)
    ⟨Same.new nD, [], [], upd_same, .nil, Nat.le_refl _, (fun _ h => absurd h List.not_mem_nil), (fun s h => by rw [List.take_zero] at h; exact absurd h List.not_mem_nil)⟩ (fun i H' _ iv => TK.same iv.1 _ _ hS) (fun i x H' hx iv => ?_) (fun H' iv => ?_)⟩
  · rw [List.getElem?_map] at hx
    cases e : rs[i]? with
    | none => rw [e] at hx; cases hx
    | some r =>
      rw [e] at hx
      obtain rfl : V.ref r = x := Option.some.inj hx
      obtain ⟨s, es, hr⟩ := paired_get pr e
      obtain ⟨sm, rs', sg', hd, pr', hl, hc, hz⟩ := iv
      have hil : i < sg.length := (List.getElem?_eq_some_iff.mp es).1
      have hs : s ∈ sg := List.mem_of_getElem? es
      have hr' : SqT K H' r [.str s.1, .int s.2] := TK.same sm _ _ hr
      obtain ⟨b, tv, h1, h2⟩ := htt r s H' hr' hs
      refine ⟨hw _, tv.ite (fun e => ?_) (fun e => ?_)⟩
      · have hlen : (rs'.map V.ref).length < sizeLine := by rw [List.length_map, paired_len pr']; exact small1000 (by omega)
        refine ⟨_, hv _, _, hd, hlen, Same.mut nD sm, rs' ++ [r], sg' ++ [s], by rw [List.map_append]; exact upd_same, ?_, by rw [List.length_append, List.length_singleton]; omega, fun t ht => ?_, fun t _ _ => by simp⟩
        · exact SgR.keep (TK.put hd) (paired_app pr' (.cons hr' .nil))
        · rcases List.mem_append.mp ht with q | q
          · exact hc t q
          · rw [List.mem_singleton] at q
            subst q
            exact ⟨hs, h1 e⟩
      · refine ⟨sm, rs', sg', hd, pr', by omega, hc, fun t ht hC => ?_⟩
        rw [take_snoc es] at ht
        rcases List.mem_append.mp ht with q | q
        · exact hz t q hC
        · rw [List.mem_singleton] at q
          subst q
          exact absurd hC (h2 e)
  · obtain ⟨sm, rs', sg', hd, pr', hl, hc, hz⟩ := iv
    rw [List.length_map, paired_len pr] at hl hz
    rw [List.take_length] at hz
    exact h D H' rs' sg' nD sm hd pr' hl hc hz
end
end Pg

set_option Elab.async false
set_option linter.all false
set_option maxRecDepth 100000
set_option maxHeartbeats 4000000
namespace Pg
open PySem PySem.Spec PyProof.Rows L2
/-! ### words beside words in any order -/
structure WdsW (ts : List Str) : Prop where
  nd : ts.Nodup
  wd : ∀ t ∈ ts, ∃ i, i < ts.length ∧ Wd i t
theorem Wds.toW {ts : List Str} (h : Wds ts) : WdsW ts := ⟨h.nd, fun t ht => by
  obtain ⟨i, hi, e⟩ := List.getElem_of_mem ht
  exact ⟨i, hi, h.wd i t (by rw [List.getElem?_eq_getElem hi, e])⟩⟩
theorem WdsW.fresh {ts : List Str} {w : Str} (h : WdsW ts) (e : cs w = [99, 97 + ts.length]) : w ∉ ts := fun hm => by
  obtain ⟨i, hi, h⟩ := h.wd w hm
  rcases h with ⟨_, _, z⟩ | ⟨_, z⟩
  · have := z 99 (by rw [e]; exact List.mem_cons_self ..)
    omega
  · rw [e] at z
    have := (List.cons.inj (List.cons.inj z).2).1
    omega
theorem WdsW.snoc {ts : List Str} {w : Str} (h : WdsW ts) (n : w ∉ ts) (d : Wd ts.length w) : WdsW (ts ++ [w]) where
  nd := List.nodup_append.mpr ⟨h.nd, by simp, fun a ha b hb e => by
    rw [List.mem_singleton] at hb
    subst hb e
    exact n ha⟩
  wd := fun t q => by
    rw [List.length_append]
    rcases List.mem_append.mp q with z | z
    · obtain ⟨i, hi, hw⟩ := h.wd t z
      exact ⟨i, by omega, hw⟩
    · rw [List.mem_singleton] at z
      rw [z]
      exact ⟨ts.length, by show ts.length < ts.length + 1; omega, d⟩
def spWordW (K : PySem.W.Frag) : Sp := fun vs H Q _ => ∃ (a n l : Addr) (ts : List Str) (m : Int), vs = [.ref a, .ref l] ∧ StA H a n m ∧ m < 900000 ∧ H l = some (.lst (ts.map V.str)) ∧ l ≠ a ∧ WdsW ts ∧ ts.length < 26 ∧
  ∀ (w : Str) (H' : Hp), w ∉ ts → Wd ts.length w → Fr a H H' → StA H' a n (m + 10) → Q (.str w) H'
def GSgB (sg : Sg) : Prop := ∀ s ∈ sg, ∃ i, i < sg.length ∧ Wd i s.1
theorem GSgB.toW {sg : Sg} (g : GSg sg) (h : GSgB sg) : WdsW (sg.map (·.1)) := ⟨g.nd, fun t ht => by
  obtain ⟨s, hs, rfl⟩ := List.mem_map.mp ht
  obtain ⟨i, hi, hw⟩ := h s hs
  exact ⟨i, by rw [List.length_map]; exact hi, hw⟩⟩
def spSignsW (K : PySem.W.Frag) : Sp := fun vs H Q _ => ∃ (a n : Addr) (many m : Int), vs = [.ref a, .int many] ∧ StA H a n m ∧ m < 800000 ∧ 1 ≤ many ∧ many ≤ 4 ∧
  ∀ (p : Addr) (sg : Sg) (H' : Hp), SgAt K H' p sg → GSg sg → GSgB sg → Fr a H H' → StA H' a n (m + 50) → Q (.ref p) H'
/-- the marks that the law draws -/
structure GMk (sg mk : Sg) : Prop where
  l : 1 ≤ mk.length ∧ mk.length ≤ 6
  d : (mk.map (·.1)).Nodup
  w : ∀ s ∈ mk, ∃ i, i < 26 ∧ Wd i s.1
  n : ∀ s ∈ mk, s.1 ∉ sg.map (·.1)
  a : ∀ s ∈ mk, 0 ≤ s.2 ∧ s.2 ≤ 2
def spMarks (K : PySem.W.Frag) : Sp := fun vs H Q _ => ∃ (a n g : Addr) (sg : Sg) (many m : Int), vs = [.ref a, .ref g, .int many] ∧ StA H a n m ∧ m < 800000 ∧ SgAt K H g sg ∧ GSg sg ∧ GSgB sg ∧ 1 ≤ many ∧ many ≤ 6 ∧
  ∀ (p : Addr) (mk : Sg) (H' : Hp), SgAt K H' p mk → GMk sg mk → Fr a H H' → StA H' a n (m + 80) → Q (.ref p) H'
end Pg

set_option Elab.async false
set_option linter.all false
set_option maxRecDepth 100000
set_option maxHeartbeats 4000000
namespace Pg
open PySem PySem.Spec PyProof.Rows L2
/-! ### trees: terms without names -/
def Pl : Tr → Prop
  | .nm _ => False
  | .c0 _ => True
  | .c1 _ t => Pl t
  | .c2 _ t u => Pl t ∧ Pl u
def Tr.sym : Tr → Str
  | .nm x => x
  | .c0 s => s
  | .c1 s _ => s
  | .c2 s _ _ => s
def Tr.kids : Tr → List Tr
  | .nm _ => []
  | .c0 _ => []
  | .c1 _ t => [t]
  | .c2 _ t u => [t, u]
theorem Wf.pl {sg : Sg} : ∀ {t : Tr}, Wf sg [] t → Pl t
  | .nm _, h => absurd h List.not_mem_nil
  | .c0 _, _ => trivial
  | .c1 _ t, h => Wf.pl (t := t) h.2
  | .c2 _ t u, h => ⟨Wf.pl (t := t) h.2.1, Wf.pl (t := u) h.2.2⟩
theorem Pl.kid {t k : Tr} (h : Pl t) (m : k ∈ t.kids) : Pl k := by
  cases t with
  | nm x => exact absurd m List.not_mem_nil
  | c0 s => exact absurd m List.not_mem_nil
  | c1 s t => rw [show (Tr.c1 s t).kids = [t] from rfl, List.mem_singleton] at m; rw [m]; exact h
  | c2 s t u =>
    rcases List.mem_cons.mp (show k ∈ [t, u] from m) with e | e
    · rw [e]; exact h.1
    · rw [List.mem_singleton] at e; rw [e]; exact h.2
theorem Wf.kid {sg : Sg} {nms : List Str} {t k : Tr} (h : Wf sg nms t) (m : k ∈ t.kids) : Wf sg nms k := by
  cases t with
  | nm x => exact absurd m List.not_mem_nil
  | c0 s => exact absurd m List.not_mem_nil
  | c1 s t => rw [show (Tr.c1 s t).kids = [t] from rfl, List.mem_singleton] at m; rw [m]; exact h.2
  | c2 s t u =>
    rcases List.mem_cons.mp (show k ∈ [t, u] from m) with e | e
    · rw [e]; exact h.2.1
    · rw [List.mem_singleton] at e; rw [e]; exact h.2.2
theorem Wf.sym {sg : Sg} {t : Tr} (h : Wf sg [] t) : (t.sym, (t.kids.length : Int)) ∈ sg := by
  cases t with
  | nm x => exact absurd h List.not_mem_nil
  | c0 s => exact h
  | c1 s t => exact h.1
  | c2 s t u => exact h.1
theorem Tr.dep_kid {t k : Tr} (m : k ∈ t.kids) : k.dep + 1 ≤ t.dep := by
  cases t with
  | nm x => exact absurd m List.not_mem_nil
  | c0 s => exact absurd m List.not_mem_nil
  | c1 s t => rw [show (Tr.c1 s t).kids = [t] from rfl, List.mem_singleton] at m; rw [m]; show t.dep + 1 ≤ 1 + t.dep; omega
  | c2 s t u =>
    show k.dep + 1 ≤ 1 + max t.dep u.dep
    rcases List.mem_cons.mp (show k ∈ [t, u] from m) with e | e
    · rw [e]; omega
    · rw [List.mem_singleton] at e; rw [e]; omega
theorem Tr.kids_le (t : Tr) : t.kids.length ≤ 2 := by cases t <;> first | exact Nat.zero_le _ | exact Nat.le_refl _ | exact Nat.le_succ _
theorem Tr.size_kids (t : Tr) : (t.size : Int) = 1 + (t.kids.map fun k => (k.size : Int)).sum := by
  cases t with
  | nm x => rfl
  | c0 s => rfl
  | c1 s t =>
    show ((1 + t.size : Nat) : Int) = 1 + ((t.size : Int) + 0)
    omega
  | c2 s t u =>
    show ((1 + t.size + u.size : Nat) : Int) = 1 + ((t.size : Int) + ((u.size : Int) + 0))
    omega
theorem paired_eq {α β : Type} {g : β → α} : ∀ {xs : List α} {ys : List β}, Paired (fun v k => v = g k) xs ys → xs = ys.map g
  | _, _, .nil => rfl
  | _, _, .cons a t => by rw [List.map_cons, ← a, ← paired_eq t]
theorem at0 {α : Type} (x : α) (us : List α) : atI (x :: us) 0 = some x := atI_nat (j := 0) rfl
abbrev KidsAt (K : PySem.W.Frag) (H : Hp) (us : List V) (ks : List Tr) : Prop := Paired (fun u k => TrAt K H k u) us ks
theorem KidsAt.keep {K : PySem.W.Frag} {H H' : Hp} {us : List V} {ks : List Tr} (k : TK K H H') (h : KidsAt K H us ks) : KidsAt K H' us ks := Paired.imp2 (fun _ _ q => TrAt.keep k q) h
theorem TrAt.open_ {K : PySem.W.Frag} {H : Hp} {t : Tr} {v : V} (hp : Pl t) (h : TrAt K H t v) : ∃ p us, v = .ref p ∧ SqT K H p (.str t.sym :: us) ∧ KidsAt K H us t.kids := by
  cases t with
  | nm x => exact hp.elim
  | c0 s => obtain ⟨p, e, q⟩ := h; exact ⟨p, [], e, q, .nil⟩
  | c1 s t => obtain ⟨p, u, e, q, r⟩ := h; exact ⟨p, [u], e, q, .cons r .nil⟩
  | c2 s t t' => obtain ⟨p, u, u', e, q, r, r'⟩ := h; exact ⟨p, [u, u'], e, q, .cons r (.cons r' .nil)⟩
theorem TrAt.mk {K : PySem.W.Frag} {H : Hp} {t : Tr} {p : Addr} {us : List V} (hp : Pl t) (q : SqT K H p (.str t.sym :: us)) (r : KidsAt K H us t.kids) : TrAt K H t (.ref p) := by
  cases t with
  | nm x => exact hp.elim
  | c0 s => cases r; exact ⟨p, rfl, q⟩
  | c1 s t =>
    cases r with
    | cons a b => cases b; exact ⟨p, _, rfl, q, a⟩
  | c2 s t t' =>
    cases r with
    | cons a b =>
      cases b with
      | cons c d => cases d; exact ⟨p, _, _, rfl, q, a, c⟩
section
variable {K : PySem.W.Frag} {σ : L2.St} {H : Hp} {Q : VK} {p q : Addr} {us : List V} {ks : List Tr} {j : Nat} {te : TE} {x : V}
/-- t[1:] of a tree's tuple -/
theorem tail_no {x : V} {us : List V} {A : Prop} (z : HT.sIx (x :: us).length 0 (some 1) = 0 ∧ HT.sIx (x :: us).length (x :: us).length none = (x :: us).length) : A := by
  have := HT.sIx_nat (x :: us).length 0 1
  rw [show ((1 : Nat) : Int) = 1 from rfl, z.1, List.length_cons] at this
  omega
theorem tail_cut (x : V) (us : List V) : cutV (x :: us) (some 1) none = us := cutV_drop (x :: us) 1
/-- [f(part) for part in ..] over a tree's parts, f changes nothing that stands; R tells of each part what f hands back -/
theorem rd_kids {wi : TI} (hwi : ∀ R, (∀ q H1, Same H H1 → SqT K H1 q us → R (Itt K q) H1) → wi σ H R) (R : Hp → V → Tr → Prop) (mono : ∀ H H' v k, TK K H H' → R H v k → R H' v k) (pr : KidsAt K H us ks) (hlen : ks.length ≤ 1000)
    (hw : ∀ x, wipe ((wipe σ [j]).set j (some x)) [j] = wipe σ [j])
    (ht : ∀ u k H', k ∈ ks → Same H H' → TrAt K H' k u → ∀ Q', (∀ v H2, Same H' H2 → R H2 v k → Q' v H2) → te ((wipe σ [j]).set j (some u)) H' Q')
    (h : ∀ D H' ws, H D = none → Same H H' → H' D = some (.lst ws) → Paired (R H') ws ks → Q (.ref D) H') : tLc wi (gName j) tYes te [j] σ H Q := by
  refine hwi _ (fun q H1 s1 hS D nD => ?_)
  have nD0 : H D = none := same_free s1 nD
  refine lc_tup (K := K) (xs := us) (fun i H' => Same H1 H' ∧ ∃ ws, H' D = some (.lst ws) ∧ Paired (R H') ws (ks.take i)) ⟨Same.new nD, [], upd_same, .nil⟩ (fun i H' _ iv => TK.same iv.1 _ _ hS) (fun i x H' hx iv => ?_) (fun H' iv => ?_)
  · obtain ⟨sm, ws, hd, hr⟩ := iv
    obtain ⟨k, ek, hk⟩ := paired_get pr hx
    have hlt : i < ks.length := (List.getElem?_eq_some_iff.mp ek).1
    refine ⟨hw _, yes_turn ?_⟩
    refine ht x k H' (List.mem_of_getElem? ek) (s1.trans sm) (TrAt.keep (TK.same (s1.trans sm)) hk) _ (fun v H2 s2 r2 => ?_)
    have hd2 := s2 _ _ hd
    refine ⟨ws, hd2, by rw [paired_len hr, List.length_take]; exact small1000 (by omega), Same.mut nD (sm.trans s2), ws ++ [v], upd_same, ?_⟩
    rw [take_snoc ek]
    exact paired_app (Paired.imp2 (fun _ _ r => mono _ _ _ _ ((TK.same s2).trans (TK.put hd2)) r) hr) (.cons (mono _ _ _ _ (TK.put hd2) r2) .nil)
  · obtain ⟨sm, ws, hd, hr⟩ := iv
    rw [paired_len pr, List.take_length] at hr
    exact h D H' ws nD0 (s1.trans sm) hd hr
/-- part in t[1:] -/
theorem it_tail {i : Nat} (hi : σ[i]? = some (some (.ref p))) (hS : SqT K H p (x :: us)) : ∀ R, (∀ q H1, Same H H1 → SqT K H1 q us → R (Itt K q) H1) → iTup K (tSl (rSlA K) (tVar i) (tPart (tC (.int 1))) tNoPart) σ H R := fun R h =>
  ⟨_, hi, 1, rfl, p, _, rfl, hS, fun z => tail_no z, fun _ q nq => by
    rw [tail_cut]
    exact ⟨q, rfl, ⟨_, SqT.mk upd_same⟩, h q _ (Same.new nq) (SqT.mk upd_same)⟩⟩
end
/-! ### what the law's own walks tell of a tree -/
/-- the size -/
def spSize (K : PySem.W.Frag) (d : Nat) : Sp := fun vs H Q _ => ∃ (v : V) (t : Tr), vs = [v] ∧ TrAt K H t v ∧ Pl t ∧ t.dep ≤ d ∧ ∀ H', Same H H' → Q (.int t.size) H'
/-- a copy -/
def spCopy (K : PySem.W.Frag) (d : Nat) : Sp := fun vs H Q _ => ∃ (v : V) (t : Tr), vs = [v] ∧ TrAt K H t v ∧ Pl t ∧ t.dep ≤ d ∧ ∀ v' H', Same H H' → TrAt K H' t v' → Q v' H'
def place (sg : Sg) (s : Str) : Nat := (sg.map (·.1)).idxOf s
/-- the key of a tree, as data -/
def keyD (sg : Sg) : Tr → PyData
  | .nm _ => .none
  | .c0 s => .tuple [.int 1, .int (place sg s)]
  | .c1 s t => .tuple [.int (Tr.c1 s t).size, .int (place sg s), keyD sg t]
  | .c2 s t u => .tuple [.int (Tr.c2 s t u).size, .int (place sg s), keyD sg t, keyD sg u]
theorem keyD_eq (sg : Sg) {t : Tr} (h : Pl t) : keyD sg t = .tuple (.int t.size :: .int (place sg t.sym) :: t.kids.map (keyD sg)) := by
  cases t with
  | nm x => exact h.elim
  | c0 s => rfl
  | c1 s t => rfl
  | c2 s t u => rfl
theorem key_keep {K : PySem.W.Frag} {H H' : Hp} (k : TK K H H') (sg : Sg) : ∀ (t : Tr) (v : V), Pl t → Dp K H v (keyD sg t) → Dp K H' v (keyD sg t)
  | .nm _, _, h, _ => h.elim
  | .c0 s, v, _, h => by
    have h : Dp K H v (.tuple [.int 1, .int (place sg s)]) := h
    show Dp K H' v (.tuple [.int 1, .int (place sg s)])
    cases h with
    | tup hs ha =>
      cases ha with
      | cons a b => cases a; cases b with
        | cons c d => cases c; cases d; exact .tup (k _ _ hs) (.cons (.int _) (.cons (.int _) .nil))
  | .c1 s t, v, hp, h => by
    have h : Dp K H v (.tuple [.int (Tr.c1 s t).size, .int (place sg s), keyD sg t]) := h
    show Dp K H' v (.tuple [.int (Tr.c1 s t).size, .int (place sg s), keyD sg t])
    cases h with
    | tup hs ha =>
      cases ha with
      | cons a b => cases a; cases b with
        | cons c d => cases c; cases d with
          | cons e f => cases f; exact .tup (k _ _ hs) (.cons (.int _) (.cons (.int _) (.cons (key_keep k sg t _ hp e) .nil)))
  | .c2 s t u, v, hp, h => by
    have h : Dp K H v (.tuple [.int (Tr.c2 s t u).size, .int (place sg s), keyD sg t, keyD sg u]) := h
    show Dp K H' v (.tuple [.int (Tr.c2 s t u).size, .int (place sg s), keyD sg t, keyD sg u])
    cases h with
    | tup hs ha =>
      cases ha with
      | cons a b => cases a; cases b with
        | cons c d => cases c; cases d with
          | cons e f => cases f with
            | cons g i => cases i; exact .tup (k _ _ hs) (.cons (.int _) (.cons (.int _) (.cons (key_keep k sg t _ hp.1 e) (.cons (key_keep k sg u _ hp.2 g) .nil))))
def spKey (K : PySem.W.Frag) (d : Nat) : Sp := fun vs H Q _ => ∃ (g : Addr) (sg : Sg) (v : V) (t : Tr), vs = [.ref g, v] ∧ SgAt K H g sg ∧ GSg sg ∧ TrAt K H t v ∧ Wf sg [] t ∧ t.dep ≤ d ∧ ∀ v' H', Same H H' → Dp K H' v' (keyD sg t) → Q v' H'
/-- the place of a word among the signs' -/
theorem place_at {sg : Sg} {s : Str} (h : s ∈ sg.map (·.1)) : place sg s < sg.length ∧ ((sg.map (·.1)).map V.str)[place sg s]? = some (.str s) ∧ ∀ (m : Nat) (z : V), m < place sg s → ((sg.map (·.1)).map V.str)[m]? = some z → eqV z (.str s) = false := by
  have h1 : (sg.map (·.1)).idxOf s < (sg.map (·.1)).length := List.idxOf_lt_length_iff.mpr h
  refine ⟨by rw [List.length_map] at h1; exact h1, ?_, fun m z hm e => ?_⟩
  · show ((sg.map (·.1)).map V.str)[(sg.map (·.1)).idxOf s]? = _
    rw [List.getElem?_map, List.getElem?_eq_getElem h1]
    show some (V.str ((sg.map (·.1))[(sg.map (·.1)).idxOf s])) = _
    rw [List.getElem_idxOf]
  · rw [List.getElem?_map] at e
    have hm' : m < (sg.map (·.1)).length := Nat.lt_trans hm h1
    rw [List.getElem?_eq_getElem hm'] at e
    obtain rfl : V.str ((sg.map (·.1))[m]) = z := Option.some.inj e
    have hne : (sg.map (·.1))[m] ≠ s := fun q => by
      have hm2 : m < (sg.map (·.1)).findIdx (· == s) := hm
      have := List.not_of_lt_findIdx hm2
      simp [q] at this
    exact beq_eq_false_iff_ne.mpr hne
end Pg

set_option Elab.async false
set_option linter.all false
set_option maxRecDepth 100000
set_option maxHeartbeats 4000000
namespace Pg
open PySem PySem.Spec PyProof.Rows L2
section
variable {X : Cx} {c : Expr} {t : TT}
/-- a test, with a word of one's own behind it -/
def tMid (t : TT) : TT := fun σ H Q => ∃ M : Bool → Hp → Prop, t σ H M ∧ ∀ b H', M b H' → Q b H'
theorem pt_mid (h : PT X c t) : PT X c (tMid t) := ⟨fun pins s σ H Q I ⟨M, hm, hq⟩ => thn (h.run pins s σ H M I hm) fun b s1 ⟨H1, I1, q⟩ => ⟨H1, I1, hq b H1 q⟩⟩
/-- a while over tests whose answer is known; the measure falls -/
theorem while_tv {tc : TT} {tb : TS} {D : Ends} {σ : L2.St} {H : Hp} (Pv : Nat → L2.St → Hp → Prop) (h0 : ∃ m, Pv m σ H)
    (hs : ∀ m σ H, Pv m σ H → ∃ b, TV tc σ H b ∧ (b = true → tb { D with nx := fun σ' H' => ∃ m', m' < m ∧ Pv m' σ' H', ct := fun σ' H' => ∃ m', m' < m ∧ Pv m' σ' H', bk := D.nx } σ H) ∧ (b = false → D.nx σ H)) : tWhile tc tb D σ H := by
  refine ⟨Pv, h0, fun m σ H p => ?_⟩
  obtain ⟨b, tv, h1, h2⟩ := hs m σ H p
  refine tv _ ?_
  cases b with
  | true => rw [if_pos rfl]; exact ⟨_, fun _ _ h => h, h1 rfl⟩
  | false => rw [if_neg Bool.false_ne_true]; exact h2 rfl
end
section
variable {K : PySem.W.Frag} {H : Hp} {Q : VK} {a b p : Addr} {xs ys : List V}
theorem rd_catA (hx : SqT K H a xs) (hy : SqT K H b ys) (h0 : xs ≠ []) (hl : xs.length + ys.length ≤ 1000) (h : ∀ p H', Same H H' → SqT K H' p (xs ++ ys) → Q (.ref p) H') : rCatA K (.ref a) (.ref b) H Q :=
  ⟨a, b, xs, ys, rfl, rfl, hx, hy, Nat.le_of_lt (small1000 hl), fun e => absurd e h0, fun _ e => h a H (Same.refl H) (by rw [e, List.append_nil]; exact hx), fun _ _ p np => h p _ (Same.new np) (SqT.mk upd_same)⟩
/-- t[:k], t[k:] of a tuple, 0 < k < its length -/
theorem to_no {i : Int} {k : Nat} {A : Prop} (e : i = (k : Int)) (hk : k < xs.length) (z : HT.sIx xs.length 0 none = 0 ∧ HT.sIx xs.length xs.length (some i) = xs.length) : A := by
  subst e
  have h := z.2
  rw [HT.sIx_nat, Nat.min_eq_left (Nat.le_of_lt hk)] at h
  omega
theorem cut_to {i : Int} {k : Nat} (e : i = (k : Int)) : cutV xs none (some i) = xs.take k := by subst e; exact cutV_take xs k
theorem cut_from {i : Int} {k : Nat} (e : i = (k : Int)) : cutV xs (some i) none = xs.drop k := by subst e; exact cutV_drop xs k
theorem from_no {i : Int} {k : Nat} {A : Prop} (e : i = (k : Int)) (hk : 0 < k) (h0 : 0 < xs.length) (z : HT.sIx xs.length 0 (some i) = 0 ∧ HT.sIx xs.length xs.length none = xs.length) : A := by
  subst e
  have h := z.1
  rw [HT.sIx_nat] at h
  omega
end
/-! ### a tree of a sign and parts -/
def mkT (s : Str) : List Tr → Tr
  | [] => .c0 s
  | [t] => .c1 s t
  | t :: u :: _ => .c2 s t u
theorem mkT_sym (s : Str) (ks : List Tr) : (mkT s ks).sym = s := by
  match ks with
  | [] => rfl
  | [_] => rfl
  | _ :: _ :: _ => rfl
theorem mkT_kids (s : Str) {ks : List Tr} (h : ks.length ≤ 2) : (mkT s ks).kids = ks := by
  match ks, h with
  | [], _ => rfl
  | [_], _ => rfl
  | [_, _], _ => rfl
  | _ :: _ :: _ :: _, h => simp at h
theorem mkT_wf {sg : Sg} {s : Str} {ks : List Tr} (h : ks.length ≤ 2) (m : (s, (ks.length : Int)) ∈ sg) (hk : ∀ k ∈ ks, Wf sg [] k) : Wf sg [] (mkT s ks) := by
  match ks, h, m, hk with
  | [], _, m, _ => exact m
  | [t], _, m, hk => exact ⟨m, hk t (List.mem_cons_self ..)⟩
  | [t, u], _, m, hk => exact ⟨m, hk t (List.mem_cons_self ..), hk u (List.mem_cons_of_mem _ (List.mem_cons_self ..))⟩
  | _ :: _ :: _ :: _, h, _, _ => simp at h
theorem mkT_dep (s : Str) {ks : List Tr} {d : Nat} (h : ks.length ≤ 2) (hk : ∀ k ∈ ks, k.dep ≤ d) : (mkT s ks).dep ≤ d + 1 := by
  match ks, h, hk with
  | [], _, _ => exact Nat.le_add_left ..
  | [t], _, hk => have := hk t (List.mem_cons_self ..); show 1 + t.dep ≤ d + 1; omega
  | [t, u], _, hk => have := hk t (List.mem_cons_self ..); have := hk u (List.mem_cons_of_mem _ (List.mem_cons_self ..)); show 1 + max t.dep u.dep ≤ d + 1; omega
  | _ :: _ :: _ :: _, h, _ => simp at h
theorem mkT_size (s : Str) {ks : List Tr} (h : ks.length ≤ 2) : (mkT s ks).size = 1 + (ks.map Tr.size).sum := by
  match ks, h with
  | [], _ => rfl
  | [t], _ => rfl
  | [t, u], _ => show 1 + t.size + u.size = 1 + (t.size + (u.size + 0)); omega
  | _ :: _ :: _ :: _, h => simp at h
theorem Tr.eta {t : Tr} (h : Pl t) : mkT t.sym t.kids = t := by
  cases t with
  | nm x => exact h.elim
  | c0 s => rfl
  | c1 s t => rfl
  | c2 s t u => rfl
theorem size_nat {t : Tr} (h : Pl t) : t.size = 1 + (t.kids.map Tr.size).sum := by
  have := mkT_size t.sym t.kids_le
  rw [Tr.eta h] at this
  exact this
theorem sum_swap : ∀ {ks : List Tr} {r : Nat} {k k' : Tr}, ks[r]? = some k → k'.size ≤ k.size + 4 → ((ks.set r k').map Tr.size).sum ≤ (ks.map Tr.size).sum + 4
  | [], _, _, _, h, _ => by simp at h
  | a :: ks, 0, k, k', h, hz => by
    obtain rfl : a = k := Option.some.inj h
    show k'.size + (ks.map Tr.size).sum ≤ a.size + (ks.map Tr.size).sum + 4
    omega
  | a :: ks, r + 1, k, k', h, hz => by
    have := sum_swap (ks := ks) (r := r) (k := k) (k' := k') h hz
    show a.size + ((ks.set r k').map Tr.size).sum ≤ a.size + (ks.map Tr.size).sum + 4
    omega
theorem kids_put {K : PySem.W.Frag} {H : Hp} {us : List V} {ks : List Tr} {r : Nat} {v : V} {k : Tr} (h : KidsAt K H us ks) (hv : TrAt K H k v) : KidsAt K H (us.set r v) (ks.set r k) := by
  induction h generalizing r with
  | nil => exact .nil
  | cons a b ih =>
    cases r with
    | zero => exact .cons hv b
    | succ r => exact .cons a (ih (r := r))
theorem cut_set {us : List V} {x v : V} {r : Nat} (h : r < us.length) : (x :: us).take (1 + r) ++ [v] ++ (x :: us).drop (1 + r + 1) = x :: us.set r v := by
  rw [Nat.add_comm 1 r, List.take_succ_cons, List.drop_succ_cons, List.set_eq_take_append_cons_drop, if_pos h]
  simp
def spChg (K : PySem.W.Frag) (d : Nat) : Sp := fun vs H Q _ => ∃ (a n g : Addr) (sg : Sg) (v : V) (t : Tr) (m : Int), vs = [.ref a, .ref g, v] ∧ StA H a n m ∧ m + 3 * (t.dep : Int) < 600000 ∧ SgAt K H g sg ∧ GSg sg ∧ TrAt K H t v ∧ Wf sg [] t ∧ t.dep ≤ d ∧
  ∀ v' t' H', TrAt K H' t' v' → Wf sg [] t' → t'.dep ≤ t.dep + 4 → t'.size ≤ t.size + 4 → Fr a H H' → StA H' a n (m + 3 * (t.dep : Int) + 15) → Q v' H'
def spRow (K : PySem.W.Frag) : Sp := fun vs H Q _ => ∃ (g : Addr) (sg : Sg) (s : Str) (ar many : Int) (v : V) (t : Tr), vs = [.ref g, .str s, .int ar, .int many, v] ∧ SgAt K H g sg ∧ GSg sg ∧ (s, ar) ∈ sg ∧ 1 ≤ ar ∧ 0 ≤ many ∧ many ≤ 200 ∧ TrAt K H t v ∧ Wf sg [] t ∧
  ∀ v' t' H', TrAt K H' t' v' → Wf sg [] t' → t'.dep ≤ t.dep + many.toNat → t'.size ≤ t.size + 2 * many.toNat → Same H H' → Q v' H'
section
variable {K : PySem.W.Frag} {σ : L2.St} {H : Hp} {Q : VK} {p : Addr} {rs : List Addr} {sg : Sg} {j1 j2 : Nat}
/-- [one for one, own in signs if own == 0] -/
theorem rd_zero {i : Nat} (hi : σ[i]? = some (some (.ref p))) (hS : SqT K H p (rs.map V.ref)) (pr : SgR K H rs sg) (h4 : sg.length ≤ 1000) (hw : ∀ x y, wipe (((wipe σ [j1, j2]).set j1 (some x)).set j2 (some y)) [j1, j2] = wipe σ [j1, j2])
    (hv : ∀ x y, (((wipe σ [j1, j2]).set j1 (some x)).set j2 (some y))[j1]? = some (some x)) (hv2 : ∀ x y, (((wipe σ [j1, j2]).set j1 (some x)).set j2 (some y))[j2]? = some (some y))
    (h : ∀ D H' zs, H D = none → Same H H' → H' D = some (.lst (zs.map V.str)) → zs.length ≤ sg.length → (∀ z ∈ zs, (z, (0 : Int)) ∈ sg) → ((∃ s ∈ sg, s.2 = 0) → zs ≠ []) → Q (.ref D) H') :
    tLc (iTup K (tVar i)) (gTup K 2 (gCons (gName j1) (gCons (gName j2) gNil))) (tTest (tOp rEq (tVar j2) (tC (.int 0)))) (tVar j1) [j1, j2] σ H Q := by
  refine ⟨_, hi, p, rfl, ⟨_, hS⟩, fun D nD => lc_tup (K := K) (xs := rs.map V.ref) (fun i H' => Same H H' ∧ ∃ zs : List Str, H' D = some (.lst (zs.map V.str)) ∧ zs.length ≤ i ∧ (∀ z ∈ zs, (z, (0 : Int)) ∈ sg) ∧ ((∃ s ∈ sg.take i, s.2 = 0) → zs ≠ []))
    ⟨Same.new nD, [], upd_same, Nat.le_refl _, (fun _ h => absurd h List.not_mem_nil), (fun ⟨s, h, _⟩ => by rw [List.take_zero] at h; exact absurd h List.not_mem_nil)⟩ (fun i H' _ iv => TK.same iv.1 _ _ hS) (fun i x H' hx iv => ?_) (fun H' iv => ?_)⟩
  · rw [List.getElem?_map] at hx
    cases e : rs[i]? with
    | none => rw [e] at hx; cases hx
    | some r =>
      rw [e] at hx
      obtain rfl : V.ref r = x := Option.some.inj hx
      obtain ⟨s, es, hr⟩ := paired_get pr e
      obtain ⟨sm, zs, hd, hl, hc, hz⟩ := iv
      have hil : i < sg.length := (List.getElem?_eq_some_iff.mp es).1
      have hs : s ∈ sg := List.mem_of_getElem? es
      refine ⟨r, _, rfl, TK.same sm _ _ hr, rfl, _, _, rfl, _, _, rfl, rfl, hw _ _, ?_⟩
      refine TV.ite (b := decide (V.int s.2 = V.int 0)) (fun Q q => ⟨_, hv2 _ _, rfl, _, rfl, q⟩) (fun e => ?_) (fun e => ?_)
      · have e0 := V.int.inj (of_decide_eq_true e)
        have hlen : (zs.map V.str).length < sizeLine := by rw [List.length_map]; exact small1000 (by omega)
        refine ⟨_, hv _ _, _, hd, hlen, Same.mut nD sm, zs ++ [s.1], by rw [List.map_append]; exact upd_same, by rw [List.length_append, List.length_singleton]; omega, fun t ht => ?_, fun _ => by simp⟩
        rcases List.mem_append.mp ht with q | q
        · exact hc t q
        · rw [List.mem_singleton] at q
          rw [q]
          exact mem_ar hs e0
      · have e0 := of_decide_eq_false e
        refine ⟨sm, zs, hd, by omega, hc, fun ⟨t, ht, h0⟩ => ?_⟩
        rw [take_snoc es] at ht
        rcases List.mem_append.mp ht with q | q
        · exact hz ⟨t, q, h0⟩
        · rw [List.mem_singleton] at q
          subst q
          exact absurd (congrArg V.int h0) e0
  · obtain ⟨sm, zs, hd, hl, hc, hz⟩ := iv
    rw [List.length_map, paired_len pr] at hl hz
    rw [List.take_length] at hz
    exact h D H' zs nD sm hd hl hc hz
end
end Pg

set_option Elab.async false
set_option linter.all false
set_option maxRecDepth 100000
set_option maxHeartbeats 4000000
namespace Pg
open PySem PySem.Spec PyProof.Rows L2
theorem TV.or_left {t u : TT} {σ : L2.St} {H : Hp} (h : TV t σ H true) : TV (tOr t u) σ H true := fun Q q => h _ (by rw [if_pos rfl]; exact q)
/-! ### all trees within a tree, from left to right -/
def pre : Tr → List Tr
  | .nm x => [.nm x]
  | .c0 s => [.c0 s]
  | .c1 s t => .c1 s t :: pre t
  | .c2 s t u => .c2 s t u :: (pre t ++ pre u)
theorem pre_eq (t : Tr) : pre t = t :: t.kids.flatMap pre := by
  cases t with
  | nm x => rfl
  | c0 s => rfl
  | c1 s t => show _ :: pre t = _ :: (pre t ++ []); rw [List.append_nil]
  | c2 s t u => show _ :: (pre t ++ pre u) = _ :: (pre t ++ (pre u ++ [])); rw [List.append_nil]
theorem pre_len : ∀ t : Tr, (pre t).length = t.size
  | .nm _ => rfl
  | .c0 _ => rfl
  | .c1 _ t => by show (pre t).length + 1 = 1 + t.size; rw [pre_len t]; omega
  | .c2 _ t u => by show (pre t ++ pre u).length + 1 = 1 + t.size + u.size; rw [List.length_append, pre_len t, pre_len u]; omega
theorem flat_len : ∀ ts : List Tr, (ts.flatMap pre).length = (ts.map Tr.size).sum
  | [] => rfl
  | t :: ts => by rw [List.flatMap_cons, List.length_append, pre_len, flat_len ts]; rfl
theorem len_le_sum : ∀ ts : List Tr, ts.length ≤ (ts.map Tr.size).sum
  | [] => Nat.le_refl _
  | t :: ts => by have := t.size_pos; have := len_le_sum ts; show ts.length + 1 ≤ t.size + (ts.map Tr.size).sum; omega
theorem sum_rev (ts : List Tr) : (ts.reverse.map Tr.size).sum = (ts.map Tr.size).sum := by
  rw [List.map_reverse]
  exact List.sum_reverse _
theorem paired_snoc {α β : Type} {F : α → β → Prop} {y : β} : ∀ {xs : List α} {ys : List β}, Paired F xs (ys ++ [y]) → ∃ xs' x, xs = xs' ++ [x] ∧ Paired F xs' ys ∧ F x y
  | _, [], h => by
    cases h with
    | cons a b => cases b; exact ⟨[], _, rfl, .nil, a⟩
  | _, z :: ys, h => by
    cases h with
    | cons a b =>
      obtain ⟨xs', x, e, p, q⟩ := paired_snoc b
      exact ⟨_ :: xs', x, by rw [e]; rfl, .cons a p, q⟩
theorem paired_rev {α β : Type} {F : α → β → Prop} : ∀ {xs : List α} {ys : List β}, Paired F xs ys → Paired F xs.reverse ys.reverse
  | _, _, .nil => .nil
  | _, _, .cons a t => by rw [List.reverse_cons, List.reverse_cons]; exact paired_app (paired_rev t) (.cons a .nil)
/-- behind the first node: its parts stand ahead of the rest -/
def rest : List Tr → List Tr
  | [] => []
  | t :: ts => t.kids ++ ts
def restN : Nat → List Tr → List Tr
  | 0, ts => ts
  | n + 1, ts => rest (restN n ts)
theorem rest_flat (ts : List Tr) : (rest ts).flatMap pre = (ts.flatMap pre).drop 1 := by
  cases ts with
  | nil => rfl
  | cons t ts =>
    show (t.kids ++ ts).flatMap pre = ((t :: ts).flatMap pre).drop 1
    rw [List.flatMap_append, List.flatMap_cons, pre_eq t]
    rfl
theorem restN_flat : ∀ (n : Nat) (ts : List Tr), (restN n ts).flatMap pre = (ts.flatMap pre).drop n
  | 0, _ => rfl
  | n + 1, ts => by
    show (rest (restN n ts)).flatMap pre = _
    rw [rest_flat, restN_flat n ts, List.drop_drop]
/-- at the j-th node: the forest from there on begins with it -/
theorem restN_at {t k : Tr} {j : Nat} (h : (pre t)[j]? = some k) : ∃ G, restN j [t] = k :: G := by
  have e : (restN j [t]).flatMap pre = (pre t).drop j := by
    rw [restN_flat, List.flatMap_cons]
    simp
  have hlt : j < (pre t).length := (List.getElem?_eq_some_iff.mp h).1
  cases q : restN j [t] with
  | nil =>
    rw [q] at e
    have := congrArg List.length e
    rw [List.length_drop] at this
    simp at this
    omega
  | cons k' G =>
    refine ⟨G, ?_⟩
    rw [q, List.flatMap_cons, pre_eq k'] at e
    have h0 := congrArg (fun l => l[0]?) e
    have h1 : ((pre t).drop j)[0]? = some k := by rw [List.getElem?_drop]; exact h
    have h2 : some k' = some k := by
      rw [h1] at h0
      exact h0
    rw [Option.some.inj h2]
theorem restN_end (t : Tr) : restN t.size [t] = [] := by
  have e : (restN t.size [t]).flatMap pre = (pre t).drop t.size := by
    rw [restN_flat, List.flatMap_cons]
    simp
  rw [← pre_len t, List.drop_length] at e
  rw [← pre_len t]
  cases q : restN (pre t).length [t] with
  | nil => rfl
  | cons k G =>
    rw [q, List.flatMap_cons, pre_eq k] at e
    cases e
theorem Pl.pre : ∀ {t k : Tr}, Pl t → k ∈ pre t → Pl k
  | .nm _, _, h, _ => h.elim
  | .c0 s, k, h, m => by rw [show Pg.pre (.c0 s) = [.c0 s] from rfl, List.mem_singleton] at m; rw [m]; exact h
  | .c1 s t, k, h, m => by
    rcases List.mem_cons.mp (show k ∈ Tr.c1 s t :: Pg.pre t from m) with e | e
    · rw [e]; exact h
    · exact Pl.pre (t := t) h e
  | .c2 s t u, k, h, m => by
    rcases List.mem_cons.mp (show k ∈ Tr.c2 s t u :: (Pg.pre t ++ Pg.pre u) from m) with e | e
    · rw [e]; exact h
    · rcases List.mem_append.mp e with e | e
      · exact Pl.pre (t := t) h.1 e
      · exact Pl.pre (t := u) h.2 e
theorem Wf.pre {sg : Sg} : ∀ {t k : Tr}, Wf sg [] t → k ∈ pre t → Wf sg [] k
  | .nm _, _, h, _ => absurd h List.not_mem_nil
  | .c0 s, k, h, m => by rw [show Pg.pre (.c0 s) = [.c0 s] from rfl, List.mem_singleton] at m; rw [m]; exact h
  | .c1 s t, k, h, m => by
    rcases List.mem_cons.mp (show k ∈ Tr.c1 s t :: Pg.pre t from m) with e | e
    · rw [e]; exact h
    · exact Wf.pre (t := t) h.2 e
  | .c2 s t u, k, h, m => by
    rcases List.mem_cons.mp (show k ∈ Tr.c2 s t u :: (Pg.pre t ++ Pg.pre u) from m) with e | e
    · rw [e]; exact h
    · rcases List.mem_append.mp e with e | e
      · exact Wf.pre (t := t) h.2.1 e
      · exact Wf.pre (t := u) h.2.2 e
/-- the pair that the program makes of a node -/
def pairD (sg : Sg) (k : Tr) : PyData := .tuple [.int k.size, .int (place sg k.sym)]
def spNodes (K : PySem.W.Frag) : Sp := fun vs H Q _ => ∃ (v : V) (t : Tr), vs = [v, .non] ∧ TrAt K H t v ∧ Pl t ∧ t.size ≤ 1000 ∧ ∀ p H' ws, Same H H' → H' p = some (.lst ws) → KidsAt K H' ws (pre t) → Q (.ref p) H'
def spPlace (K : PySem.W.Frag) : Sp := fun vs H Q _ => ∃ (g : Addr) (sg : Sg) (s : Str), vs = [.ref g, .str s] ∧ SgAt K H g sg ∧ GSg sg ∧ s ∈ sg.map (·.1) ∧ ∀ H', Same H H' → Q (.int (place sg s : Nat)) H'
def spOkey (K : PySem.W.Frag) : Sp := fun vs H Q _ => ∃ (g : Addr) (sg : Sg) (v : V) (t : Tr), vs = [.ref g, v] ∧ SgAt K H g sg ∧ GSg sg ∧ TrAt K H t v ∧ Wf sg [] t ∧ t.size ≤ 1000 ∧ ∀ p H', Same H H' → Dp K H' (.ref p) (.list ((pre t).map (pairD sg))) → Q (.ref p) H'
theorem tyX_tup {K : PySem.W.Frag} {H : Hp} {p : Addr} {xs : List V} (h : SqT K H p xs) : TyX K H (.ref p) (.type "tuple") := by
  rcases h with (h | ⟨o, h⟩) | h
  · exact .base (.tup h)
  · exact .fTuple h
  · obtain ⟨o, its, n, e, c, _⟩ := h
    exact .kTuple e c
theorem hu_n {k n : Nat} {A : Around} (r : Room k A) (h : n ≤ 200) : A.units + n < cLine := by have := r.un; omega
theorem hu_n1 {k : Nat} {A : Around} (r : Room k A) : A.units + 70 + 1 < cLine := by have := r.un; omega
/-- a def with one default None, called without it -/
theorem mk_cal1 {P : Program} {w : World} {K : PySem.W.Frag} {mg : Str → Option Value} {base : Heap} {x : Str} {st : Stmt} {f : Addr} {fd : FuncData} {N ps : List Str} {k n : Nat} {sp : Sp} (F : FunD K x x (defArgs st) (defBody st) (defScope st) [.non] [] f fd) (hm : mg x = some (.ref f)) (S : FnScope N ps (defScope st)) (hn : n + 1 = ps.length)
    (hb : ∀ (T : Addr) (kV doc pm : Value) (an : Option Addr) (cdv ct : Value) (us its : List Value), us.length = n → its.length = 1 → ∃ k, bindArgs (PySem.W.fnOf x x (defArgs st) (defBody st) (defScope st) (.ref T) kV doc pm an cdv ct) ⟨us, []⟩ = seqItems? (.ref T) >>= k ∧ k (some its.toArray) = pure (ps.zip (us ++ its.drop 0)))
    (len : ∀ vs H Q E, sp vs H Q E → vs.length = ps.length)
    (body : ∀ (cdv : Value) (A : Around) (outer : List Env) (s : Shared) (H : Hp) (vs : List V) (Q : VK) (E : XK), Room k (A.deeper (envOfC x (defScope st) s.heap.objs.size f cdv)) → sp vs H Q E →
      ∃ t, PSs (cxOf CX0 P w K mg base N x (defScope st) f cdv A outer s H E).nox (defBody st) t ∧ t { nx := fun _ H' => Q .non H', rt := Q } (start N vs) H) : Cal P w K mg base (k + 1) x sp [.non] := by
  obtain ⟨ds, hv, hbn⟩ := F.binds1 (ps := ps) n 0 (by simp) (by simpa using hn) (fun T kV doc pm an cdv ct us its h1 h2 => hb T kV doc pm an cdv ct us its h1 (by simpa using h2))
  exact ⟨f, fd, ps, ds, F.ok S len (fun cdv A outer s H vs Q E hr h => let ⟨t, a, b⟩ := body cdv A outer s H vs Q E hr h; ⟨t, a.nox, b⟩), hm, F.kp, hbn, hv⟩
end Pg

set_option Elab.async false
set_option linter.all false
set_option maxRecDepth 100000
set_option maxHeartbeats 4000000
namespace Pg
open PySem PySem.Spec PyProof.Rows L2 PySem.W
abbrev Tk := Int ⊕ List Nat
/-- the first difference of two rows of signs is that of two numbers -/
def Dif (a b : List Tk) (p q : Int) : Prop := ∃ l x y, a = l ++ Sum.inl p :: x ∧ b = l ++ Sum.inl q :: y
theorem Dif.pre {a b : List Tk} {p q : Int} (c : List Tk) (h : Dif a b p q) : Dif (c ++ a) (c ++ b) p q := by
  obtain ⟨l, x, y, rfl, rfl⟩ := h
  exact ⟨c ++ l, x, y, by rw [List.append_assoc], by rw [List.append_assoc]⟩
theorem Dif.app {a b : List Tk} {p q : Int} (c d : List Tk) (h : Dif a b p q) : Dif (a ++ c) (b ++ d) p q := by
  obtain ⟨l, x, y, rfl, rfl⟩ := h
  exact ⟨l, x ++ c, y ++ d, by simp, by simp⟩
theorem Dif.lt {a b : List Tk} {p q : Int} (h : Dif a b p q) (hne : p ≠ q) : lexLt itemOrd a b = decide (p < q) := by
  obtain ⟨l, x, y, rfl, rfl⟩ := h
  rw [lex_pre]
  exact lex_diff (O := itemOrd) (fun e => hne (Sum.inl.inj e))
theorem Dif.swap {a b : List Tk} {p q : Int} (h : Dif a b p q) : Dif b a q p := by
  obtain ⟨l, x, y, e, f⟩ := h
  exact ⟨l, y, x, f, e⟩
theorem Dif.ne {a b : List Tk} {p q : Int} (h : Dif a b p q) (hne : p ≠ q) : a ≠ b := by
  obtain ⟨l, x, y, rfl, rfl⟩ := h
  intro e
  have := List.append_cancel_left e
  injection this with h1 h2
  exact hne (Sum.inl.inj h1)
/-- the signs of the nodes of a tree, from left to right -/
def nt (sg : Sg) (k : Tr) : List Tk := [.inl 1, .inl 1, .inl k.size, .inl 1, .inl (place sg k.sym), .inl 0]
def pt (sg : Sg) (t : Tr) : List Tk := (pre t).flatMap (nt sg)
theorem toks_pair (sg : Sg) (k : Tr) : Sum.inl 1 :: keyToks (pairD sg k) = nt sg k := rfl
theorem toks_pairs (sg : Sg) : ∀ ks : List Tr, keyToksAll (ks.map (pairD sg)) = ks.flatMap (nt sg) ++ [.inl 0]
  | [] => rfl
  | k :: ks => by
    rw [List.map_cons, keyToksAll, toks_pairs sg ks, List.flatMap_cons, List.append_assoc]
    rfl
theorem toks_ok (sg : Sg) (t : Tr) : keyToks (.list ((pre t).map (pairD sg))) = pt sg t ++ [.inl 0] := by
  rw [keyToks]
  exact toks_pairs sg _
theorem pt_eq (sg : Sg) (t : Tr) : pt sg t = nt sg t ++ t.kids.flatMap (pt sg) := by
  show (pre t).flatMap (nt sg) = _
  rw [pre_eq, List.flatMap_cons]
  congr 1
  induction t.kids with
  | nil => rfl
  | cons k ks ih => rw [List.flatMap_cons, List.flatMap_append, ih]; rfl
theorem toks_key (sg : Sg) {t : Tr} (h : Pl t) : keyToks (keyD sg t) = [.inl 1, .inl t.size, .inl 1, .inl (place sg t.sym)] ++ keyToksAll (t.kids.map (keyD sg)) := by
  rw [keyD_eq sg h, keyToks, keyToksAll, keyToksAll, keyToks, keyToks]
  rfl
def Df (sg : Sg) (t u : Tr) : Prop := ∃ p q : Int, p ≠ q ∧ Dif (keyToks (keyD sg t)) (keyToks (keyD sg u)) p q ∧ Dif (pt sg t) (pt sg u) p q
theorem Wf.mem {sg : Sg} {t : Tr} (h : Wf sg [] t) : t.sym ∈ sg.map (·.1) := List.mem_map.mpr ⟨_, h.sym, rfl⟩
theorem place_inj {sg : Sg} {x y : Str} (hx : x ∈ sg.map (·.1)) (hy : y ∈ sg.map (·.1)) (e : place sg x = place sg y) : x = y := by
  have h1 := (place_at hx).2.1
  have h2 := (place_at hy).2.1
  rw [e, h2] at h1
  cases h1
  rfl
theorem ar_eq' {x : Str} {i j : Int} : ∀ {sg : Sg}, (sg.map (·.1)).Nodup → (x, i) ∈ sg → (x, j) ∈ sg → i = j
  | [], _, h, _ => absurd h List.not_mem_nil
  | s :: sg, nd, h1, h2 => by
    rw [List.map_cons, List.nodup_cons] at nd
    rcases List.mem_cons.mp h1 with e1 | e1
    · rcases List.mem_cons.mp h2 with e2 | e2
      · rw [← e2] at e1
        exact (Prod.mk.inj e1).2
      · exact absurd (List.mem_map.mpr ⟨_, e2, by rw [← e1]⟩) nd.1
    · rcases List.mem_cons.mp h2 with e2 | e2
      · exact absurd (List.mem_map.mpr ⟨_, e1, by rw [← e2]⟩) nd.1
      · exact ar_eq' nd.2 e1 e2
theorem ar_eq {sg : Sg} (g : GSg sg) {x : Str} {i j : Int} (h1 : (x, i) ∈ sg) (h2 : (x, j) ∈ sg) : i = j := ar_eq' g.nd h1 h2
/-- size and sign are the same, or they tell the two apart -/
theorem hd_cases {sg : Sg} (g : GSg sg) {t u : Tr} (ht : Wf sg [] t) (hu : Wf sg [] u) : (t.size = u.size ∧ t.sym = u.sym ∧ t.kids.length = u.kids.length) ∨ Df sg t u := by
  have kt := toks_key sg ht.pl
  have ku := toks_key sg hu.pl
  have qt := pt_eq sg t
  have qu := pt_eq sg u
  by_cases h1 : t.size = u.size
  · by_cases h2 : place sg t.sym = place sg u.sym
    · have e := place_inj ht.mem hu.mem h2
      refine .inl ⟨h1, e, ?_⟩
      have a := ht.sym
      have b := hu.sym
      rw [e] at a
      have := ar_eq g a b
      omega
    · refine .inr ⟨place sg t.sym, place sg u.sym, fun z => h2 (by omega), ?_, ?_⟩
      · rw [kt, ku, h1]
        exact ⟨[.inl 1, .inl u.size, .inl 1], _, _, rfl, rfl⟩
      · rw [qt, qu]
        unfold nt
        rw [h1]
        exact ⟨[.inl 1, .inl 1, .inl u.size, .inl 1], _, _, rfl, rfl⟩
  · refine .inr ⟨t.size, u.size, fun z => h1 (by omega), ?_, ?_⟩
    · rw [kt, ku]
      exact ⟨[.inl 1], _, _, rfl, rfl⟩
    · rw [qt, qu]
      exact ⟨[.inl 1, .inl 1], _, _, rfl, rfl⟩
theorem dif {sg : Sg} (g : GSg sg) : ∀ {t u : Tr}, Wf sg [] t → Wf sg [] u → t = u ∨ Df sg t u
  | .nm _, _, h, _ => absurd h List.not_mem_nil
  | .c0 s, u, ht, hu => by
    rcases hd_cases g ht hu with ⟨h1, h2, h3⟩ | h
    · cases u with
      | nm x => exact absurd hu List.not_mem_nil
      | c0 s' => exact .inl (by rw [show s = s' from h2])
      | c1 s' t' => cases h3
      | c2 s' t' u' => cases h3
    · exact .inr h
  | .c1 s t, u, ht, hu => by
    rcases hd_cases g ht hu with ⟨h1, h2, h3⟩ | h
    · cases u with
      | nm x => exact absurd hu List.not_mem_nil
      | c0 s' => cases h3
      | c1 s' t' =>
        obtain rfl : s = s' := h2
        rcases dif g (t := t) (u := t') ht.2 hu.2 with e | ⟨p, q, hne, d1, d2⟩
        · exact .inl (by rw [e])
        · refine .inr ⟨p, q, hne, ?_, ?_⟩
          · rw [toks_key sg ht.pl, toks_key sg hu.pl, h1]
            exact ((d1.app [.inl 0] [.inl 0]).pre [.inl 1]).pre _
          · rw [pt_eq sg (.c1 s t), pt_eq sg (.c1 s t')]
            unfold nt
            rw [h1]
            exact (d2.app [] []).pre _
      | c2 s' t' u' => cases h3
    · exact .inr h
  | .c2 s t v, u, ht, hu => by
    rcases hd_cases g ht hu with ⟨h1, h2, h3⟩ | h
    · cases u with
      | nm x => exact absurd hu List.not_mem_nil
      | c0 s' => cases h3
      | c1 s' t' => cases h3
      | c2 s' t' v' =>
        obtain rfl : s = s' := h2
        rcases dif g (t := t) (u := t') ht.2.1 hu.2.1 with e | ⟨p, q, hne, d1, d2⟩
        · subst e
          rcases dif g (t := v) (u := v') ht.2.2 hu.2.2 with e | ⟨p, q, hne, d1, d2⟩
          · exact .inl (by rw [e])
          · refine .inr ⟨p, q, hne, ?_, ?_⟩
            · rw [toks_key sg ht.pl, toks_key sg hu.pl, h1]
              exact (((((d1.app [.inl 0] [.inl 0]).pre [.inl 1]).pre _).pre [.inl 1])).pre _
            · rw [pt_eq sg (.c2 s t v), pt_eq sg (.c2 s t v')]
              unfold nt
              rw [h1]
              exact ((d2.app [] []).pre _).pre _
        · refine .inr ⟨p, q, hne, ?_, ?_⟩
          · rw [toks_key sg ht.pl, toks_key sg hu.pl, h1]
            exact ((d1.app _ _).pre [.inl 1]).pre _
          · rw [pt_eq sg (.c2 s t v), pt_eq sg (.c2 s t' v')]
            unfold nt
            rw [h1]
            exact (d2.app _ _).pre _
    · exact .inr h
theorem key_dep (sg : Sg) : ∀ t : Tr, Pl t → (keyD sg t).depth ≤ t.dep
  | .nm _, h => h.elim
  | .c0 s, _ => by show (PyData.tuple [.int 1, .int (place sg s)]).depth ≤ 1; simp [PyData.depth, PyData.depthAll]
  | .c1 s t, h => by
    have := key_dep sg t h
    show (PyData.tuple [.int (Tr.c1 s t).size, .int (place sg s), keyD sg t]).depth ≤ 1 + t.dep
    simp only [PyData.depth, PyData.depthAll]
    omega
  | .c2 s t u, h => by
    have := key_dep sg t h.1
    have := key_dep sg u h.2
    show (PyData.tuple [.int (Tr.c2 s t u).size, .int (place sg s), keyD sg t, keyD sg u]).depth ≤ 1 + max t.dep u.dep
    simp only [PyData.depth, PyData.depthAll]
    omega
theorem alike_tup {a b : Int} {c d : Int} {ks ls : List PyData} (h : alikeAll ks ls = true) : alike (.tuple (.int a :: .int b :: ks)) (.tuple (.int c :: .int d :: ls)) = true := by
  rw [alike, alikeAll, alikeAll, h]
  rfl
theorem key_alike (sg : Sg) : ∀ t u : Tr, Pl t → Pl u → alike (keyD sg t) (keyD sg u) = true
  | .nm _, _, h, _ => h.elim
  | t, .nm _, _, h => h.elim
  | .c0 _, .c0 _, _, _ => alike_tup rfl
  | .c0 _, .c1 _ _, _, _ => alike_tup rfl
  | .c0 _, .c2 _ _ _, _, _ => alike_tup rfl
  | .c1 _ _, .c0 _, _, _ => alike_tup rfl
  | .c2 _ _ _, .c0 _, _, _ => alike_tup rfl
  | .c1 _ t, .c1 _ u, h, h' => alike_tup (by rw [alikeAll, key_alike sg t u h h']; rfl)
  | .c1 _ t, .c2 _ u v, h, h' => alike_tup (by rw [alikeAll, key_alike sg t u h h'.1]; rfl)
  | .c2 _ t v, .c1 _ u, h, h' => alike_tup (by rw [alikeAll, key_alike sg t u h.1 h']; rfl)
  | .c2 _ t v, .c2 _ u x, h, h' => alike_tup (by rw [alikeAll, alikeAll, key_alike sg t u h.1 h'.1, key_alike sg v x h.2 h'.2]; rfl)
theorem key_non (sg : Sg) {t : Tr} (h : Pl t) : keyD sg t ≠ .none := by rw [keyD_eq sg h]; intro e; cases e
end Pg

set_option Elab.async false
set_option linter.all false
set_option maxRecDepth 100000
set_option maxHeartbeats 4000000
namespace Pg
open PySem PySem.Spec PyProof.Rows L2
/-! ### how many trees there are of each size, and the trees, size by size -/
def co1 (C : List Nat) (ar : Int) (m : Nat) : Nat := if ar = 0 then (if m = 1 then 1 else 0) else if ar = 1 then C.getD (m - 1) 0 else ((List.range (m - 2)).map fun i => C.getD (i + 1) 0 * C.getD (m - 2 - i) 0).sum
def co (sg : Sg) (C : List Nat) (m : Nat) : Nat := (sg.map fun s => co1 C s.2 m).sum
def cl (sg : Sg) : Nat → List Nat
  | 0 => [0]
  | n + 1 => cl sg n ++ [co sg (cl sg n) (n + 1)]
def ct (sg : Sg) (n : Nat) : Nat := (cl sg n).getD n 0
def pr (s : Str) (B : List (List Tr)) (m : Nat) : List Tr := (List.range (m - 2)).flatMap fun i => (B.getD (i + 1) []).flatMap fun t => (B.getD (m - 2 - i) []).map fun u => Tr.c2 s t u
def ov1 (s : Str × Int) (B : List (List Tr)) (m : Nat) : List Tr := if s.2 = 0 then (if m = 1 then [.c0 s.1] else []) else if s.2 = 1 then (B.getD (m - 1) []).map (Tr.c1 s.1) else pr s.1 B m
def ov (sg : Sg) (B : List (List Tr)) (m : Nat) : List Tr := sg.flatMap fun s => ov1 s B m
def bl (sg : Sg) : Nat → List (List Tr)
  | 0 => [[]]
  | n + 1 => bl sg n ++ [ov sg (bl sg n) (n + 1)]
def ts (sg : Sg) (n : Nat) : List Tr := (bl sg n).getD n []
theorem cl_len (sg : Sg) : ∀ n, (cl sg n).length = n + 1
  | 0 => rfl
  | n + 1 => by show (cl sg n ++ [_]).length = _; rw [List.length_append, cl_len sg n]; rfl
theorem bl_len (sg : Sg) : ∀ n, (bl sg n).length = n + 1
  | 0 => rfl
  | n + 1 => by show (bl sg n ++ [_]).length = _; rw [List.length_append, bl_len sg n]; rfl
theorem getD_app {α : Type} {l : List α} {x d : α} {k : Nat} (h : k < l.length) : (l ++ [x]).getD k d = l.getD k d := by
  rw [List.getD_eq_getElem?_getD, List.getD_eq_getElem?_getD, List.getElem?_append_left h]
theorem getD_last {α : Type} {l : List α} {x d : α} {k : Nat} (h : k = l.length) : (l ++ [x]).getD k d = x := by
  rw [List.getD_eq_getElem?_getD, List.getElem?_append_right (by omega), h, Nat.sub_self]; rfl
theorem cl_get (sg : Sg) : ∀ {n k : Nat}, k ≤ n → (cl sg n).getD k 0 = ct sg k
  | 0, k, h => by obtain rfl : k = 0 := by omega
                  rfl
  | n + 1, k, h => by
    by_cases e : k = n + 1
    · subst e; rfl
    · show (cl sg n ++ [_]).getD k 0 = _
      rw [getD_app (by rw [cl_len]; omega)]
      exact cl_get sg (by omega)
theorem bl_get (sg : Sg) : ∀ {n k : Nat}, k ≤ n → (bl sg n).getD k [] = ts sg k
  | 0, k, h => by obtain rfl : k = 0 := by omega
                  rfl
  | n + 1, k, h => by
    by_cases e : k = n + 1
    · subst e; rfl
    · show (bl sg n ++ [_]).getD k [] = _
      rw [getD_app (by rw [bl_len]; omega)]
      exact bl_get sg (by omega)
theorem ct_succ (sg : Sg) (n : Nat) : ct sg (n + 1) = co sg (cl sg n) (n + 1) := getD_last (by rw [cl_len])
theorem ts_succ (sg : Sg) (n : Nat) : ts sg (n + 1) = ov sg (bl sg n) (n + 1) := getD_last (by rw [bl_len])
theorem sum_len {α β : Type} (f : α → List β) : ∀ l : List α, (l.flatMap f).length = (l.map fun a => (f a).length).sum
  | [] => rfl
  | a :: l => by rw [List.flatMap_cons, List.length_append, sum_len f l]; rfl
theorem sum_const {α : Type} (c : Nat) : ∀ l : List α, (l.map fun _ => c).sum = l.length * c
  | [] => by simp
  | a :: l => by rw [List.map_cons, List.sum_cons, sum_const c l, List.length_cons, Nat.add_mul]; omega
theorem pr_len (s : Str) (B : List (List Tr)) (m : Nat) (C : List Nat) (h : ∀ k, (B.getD k []).length = C.getD k 0) : (pr s B m).length = ((List.range (m - 2)).map fun i => C.getD (i + 1) 0 * C.getD (m - 2 - i) 0).sum := by
  unfold pr
  rw [sum_len]
  congr 1
  refine List.map_congr_left fun i _ => ?_
  rw [sum_len]
  simp only [List.length_map]
  rw [sum_const, h, h]
theorem ov_len (sg : Sg) (B : List (List Tr)) (m : Nat) (C : List Nat) (h : ∀ k, (B.getD k []).length = C.getD k 0) : (ov sg B m).length = co sg C m := by
  unfold ov co
  rw [sum_len]
  congr 1
  refine List.map_congr_left fun s _ => ?_
  unfold ov1 co1
  by_cases h0 : s.2 = 0
  · rw [if_pos h0, if_pos h0]
    by_cases h1 : m = 1
    · rw [if_pos h1, if_pos h1]; rfl
    · rw [if_neg h1, if_neg h1]; rfl
  · rw [if_neg h0, if_neg h0]
    by_cases h1 : s.2 = 1
    · rw [if_pos h1, if_pos h1, List.length_map, h]
    · rw [if_neg h1, if_neg h1, pr_len _ _ _ _ h]
theorem bl_cl (sg : Sg) : ∀ n k, ((bl sg n).getD k []).length = (cl sg n).getD k 0
  | 0, k => by
    cases k with
    | zero => rfl
    | succ k => rfl
  | n + 1, k => by
    show ((bl sg n ++ [_]).getD k []).length = (cl sg n ++ [_]).getD k 0
    by_cases h : k < n + 1
    · rw [getD_app (by rw [bl_len]; exact h), getD_app (by rw [cl_len]; exact h)]
      exact bl_cl sg n k
    · by_cases e : k = n + 1
      · rw [getD_last (by rw [bl_len]; exact e), getD_last (by rw [cl_len]; exact e)]
        exact ov_len sg _ _ _ (bl_cl sg n)
      · rw [List.getD_eq_getElem?_getD, List.getD_eq_getElem?_getD, List.getElem?_eq_none (by rw [List.length_append, bl_len]; simp; omega), List.getElem?_eq_none (by rw [List.length_append, cl_len]; simp; omega)]
        rfl
theorem ts_len (sg : Sg) (n : Nat) : (ts sg n).length = ct sg n := bl_cl sg n n
/-! #### the numbers grow -/
theorem mem_le_sum : ∀ {l : List Nat} {x : Nat}, x ∈ l → x ≤ l.sum
  | a :: l, x, h => by
    rw [List.sum_cons]
    rcases List.mem_cons.mp h with e | e
    · omega
    · have := mem_le_sum e; omega
theorem co_ge {sg : Sg} {C : List Nat} {m : Nat} {s : Str × Int} (h : s ∈ sg) : co1 C s.2 m ≤ co sg C m := mem_le_sum (List.mem_map.mpr ⟨s, h, rfl⟩)
theorem ct0 (sg : Sg) : ct sg 0 = 0 := rfl
theorem ct1 {sg : Sg} (g : GSg sg) : 1 ≤ ct sg 1 := by
  obtain ⟨s, hs, e⟩ := g.c0
  rw [ct_succ]
  refine Nat.le_trans ?_ (co_ge hs)
  unfold co1
  rw [if_pos e, if_pos rfl]
  exact Nat.le_refl _
theorem ct_up1 {sg : Sg} {s : Str × Int} (hs : s ∈ sg) (e : s.2 = 1) (n : Nat) : ct sg n ≤ ct sg (n + 1) := by
  rw [ct_succ]
  refine Nat.le_trans ?_ (co_ge hs)
  unfold co1
  rw [if_neg (by rw [e]; decide), if_pos e, Nat.add_sub_cancel, cl_get sg (Nat.le_refl _)]
  exact Nat.le_refl _
theorem ct_up2 {sg : Sg} (g : GSg sg) {s : Str × Int} (hs : s ∈ sg) (e : s.2 = 2) (n : Nat) : ct sg n ≤ ct sg (n + 2) := by
  cases n with
  | zero => rw [ct0]; exact Nat.zero_le _
  | succ n =>
    rw [ct_succ sg (n + 2)]
    refine Nat.le_trans ?_ (co_ge hs)
    unfold co1
    rw [if_neg (by rw [e]; decide), if_neg (by rw [e]; decide)]
    refine Nat.le_trans ?_ (mem_le_sum (List.mem_map.mpr ⟨0, List.mem_range.mpr (by omega), rfl⟩))
    rw [cl_get sg (by omega), cl_get sg (by omega)]
    have := ct1 g
    show ct sg (n + 1) ≤ ct sg 1 * ct sg (n + 1)
    exact Nat.le_trans (by omega) (Nat.mul_le_mul_right _ this)
theorem sum_zero : ∀ {l : List Nat}, (∀ x ∈ l, x = 0) → l.sum = 0
  | [], _ => rfl
  | a :: l, h => by rw [List.sum_cons, h a List.mem_cons_self, sum_zero fun x hx => h x (List.mem_cons_of_mem _ hx)]
theorem co_zero {sg : Sg} {C : List Nat} {m : Nat} (h : ∀ s ∈ sg, co1 C s.2 m = 0) : co sg C m = 0 := sum_zero fun x hx => by
  obtain ⟨s, hs, rfl⟩ := List.mem_map.mp hx
  exact h s hs
theorem ct_even {sg : Sg} (h : ∀ s ∈ sg, s.2 ≠ 1) : ∀ n, n % 2 = 0 → ct sg n = 0 := by
  intro n
  induction n using Nat.strongRecOn with
  | ind n ih =>
    intro hn
    cases n with
    | zero => rfl
    | succ n =>
      rw [ct_succ]
      refine co_zero fun s hs => ?_
      unfold co1
      by_cases h0 : s.2 = 0
      · rw [if_pos h0, if_neg (by omega)]
      · rw [if_neg h0, if_neg (h s hs)]
        refine sum_zero fun x hx => ?_
        obtain ⟨i, hi, rfl⟩ := List.mem_map.mp hx
        have hi := List.mem_range.mp hi
        rw [cl_get sg (by omega), cl_get sg (by omega)]
        by_cases hp : (i + 1) % 2 = 0
        · rw [ih (i + 1) (by omega) hp, Nat.zero_mul]
        · rw [ih (n + 1 - 2 - i) (by omega) (by omega), Nat.mul_zero]
theorem ct_none {sg : Sg} (h : ∀ s ∈ sg, s.2 = 0) (n : Nat) (hn : 2 ≤ n) : ct sg n = 0 := by
  obtain ⟨m, rfl⟩ : ∃ m, n = m + 1 := ⟨n - 1, by omega⟩
  rw [ct_succ]
  refine co_zero fun s hs => ?_
  unfold co1
  rw [if_pos (h s hs), if_neg (by omega)]
/-- fewer trees of a lesser size -/
theorem ct_mono {sg : Sg} (g : GSg sg) {n : Nat} (hn : ct sg n ≠ 0) : ∀ {k : Nat}, k ≤ n → ct sg k ≤ ct sg n := by
  intro k hk
  by_cases h1 : ∃ s ∈ sg, s.2 = 1
  · obtain ⟨s, hs, e⟩ := h1
    have : ∀ j, ct sg k ≤ ct sg (k + j) := fun j => by
      induction j with
      | zero => exact Nat.le_refl _
      | succ j ih => exact Nat.le_trans ih (ct_up1 hs e _)
    have := this (n - k)
    rw [show k + (n - k) = n by omega] at this
    exact this
  · have h1' : ∀ s ∈ sg, s.2 ≠ 1 := fun s hs e => h1 ⟨s, hs, e⟩
    by_cases hk2 : k % 2 = 0
    · rw [ct_even h1' k hk2]; exact Nat.zero_le _
    · have hn2 : n % 2 ≠ 0 := fun z => hn (ct_even h1' n z)
      by_cases h2 : ∃ s ∈ sg, s.2 = 2
      · obtain ⟨s, hs, e⟩ := h2
        have : ∀ j, ct sg k ≤ ct sg (k + 2 * j) := fun j => by
          induction j with
          | zero => exact Nat.le_refl _
          | succ j ih => exact Nat.le_trans ih (ct_up2 g hs e _)
        have := this ((n - k) / 2)
        rw [show k + 2 * ((n - k) / 2) = n by omega] at this
        exact this
      · have h0 : ∀ s ∈ sg, s.2 = 0 := fun s hs => by
          have := g.ar s hs
          have := h1' s hs
          have : s.2 ≠ 2 := fun e => h2 ⟨s, hs, e⟩
          omega
        by_cases hn1 : n ≤ 1
        · rw [show k = n by omega]; exact Nat.le_refl _
        · exact absurd (ct_none h0 n (by omega)) hn
end Pg

set_option Elab.async false
set_option linter.all false
set_option maxRecDepth 100000
set_option maxHeartbeats 4000000
namespace Pg
open PySem PySem.Spec PyProof.Rows L2 PySem.W
/-! ### the trees of a size: what they are, and that they stand in order -/
theorem mem_bl {sg : Sg} {n k : Nat} {t : Tr} (hk : k ≤ n) (h : t ∈ (bl sg n).getD k []) : t ∈ ts sg k := by rw [← bl_get sg hk]; exact h
theorem mem_ov1 {sg : Sg} {n : Nat} {s : Str × Int} {t : Tr} (ha : 0 ≤ s.2 ∧ s.2 ≤ 2) (h : t ∈ ov1 s (bl sg n) (n + 1)) :
    (s.2 = 0 ∧ n = 0 ∧ t = .c0 s.1) ∨ (s.2 = 1 ∧ ∃ u ∈ ts sg n, t = .c1 s.1 u) ∨ (s.2 = 2 ∧ ∃ i, i + 1 < n ∧ ∃ u ∈ ts sg (i + 1), ∃ v ∈ ts sg (n - 1 - i), t = .c2 s.1 u v) := by
  unfold ov1 at h
  by_cases h0 : s.2 = 0
  · rw [if_pos h0] at h
    by_cases h1 : n + 1 = 1
    · rw [if_pos h1, List.mem_singleton] at h
      exact .inl ⟨h0, by omega, h⟩
    · rw [if_neg h1] at h
      cases h
  · rw [if_neg h0] at h
    by_cases h1 : s.2 = 1
    · rw [if_pos h1] at h
      obtain ⟨u, hu, e⟩ := List.mem_map.mp h
      exact .inr (.inl ⟨h1, u, mem_bl (Nat.le_refl _) hu, e.symm⟩)
    · rw [if_neg h1] at h
      obtain ⟨i, hi, h⟩ := List.mem_flatMap.mp h
      obtain ⟨u, hu, h⟩ := List.mem_flatMap.mp h
      obtain ⟨v, hv, e⟩ := List.mem_map.mp h
      have hi := List.mem_range.mp hi
      refine .inr (.inr ⟨by omega, i, by omega, u, mem_bl (by omega) hu, v, ?_, e.symm⟩)
      have := mem_bl (by omega) hv
      rw [show n + 1 - 2 - i = n - 1 - i by omega] at this
      exact this
theorem ts_wf {sg : Sg} (g : GSg sg) : ∀ n t, t ∈ ts sg n → Wf sg [] t ∧ t.size = n := by
  intro n
  induction n using Nat.strongRecOn with
  | ind n ih =>
    intro t h
    cases n with
    | zero => cases h
    | succ n =>
      rw [ts_succ] at h
      obtain ⟨s, hs, h⟩ := List.mem_flatMap.mp h
      rcases mem_ov1 (g.ar s hs) h with ⟨e, rfl, rfl⟩ | ⟨e, u, hu, rfl⟩ | ⟨e, i, hi, u, hu, v, hv, rfl⟩
      · exact ⟨mem_ar hs e, rfl⟩
      · obtain ⟨a, b⟩ := ih n (by omega) u hu
        exact ⟨⟨mem_ar hs e, a⟩, by show 1 + u.size = _; omega⟩
      · obtain ⟨a, b⟩ := ih (i + 1) (by omega) u hu
        obtain ⟨c, d⟩ := ih (n - 1 - i) (by omega) v hv
        exact ⟨⟨mem_ar hs e, a, c⟩, by show 1 + u.size + v.size = _; omega⟩
def LtK (sg : Sg) (t u : Tr) : Prop := ∃ p q : Int, p < q ∧ Dif (keyToks (keyD sg t)) (keyToks (keyD sg u)) p q
theorem LtK.lt {sg : Sg} {t u : Tr} (h : LtK sg t u) : dataLt (keyD sg t) (keyD sg u) = true := by
  obtain ⟨p, q, hpq, d⟩ := h
  exact (d.lt (by omega)).trans (decide_eq_true hpq)
theorem LtK.size {sg : Sg} {t u : Tr} (ht : Pl t) (hu : Pl u) (h : t.size < u.size) : LtK sg t u := by
  refine ⟨t.size, u.size, by omega, ?_⟩
  rw [toks_key sg ht, toks_key sg hu]
  exact ⟨[.inl 1], _, _, rfl, rfl⟩
theorem LtK.sym {sg : Sg} {t u : Tr} (ht : Pl t) (hu : Pl u) (h : t.size = u.size) (hp : place sg t.sym < place sg u.sym) : LtK sg t u := by
  refine ⟨place sg t.sym, place sg u.sym, by omega, ?_⟩
  rw [toks_key sg ht, toks_key sg hu, h]
  exact ⟨[.inl 1, .inl u.size, .inl 1], _, _, rfl, rfl⟩
theorem LtK.c1 {sg : Sg} {s : Str} {t u : Tr} (ht : Pl t) (hu : Pl u) (e : t.size = u.size) (h : LtK sg t u) : LtK sg (.c1 s t) (.c1 s u) := by
  obtain ⟨p, q, hpq, d⟩ := h
  refine ⟨p, q, hpq, ?_⟩
  rw [toks_key sg (t := .c1 s t) ht, toks_key sg (t := .c1 s u) hu, show (Tr.c1 s t).size = (Tr.c1 s u).size by show 1 + _ = 1 + _; rw [e]]
  exact ((d.app [.inl 0] [.inl 0]).pre [.inl 1]).pre _
theorem LtK.c2a {sg : Sg} {s : Str} {t u v x : Tr} (ht : Pl t) (hu : Pl u) (hv : Pl v) (hx : Pl x) (e : t.size = u.size) (e2 : v.size = x.size) (h : LtK sg t u) : LtK sg (.c2 s t v) (.c2 s u x) := by
  obtain ⟨p, q, hpq, d⟩ := h
  refine ⟨p, q, hpq, ?_⟩
  rw [toks_key sg (t := .c2 s t v) ⟨ht, hv⟩, toks_key sg (t := .c2 s u x) ⟨hu, hx⟩, show (Tr.c2 s t v).size = (Tr.c2 s u x).size by show 1 + _ + _ = 1 + _ + _; rw [e, e2]]
  exact ((d.app _ _).pre [.inl 1]).pre _
theorem LtK.c2s {sg : Sg} {s : Str} {t u v x : Tr} (ht : Pl t) (hu : Pl u) (hv : Pl v) (hx : Pl x) (e : (Tr.c2 s t v).size = (Tr.c2 s u x).size) (h : t.size < u.size) : LtK sg (.c2 s t v) (.c2 s u x) := by
  obtain ⟨p, q, hpq, d⟩ := LtK.size (sg := sg) ht hu h
  refine ⟨p, q, hpq, ?_⟩
  rw [toks_key sg (t := .c2 s t v) ⟨ht, hv⟩, toks_key sg (t := .c2 s u x) ⟨hu, hx⟩, e]
  exact ((d.app _ _).pre [.inl 1]).pre _
theorem LtK.c2b {sg : Sg} {s : Str} {t v x : Tr} (ht : Pl t) (hv : Pl v) (hx : Pl x) (e2 : v.size = x.size) (h : LtK sg v x) : LtK sg (.c2 s t v) (.c2 s t x) := by
  obtain ⟨p, q, hpq, d⟩ := h
  refine ⟨p, q, hpq, ?_⟩
  rw [toks_key sg (t := .c2 s t v) ⟨ht, hv⟩, toks_key sg (t := .c2 s t x) ⟨ht, hx⟩, show (Tr.c2 s t v).size = (Tr.c2 s t x).size by show 1 + _ + _ = 1 + _ + _; rw [e2]]
  exact (((((d.app [.inl 0] [.inl 0]).pre [.inl 1]).pre _).pre [.inl 1])).pre _
theorem places_up {sg : Sg} (g : GSg sg) : sg.Pairwise fun s s' => place sg s.1 < place sg s'.1 := by
  have key : ∀ i (hi : i < sg.length), place sg (sg[i]).1 = i := fun i hi => by
    have hm : (sg[i]).1 ∈ sg.map (·.1) := List.mem_map.mpr ⟨_, List.getElem_mem hi, rfl⟩
    obtain ⟨h1, h2, _⟩ := place_at hm
    rw [List.getElem?_map, List.getElem?_map, List.getElem?_eq_getElem h1] at h2
    have h3 : (sg[place sg (sg[i]).1]).1 = (sg[i]).1 := V.str.inj (Option.some.inj h2)
    have nd := List.pairwise_iff_getElem.mp g.nd
    rcases Nat.lt_trichotomy (place sg (sg[i]).1) i with h | h | h
    · exact absurd (by rw [List.getElem_map, List.getElem_map]; exact h3) (nd _ _ (by rw [List.length_map]; exact h1) (by rw [List.length_map]; exact hi) h)
    · exact h
    · exact absurd (by rw [List.getElem_map, List.getElem_map]; exact h3.symm) (nd _ _ (by rw [List.length_map]; exact hi) (by rw [List.length_map]; exact h1) h)
  refine List.pairwise_iff_getElem.mpr fun i j hi hj hij => ?_
  rw [key i hi, key j hj]
  exact hij
theorem pairwise_mem {α : Type} {R S : α → α → Prop} {l : List α} (h : l.Pairwise R) (f : ∀ a ∈ l, ∀ b ∈ l, R a b → S a b) : l.Pairwise S := by
  refine List.pairwise_iff_getElem.mpr fun i j hi hj hij => f _ (List.getElem_mem hi) _ (List.getElem_mem hj) (List.pairwise_iff_getElem.mp h i j hi hj hij)
theorem ts_asc {sg : Sg} (g : GSg sg) : ∀ n, (ts sg n).Pairwise (LtK sg) := by
  intro n
  induction n using Nat.strongRecOn with
  | ind n ih =>
    cases n with
    | zero => exact List.Pairwise.nil
    | succ n =>
      have W := ts_wf g
      rw [ts_succ]
      unfold ov
      rw [List.pairwise_flatMap]
      constructor
      · intro s hs
        unfold ov1
        by_cases h0 : s.2 = 0
        · rw [if_pos h0]
          by_cases h1 : n + 1 = 1
          · rw [if_pos h1]; exact List.pairwise_singleton _ _
          · rw [if_neg h1]; exact List.Pairwise.nil
        · rw [if_neg h0]
          by_cases h1 : s.2 = 1
          · rw [if_pos h1, Nat.add_sub_cancel, bl_get sg (Nat.le_refl _), List.pairwise_map]
            refine pairwise_mem (ih n (by omega)) fun a ha b hb h => ?_
            obtain ⟨wa, ea⟩ := W n a ha
            obtain ⟨wb, eb⟩ := W n b hb
            exact LtK.c1 wa.pl wb.pl (by omega) h
          · rw [if_neg h1]
            unfold pr
            rw [List.pairwise_flatMap]
            constructor
            · intro i hi
              have hi := List.mem_range.mp hi
              rw [bl_get sg (by omega), bl_get sg (by omega), List.pairwise_flatMap]
              constructor
              · intro t ht
                rw [List.pairwise_map]
                refine pairwise_mem (ih _ (by omega)) fun a ha b hb h => ?_
                obtain ⟨wa, ea⟩ := W _ a ha
                obtain ⟨wb, eb⟩ := W _ b hb
                exact LtK.c2b (W _ t ht).1.pl wa.pl wb.pl (by omega) h
              · refine pairwise_mem (ih (i + 1) (by omega)) fun a ha b hb h x hx y hy => ?_
                obtain ⟨u, hu, rfl⟩ := List.mem_map.mp hx
                obtain ⟨v, hv, rfl⟩ := List.mem_map.mp hy
                obtain ⟨wa, ea⟩ := W _ a ha
                obtain ⟨wb, eb⟩ := W _ b hb
                obtain ⟨wu, eu⟩ := W _ u hu
                obtain ⟨wv, ev⟩ := W _ v hv
                exact LtK.c2a wa.pl wb.pl wu.pl wv.pl (by omega) (by omega) h
            · refine pairwise_mem List.pairwise_lt_range fun i hi j hj hij x hx y hy => ?_
              have hi := List.mem_range.mp hi
              have hj := List.mem_range.mp hj
              rw [bl_get sg (by omega), bl_get sg (by omega)] at hx hy
              obtain ⟨a, ha, hx⟩ := List.mem_flatMap.mp hx
              obtain ⟨u, hu, rfl⟩ := List.mem_map.mp hx
              obtain ⟨b, hb, hy⟩ := List.mem_flatMap.mp hy
              obtain ⟨v, hv, rfl⟩ := List.mem_map.mp hy
              obtain ⟨wa, ea⟩ := W _ a ha
              obtain ⟨wb, eb⟩ := W _ b hb
              obtain ⟨wu, eu⟩ := W _ u hu
              obtain ⟨wv, ev⟩ := W _ v hv
              exact LtK.c2s wa.pl wb.pl wu.pl wv.pl (by show 1 + _ + _ = 1 + _ + _; omega) (by omega)
      · refine pairwise_mem (places_up g) fun s hs s' hs' h x hx y hy => ?_
        have sx : x.sym = s.1 := by
          rcases mem_ov1 (g.ar s hs) hx with ⟨_, _, rfl⟩ | ⟨_, u, _, rfl⟩ | ⟨_, i, _, u, _, v, _, rfl⟩ <;> rfl
        have sy : y.sym = s'.1 := by
          rcases mem_ov1 (g.ar s' hs') hy with ⟨_, _, rfl⟩ | ⟨_, u, _, rfl⟩ | ⟨_, i, _, u, _, v, _, rfl⟩ <;> rfl
        have hx' := W (n + 1) x (by rw [ts_succ]; exact List.mem_flatMap.mpr ⟨s, hs, hx⟩)
        have hy' := W (n + 1) y (by rw [ts_succ]; exact List.mem_flatMap.mpr ⟨s', hs', hy⟩)
        exact LtK.sym hx'.1.pl hy'.1.pl (by omega) (by rw [sx, sy]; exact h)
/-! ### the numbers are below some bound -/
theorem sum_le {c : Nat} : ∀ {l : List Nat}, (∀ x ∈ l, x ≤ c) → l.sum ≤ l.length * c
  | [], _ => by simp
  | a :: l, h => by
    have h1 := h a List.mem_cons_self
    have h2 := sum_le fun x hx => h x (List.mem_cons_of_mem _ hx)
    rw [List.sum_cons, List.length_cons, Nat.add_mul]
    omega
theorem ct_small {sg : Sg} (g : GSg sg) : ∀ n, n ≤ 60 → ct sg n ≤ 2 ^ (20 * n) := by
  intro n
  induction n using Nat.strongRecOn with
  | ind n ih =>
    intro hn
    cases n with
    | zero => exact Nat.zero_le _
    | succ n =>
      rw [ct_succ]
      have each : ∀ s ∈ sg, co1 (cl sg n) s.2 (n + 1) ≤ 60 * 2 ^ (20 * n) := fun s hs => by
        have hp : 1 ≤ 2 ^ (20 * n) := Nat.one_le_two_pow
        unfold co1
        by_cases h0 : s.2 = 0
        · rw [if_pos h0]
          split <;> omega
        · rw [if_neg h0]
          by_cases h1 : s.2 = 1
          · rw [if_pos h1, Nat.add_sub_cancel, cl_get sg (Nat.le_refl _)]
            have := ih n (by omega) (by omega)
            omega
          · rw [if_neg h1]
            refine Nat.le_trans (sum_le (c := 2 ^ (20 * n)) fun x hx => ?_) ?_
            · obtain ⟨i, hi, rfl⟩ := List.mem_map.mp hx
              have hi := List.mem_range.mp hi
              rw [cl_get sg (by omega), cl_get sg (by omega)]
              refine Nat.le_trans (Nat.mul_le_mul (ih (i + 1) (by omega) (by omega)) (ih (n + 1 - 2 - i) (by omega) (by omega))) ?_
              rw [← Nat.pow_add]
              exact Nat.pow_le_pow_right (by decide) (by omega)
            · rw [List.length_map, List.length_range]
              exact Nat.mul_le_mul_right _ (by omega)
      have h4 : co sg (cl sg n) (n + 1) ≤ sg.length * (60 * 2 ^ (20 * n)) := by
        have := sum_le (l := sg.map fun s => co1 (cl sg n) s.2 (n + 1)) (c := 60 * 2 ^ (20 * n)) fun x hx => by
          obtain ⟨s, hs, rfl⟩ := List.mem_map.mp hx
          exact each s hs
        rw [List.length_map] at this
        exact this
      refine Nat.le_trans h4 ?_
      have hl := g.len.2
      have e : 2 ^ (20 * (n + 1)) = 2 ^ 20 * 2 ^ (20 * n) := by rw [← Nat.pow_add]; congr 1; omega
      rw [e]
      refine Nat.le_trans (Nat.mul_le_mul_right _ hl) ?_
      rw [← Nat.mul_assoc]
      exact Nat.mul_le_mul_right _ (by decide)
/-- the law's own way to add up -/
theorem conv {C : List Nat} (h0 : C.getD 0 0 = 0) {m : Nat} (hm : 2 ≤ m) : ((List.range m).map fun k => C.getD k 0 * C.getD (m - 1 - k) 0).sum = ((List.range (m - 2)).map fun i => C.getD (i + 1) 0 * C.getD (m - 2 - i) 0).sum := by
  obtain ⟨j, rfl⟩ : ∃ j, m = j + 2 := ⟨m - 2, by omega⟩
  rw [List.range_succ_eq_map, List.map_cons, List.sum_cons, h0, Nat.zero_mul, Nat.zero_add, List.map_map, List.range_succ, List.map_append, List.sum_append, Nat.add_sub_cancel]
  have e1 : (List.map ((fun k => C.getD k 0 * C.getD (j + 2 - 1 - k) 0) ∘ Nat.succ) [j]).sum = 0 := by
    show C.getD (j + 1) 0 * C.getD (j + 2 - 1 - (j + 1)) 0 + 0 = 0
    rw [show j + 2 - 1 - (j + 1) = 0 by omega, h0, Nat.mul_zero]
  rw [e1, Nat.add_zero]
  congr 1
  refine List.map_congr_left fun i hi => ?_
  show C.getD (i + 1) 0 * C.getD (j + 2 - 1 - (i + 1)) 0 = _
  rw [show j + 2 - 1 - (i + 1) = j - i by omega]
end Pg

set_option Elab.async false
set_option linter.all false
set_option maxRecDepth 100000
set_option maxHeartbeats 4000000
namespace Pg
open PySem PySem.Spec PyProof.Rows L2
/-! ### lists of numbers; comprehensions whose step changes nothing that stands -/
def cv (C : List Nat) : List V := C.map fun n => V.int (n : Nat)
theorem cv_int (C : List Nat) : cv C = (C.map fun n : Nat => (n : Int)).map V.int := by unfold cv; rw [List.map_map]; rfl
theorem sum_int : ∀ l : List Nat, (l.map fun n : Nat => (n : Int)).sum = ((l.sum : Nat) : Int)
  | [] => rfl
  | a :: l => by rw [List.map_cons, List.sum_cons, sum_int l, List.sum_cons]; omega
theorem getD_at {α : Type} {l : List α} {d : α} {k : Nat} (h : k < l.length) : l[k]? = some (l.getD k d) := by
  rw [List.getD_eq_getElem?_getD, List.getElem?_eq_getElem h]; rfl
theorem at_cv {C : List Nat} {i : Int} {k : Nat} (e : i = (k : Int)) (h : k < C.length) : atI (cv C) i = some (.int (C.getD k 0 : Nat)) := by
  subst e
  refine atI_nat ?_
  show (C.map _)[k]? = _
  rw [List.getElem?_map, getD_at (d := 0) h]
  rfl
section
variable {K : PySem.W.Frag} {σ : L2.St} {H : Hp} {Q : VK} {p : Addr} {rs : List Addr} {sg : Sg} {j j1 j2 : Nat} {te : TE}
theorem rd_rng {lo : Int} {n : Nat} {wi : TI} (f : Nat → V) (hwi : ∀ R, R (Itr lo n) H → wi σ H R) (hn : n ≤ 100000) (hw : ∀ x, wipe ((wipe σ [j]).set j (some x)) [j] = wipe σ [j])
    (ht : ∀ i H', i < n → Same H H' → ∀ Q', (∀ H2, Same H' H2 → Q' (f i) H2) → te ((wipe σ [j]).set j (some (.int (lo + i)))) H' Q')
    (h : ∀ D H', H D = none → Same H H' → H' D = some (.lst ((List.range n).map f)) → Q (.ref D) H') : tLc wi (gName j) tYes te [j] σ H Q := by
  refine hwi _ (fun D nD => lc_range (fun i H' => Same H H' ∧ H' D = some (.lst ((List.range i).map f))) ⟨Same.new nD, upd_same⟩ (fun i H' hi iv => ?_) (fun H' iv => h D H' nD iv.1 iv.2))
  obtain ⟨sm, hd⟩ := iv
  refine ⟨hw _, yes_turn ?_⟩
  refine ht i H' hi sm _ (fun H2 s2 => ?_)
  refine ⟨_, s2 _ _ hd, by rw [List.length_map, List.length_range, sizeLine_eq]; omega, Same.mut nD (sm.trans s2), ?_⟩
  rw [upd_same, List.range_succ, List.map_append]
  rfl
theorem rd_prs {i : Nat} (f : Str × Int → V) (hi : σ[i]? = some (some (.ref p))) (hS : SgAt K H p sg) (h4 : sg.length ≤ 1000) (hw : ∀ x y, wipe (((wipe σ [j1, j2]).set j1 (some x)).set j2 (some y)) [j1, j2] = wipe σ [j1, j2])
    (ht : ∀ s H', s ∈ sg → Same H H' → ∀ Q', (∀ H2, Same H' H2 → Q' (f s) H2) → te (((wipe σ [j1, j2]).set j1 (some (.str s.1))).set j2 (some (.int s.2))) H' Q')
    (h : ∀ D H', H D = none → Same H H' → H' D = some (.lst (sg.map f)) → Q (.ref D) H') :
    tLc (iTup K (tVar i)) (gTup K 2 (gCons (gName j1) (gCons (gName j2) gNil))) tYes te [j1, j2] σ H Q := by
  obtain ⟨rs, hT, pr⟩ := hS.ex
  refine ⟨_, hi, p, rfl, ⟨_, hT⟩, fun D nD => lc_tup (K := K) (xs := rs.map V.ref) (fun i H' => Same H H' ∧ H' D = some (.lst ((sg.take i).map f))) ⟨Same.new nD, upd_same⟩ (fun i H' _ iv => TK.same iv.1 _ _ hT) (fun i x H' hx iv => ?_) (fun H' iv => ?_)⟩
  · rw [List.getElem?_map] at hx
    obtain ⟨r, e, rfl⟩ : ∃ r, rs[i]? = some r ∧ V.ref r = x := by
      cases e : rs[i]? with
      | none => rw [e] at hx; cases hx
      | some z => rw [e] at hx; exact ⟨z, rfl, Option.some.inj hx⟩
    obtain ⟨s, es, hr⟩ := Pg.paired_get pr e
    obtain ⟨sm, hd⟩ := iv
    refine ⟨r, _, rfl, TK.same sm _ _ hr, rfl, _, _, rfl, _, _, rfl, rfl, hw _ _, ?_⟩
    refine yes_turn (ht s H' (List.mem_of_getElem? es) sm _ fun H2 s2 => ⟨_, s2 _ _ hd, ?_, Same.mut nD (sm.trans s2), ?_⟩)
    · rw [List.length_map, List.length_take]
      exact small1000 (by omega)
    · rw [upd_same, take_snoc es, List.map_append]
      rfl
  · obtain ⟨sm, hd⟩ := iv
    rw [List.length_map, paired_len pr, List.take_length] at hd
    exact h D H' nD sm hd
end
theorem log2_small {n : Nat} (h : n ≤ 2 ^ 1200) : n.log2 ≤ 1200 := by
  by_cases e : n = 0
  · subst e; decide
  · have := (Nat.log2_lt e).mpr (show n < 2 ^ 1201 from Nat.lt_of_le_of_lt h (Nat.pow_lt_pow_right (by decide) (by decide)))
    omega
theorem mulW {a b : Nat} (ha : a ≤ 2 ^ 1200) (hb : b ≤ 2 ^ 1200) : CMulW (a : Int) (b : Int) := by
  have h1 := log2_small ha
  have h2 := log2_small hb
  show (a : Int).natAbs.log2 + (b : Int).natAbs.log2 < 1000000
  rw [Int.natAbs_natCast, Int.natAbs_natCast]
  omega
theorem cl_small {sg : Sg} (g : GSg sg) {n : Nat} (hn : n ≤ 60) (k : Nat) : (cl sg n).getD k 0 ≤ 2 ^ 1200 := by
  by_cases hk : k ≤ n
  · rw [cl_get sg hk]
    exact Nat.le_trans (ct_small g k (by omega)) (Nat.pow_le_pow_right (by decide) (by omega))
  · rw [List.getD_eq_getElem?_getD, List.getElem?_eq_none (by rw [cl_len]; omega)]
    exact Nat.zero_le _
def spCov (K : PySem.W.Frag) : Sp := fun vs H Q _ => ∃ (c : Addr) (C : List Nat) (ar m : Int) (m' : Nat), vs = [.ref c, .int ar, .int m] ∧ SqL K H c (cv C) ∧ m = (m' : Int) ∧ C.length = m' ∧ (∀ k, C.getD k 0 ≤ 2 ^ 1200) ∧ 1 ≤ m' ∧ m' ≤ 60 ∧ 0 ≤ ar ∧ ar ≤ 2 ∧ ∀ H', Same H H' → Q (.int (co1 C ar m' : Nat)) H'
def spCto (K : PySem.W.Frag) : Sp := fun vs H Q _ => ∃ (g : Addr) (sg : Sg) (n : Nat), vs = [.ref g, .int (n : Nat)] ∧ SgAt K H g sg ∧ GSg sg ∧ n ≤ 60 ∧ ∀ p H', H p = none → Same H H' → H' p = some (.lst (cv (cl sg n))) → Q (.ref p) H'
end Pg

set_option Elab.async false
set_option linter.all false
set_option maxRecDepth 100000
set_option maxHeartbeats 4000000
namespace Pg
open PySem PySem.Spec PyProof.Rows L2
theorem smallN {n : Nat} (h : n ≤ 100000) : n < sizeLine := by rw [sizeLine_eq]; omega
/-- lists of trees, by size -/
def BLat (K : PySem.W.Frag) (H : Hp) (b : Addr) (B : List (List Tr)) : Prop := ∃ rs : List Addr, SqL K H b (rs.map V.ref) ∧ Paired (fun r (ks : List Tr) => ∃ us, H r = some (.lst us) ∧ KidsAt K H us ks) rs B
section
variable {K : PySem.W.Frag} {H H' : Hp} {b : Addr} {B : List (List Tr)}
theorem BLat.same (s : Same H H') (h : BLat K H b B) : BLat K H' b B := by
  obtain ⟨rs, a, p⟩ := h
  exact ⟨rs, s.seq a, Paired.imp2 (fun _ _ ⟨us, e, k⟩ => ⟨us, s _ _ e, k.keep (TK.same s)⟩) p⟩
theorem BLat.at {k : Nat} {i : Int} (h : BLat K H b B) (e : i = (k : Int)) (hk : k < B.length) : ∃ xs r us, SqL K H b xs ∧ atI xs i = some (.ref r) ∧ H r = some (.lst us) ∧ KidsAt K H us (B.getD k []) := by
  obtain ⟨rs, a, p⟩ := h
  obtain ⟨r, er, us, h1, h2⟩ := Pg.paired_get2 p (getD_at (d := []) hk)
  exact ⟨_, r, us, a, by rw [e]; exact atI_nat (by rw [List.getElem?_map, er]; rfl), h1, h2⟩
end
section
variable {K : PySem.W.Frag} {σ : L2.St} {H : Hp} {Q : VK} {r : Addr} {us : List V} {ks : List Tr} {j : Nat} {te : TE}
/-- [f(tree) for tree in xs] over a list of trees -/
theorem rd_kidsL {wi : TI} (hwi : ∀ R, R (Itl K r) H → wi σ H R) (hS : SqL K H r us) (R : Hp → V → Tr → Prop) (mono : ∀ H H' v k, k ∈ ks → TK K H H' → R H v k → R H' v k) (pr : KidsAt K H us ks) (hlen : ks.length ≤ 100000)
    (hw : ∀ x, wipe ((wipe σ [j]).set j (some x)) [j] = wipe σ [j])
    (ht : ∀ u k H', k ∈ ks → Same H H' → TrAt K H' k u → ∀ Q', (∀ v H2, Same H' H2 → R H2 v k → Q' v H2) → te ((wipe σ [j]).set j (some u)) H' Q')
    (h : ∀ D H' ws, H D = none → Same H H' → H' D = some (.lst ws) → Paired (R H') ws ks → Q (.ref D) H') : tLc wi (gName j) tYes te [j] σ H Q := by
  refine hwi _ (fun D nD => ?_)
  have step : ∀ {H1 H2 : Hp} {ws : List V} {l : List Tr}, (∀ k ∈ l, k ∈ ks) → TK K H1 H2 → Paired (R H1) ws l → Paired (R H2) ws l := by
    intro H1 H2 ws l hl tk hp
    induction hp with
    | nil => exact .nil
    | cons a b ih => exact .cons (mono _ _ _ _ (hl _ List.mem_cons_self) tk a) (ih fun k hk => hl k (List.mem_cons_of_mem _ hk))
  refine lc_list (K := K) (xs := us) (fun i H' => Same H H' ∧ ∃ ws, H' D = some (.lst ws) ∧ Paired (R H') ws (ks.take i)) ⟨Same.new nD, [], upd_same, .nil⟩ (fun i H' _ iv => iv.1.seq hS) (fun i x H' hx iv => ?_) (fun H' iv => ?_)
  · obtain ⟨sm, ws, hd, hr⟩ := iv
    obtain ⟨k, ek, hk⟩ := Pg.paired_get pr hx
    have hlt : i < ks.length := (List.getElem?_eq_some_iff.mp ek).1
    refine ⟨hw _, yes_turn ?_⟩
    refine ht x k H' (List.mem_of_getElem? ek) sm (TrAt.keep (TK.same sm) hk) _ (fun v H2 s2 r2 => ?_)
    have hd2 := s2 _ _ hd
    refine ⟨ws, hd2, by rw [paired_len hr, List.length_take]; exact smallN (by omega), Same.mut nD (sm.trans s2), ws ++ [v], upd_same, ?_⟩
    rw [take_snoc ek]
    exact paired_app (step (fun k hk => List.mem_of_mem_take hk) ((TK.same s2).trans (TK.put hd2)) hr) (.cons (mono _ _ _ _ (List.mem_of_getElem? ek) (TK.put hd2) r2) .nil)
  · obtain ⟨sm, ws, hd, hr⟩ := iv
    rw [paired_len pr, List.take_length] at hr
    exact h D H' ws nD sm hd hr
end
theorem flat_take {α β : Type} (f : α → List β) (l : List α) (i : Nat) : ((l.take i).flatMap f).length ≤ (l.flatMap f).length := by
  have e : l.flatMap f = (l.take i).flatMap f ++ (l.drop i).flatMap f := by rw [← List.flatMap_append, List.take_append_drop]
  rw [e, List.length_append]
  omega
theorem range_take (n i : Nat) (h : i ≤ n) : (List.range n).take i = List.range i := by rw [List.take_range, Nat.min_eq_left h]
def spPov (K : PySem.W.Frag) : Sp := fun vs H Q _ => ∃ (s : Str) (b : Addr) (B : List (List Tr)) (m : Nat), vs = [.str s, .ref b, .int (m : Nat)] ∧ BLat K H b B ∧ B.length = m ∧ m ≤ 60 ∧ (∀ k, (B.getD k []).length ≤ 2000) ∧ (pr s B m).length ≤ 2000 ∧ (∀ k, ∀ t ∈ B.getD k [], Pl t) ∧
  ∀ p vs H', H p = none → Same H H' → H' p = some (.lst vs) → KidsAt K H' vs (pr s B m) → Q (.ref p) H'
def spTov (K : PySem.W.Frag) : Sp := fun vs H Q _ => ∃ (g b : Addr) (sg : Sg) (B : List (List Tr)) (m : Nat), vs = [.ref g, .ref b, .int (m : Nat)] ∧ SgAt K H g sg ∧ GSg sg ∧ BLat K H b B ∧ B.length = m ∧ 1 ≤ m ∧ m ≤ 60 ∧ (∀ k, (B.getD k []).length ≤ 2000) ∧ (ov sg B m).length ≤ 2000 ∧ (∀ k, ∀ t ∈ B.getD k [], Pl t) ∧
  ∀ p vs H', H p = none → Same H H' → H' p = some (.lst vs) → KidsAt K H' vs (ov sg B m) → Q (.ref p) H'
end Pg

set_option Elab.async false
set_option linter.all false
set_option maxRecDepth 100000
set_option maxHeartbeats 4000000
namespace Pg
open PySem PySem.Spec PyProof.Rows L2
/-! ### defs that may raise -/
structure CalX (P : Program) (w : World) (K : PySem.W.Frag) (mg : Str → Option Value) (base : Heap) (k : Nat) (x : Str) (sp : Sp) : Prop where
  ex : ∃ (f : Addr) (fd : FuncData) (ps : List Str), FnOk P w K mg base (L2.CX P w) k f fd ps sp ∧ mg x = some (.ref f) ∧ PySem.W.keepIn K (.ref f) = true ∧ Binds K fd ps []
theorem mk_calX {P : Program} {w : World} {K : PySem.W.Frag} {mg : Str → Option Value} {base : Heap} {x : Str} {st : Stmt} {f : Addr} {fd : FuncData} {N ps : List Str} {k : Nat} {sp : Sp} (F : FnP K x st f fd) (hm : mg x = some (.ref f)) (S : FnScope N ps (defScope st))
    (hb : ∀ (kV doc pm : Value) (an : Option Addr) (cdv ct : Value) (us : List Value), us.length = ps.length → bindArgs (PySem.W.fnOf x x (defArgs st) (defBody st) (defScope st) .none kV doc pm an cdv ct) ⟨us, []⟩ = pure (ps.zip us))
    (len : ∀ vs H Q E, sp vs H Q E → vs.length = ps.length)
    (body : ∀ (cdv : Value) (A : Around) (outer : List Env) (s : Shared) (H : Hp) (vs : List V) (Q : VK) (E : XK), Room k (A.deeper (envOfC x (defScope st) s.heap.objs.size f cdv)) → sp vs H Q E →
      ∃ t, PSs (cxOf (L2.CX P w) P w K mg base N x (defScope st) f cdv A outer s H E) (defBody st) t ∧ t { nx := fun _ H' => Q .non H', rt := Q } (start N vs) H) : CalX P w K mg base (k + 1) x sp :=
  ⟨f, fd, ps, F.ok S len body, hm, F.kp, F.bindsN hb⟩
section
variable {X : Cx} {k j : Nat} {x : Str} {sp : Sp} {W : WX} {p pos : Pos} {e : Expr} {es : List Expr} {t : TA}
theorem pe_cx (c : CalX X.prog X.w X.K X.mg X.base k x sp) (hr : Room j X.A) (hk : k ≤ j) (hg : Gl X x) (tk : Takes X W) (ha : PA X (e :: es) t)
    (hdb : (x == ("__debug__" : Str)) = false := by decide) (he : starEach (e :: es) X.env = (false, eval e X.env) :: starEach es X.env := by rfl) (hpl : (backTo pos (starEach es X.env)).any (·.1) = false := by rfl) :
    PE X (.Call (.Name x p) (e :: es) [] pos) (tCallS sp (WE W) t) := by
  obtain ⟨f, fd, ps, F, hm, kp, b⟩ := c.ex
  exact pe_callS F (hr.mono hk) hg hm kp b (fun σ => passAt tk σ) ha hdb he hpl
end
/-! isinstance of a caught exception whose class the reading tells -/
def rIsE2 (K : PySem.W.Frag) (cls : Value) (d : Option Addr) (D a : Addr) : List V → Hp → VK → Prop := fun xs H Q => cls = .ref D ∧ d = none ∧ rIsE K D a xs H Q
theorem call_isE2 {X : Cx} {a D : Addr} {oe : Obj} {pn : List (Addr × Obj)} {cls : Value} {d : Option Addr} (C : ExcC X.K D) (hz : Zc cls d oe) (hf : ∃ vs, oe.data = .fields vs) : CallR (X.suite a ((a, oe) :: pn)) (.builtin "isinstance") (rIsE2 X.K cls d D a) := by
  intro pins s σ H xs us Q I r ⟨e1, e2, h⟩
  subst e1 e2
  exact call_isE C hz hf pins s σ H xs us Q I r h
def rIsET (K : PySem.W.Frag) (cls : Value) (d : Option Addr) (D a : Addr) : List V → Hp → VK → Prop := fun xs H Q => cls = .ref D ∧ d = none ∧ ∃ (tp : Addr) (as : List Addr) (b : Bool), xs = [.ref a, .ref tp] ∧ H tp = some (.tup (as.map V.ref)) ∧ PySem.W.kitAny K (.ref D) (as.map Value.ref) = some b ∧ Q (.bl b) H
theorem vals_refs : ∀ {as : List Addr} {us : List Value}, Vals (as.map V.ref) us → us = as.map Value.ref
  | [], _, h => by cases h; rfl
  | a :: as, _, h => by
    cases h with
    | cons r t => cases r; rw [vals_refs t]; rfl
theorem call_isET {X : Cx} {a D : Addr} {oe : Obj} {pn : List (Addr × Obj)} {cls : Value} {d : Option Addr} (C : ExcC X.K D) (hz : Zc cls d oe) (hf : ∃ vs, oe.data = .fields vs) : CallR (X.suite a ((a, oe) :: pn)) (.builtin "isinstance") (rIsET X.K cls d D a) := by
  intro pins s σ H xs us Q I r ⟨e1, e2, tp, as, b, ex, ht, e, q⟩
  subst e1 e2 ex
  obtain ⟨u1, u2, rfl, r1, r2⟩ := vals2 r
  cases r1
  cases r2
  obtain ⟨hget, _⟩ := I.pin (a, oe) (List.mem_append.mpr (.inl List.mem_cons_self))
  obtain ⟨vs, hv⟩ := hf
  have J : PySem.W.InstAt s.heap a oe D none := by
    obtain ⟨oc, od, oda, osl⟩ := oe
    obtain ⟨h1, h2⟩ := hz
    dsimp only at h1 h2 hv
    subst h1 h2 hv
    exact ⟨hget, rfl, rfl, trivial⟩
  obtain ⟨hz', its, rv, o⟩ := I.hok tp _ ht
  obtain rfl := vals_refs rv
  obtain ⟨ob, ho, h1, n, h2⟩ := o
  obtain ⟨oc, od, oda, osl⟩ := ob
  dsimp only at h1 h2
  subst h1 h2
  exact PySem.W.kia_tup (PySem.W.handS_kitx_exc C.hg C.hk C.hs C.hd C.ha C.hn C.ht C.hm) I.kIn J ho e (fun z => nomatch z) fun tk => ⟨.bl b, H, I.kept (t' := tk) fun _ _ z => z, rfl, q⟩
structure Ex2 (K : PySem.W.Frag) (mg : Str → Option Value) (N T M Pe : Addr) : Prop where
  mc : ∃ u, mg "MAX_COUNTED" = some u ∧ RelV (.int 60) u
  ml : ∃ u, mg "MAX_LISTED" = some u ∧ RelV (.int 2000) u
  gN : mg "NotAllowed" = some (.ref N)
  gT : mg "TooLarge" = some (.ref T)
  gM : mg "Missing" = some (.ref M)
  gP : mg "PergolaError" = some (.ref Pe)
  xN : PySem.W.excIn K N He.veBase "ValueError.__new__" = true
  xT : PySem.W.excIn K T He.veBase "ValueError.__new__" = true
  kN : PySem.W.keepIn K (.ref N) = true
  kT : PySem.W.keepIn K (.ref T) = true
  bN : PySem.W.subIn K (.ref N) (.type "BaseException") = some true
  bT : PySem.W.subIn K (.ref T) (.type "BaseException") = some true
  tN : PySem.W.typeIn K (.ref N) = some (.type "type")
  tT : PySem.W.typeIn K (.ref T) = some (.type "type")
  eN : PySem.W.exmOne K (.ref N) (.ref N) = some true
  eT : PySem.W.exmOne K (.ref T) (.ref T) = some true
  cN : ExcC K N
  cT : ExcC K T
  iN : PySem.W.kitOne K (.ref N) (.ref Pe) = some true
  iT : PySem.W.kitOne K (.ref T) (.ref Pe) = some true
  aN : PySem.W.kitAny K (.ref N) [.ref T, .ref M] = some false
  aT : PySem.W.kitAny K (.ref T) [.ref N, .ref M] = some false
def spChk (N : Addr) : Sp := fun vs H Q E => ∃ n : Int, vs = [.int n] ∧ ((0 ≤ n ∧ n ≤ 60) → Q .non H) ∧ (¬ (0 ≤ n ∧ n ≤ 60) → E (.ref N) none H)
def spCnt (K : PySem.W.Frag) (N : Addr) : Sp := fun vs H Q E => ∃ (g : Addr) (sg : Sg) (n : Int), vs = [.ref g, .int n] ∧ SgAt K H g sg ∧ GSg sg ∧ ((0 ≤ n ∧ n ≤ 60) → ∀ H', Same H H' → Q (.int (ct sg n.toNat : Nat)) H') ∧ (¬ (0 ≤ n ∧ n ≤ 60) → E (.ref N) none H)
def spTrs (K : PySem.W.Frag) (N T : Addr) : Sp := fun vs H Q E => ∃ (g : Addr) (sg : Sg) (n : Int), vs = [.ref g, .int n] ∧ SgAt K H g sg ∧ GSg sg ∧ ((0 ≤ n ∧ n ≤ 60) → ct sg n.toNat ≤ 2000 → ∀ p vs H', H p = none → Same H H' → H' p = some (.lst vs) → KidsAt K H' vs (ts sg n.toNat) → Q (.ref p) H') ∧
  ((0 ≤ n ∧ n ≤ 60) → 2000 < ct sg n.toNat → ∀ H', Same H H' → E (.ref T) none H') ∧ (¬ (0 ≤ n ∧ n ≤ 60) → E (.ref N) none H)
end Pg

set_option Elab.async false
set_option linter.all false
set_option maxRecDepth 100000
set_option maxHeartbeats 4000000
namespace Pg
open PySem PySem.Spec PyProof.Rows L2
theorem mk_fng {P : Program} {w : World} {K : PySem.W.Frag} {mg : Str → Option Value} {base : Heap} {f : Addr} {fd : FuncData} {x : Str} {st : Stmt} {N ps : List Str} {k : Nat} {sp : Sp} (F : FnP K x st f fd) (S : FnScope N ps (defScope st)) (len : ∀ vs H Q E, sp vs H Q E → vs.length = ps.length)
    (body : ∀ (cdv : Value) (A : Around) (outer : List Env) (s : Shared) (H : Hp) (vs : List V) (Q : VK), (A.deeper (envOfC x (defScope st) s.heap.objs.size f cdv)).guards = some [] → Room k (A.deeper (envOfC x (defScope st) s.heap.objs.size f cdv)) → sp vs H Q E0 →
      ∃ t, PSs (cxOf CX0 P w K mg base N x (defScope st) f cdv A outer s H E0).nox (defBody st) t ∧ t { nx := fun _ H' => Q .non H', rt := Q } (start N vs) H) : FnG P w K mg base (k + 1) f fd ps sp := by
  obtain ⟨oc, od, dV, kV, doc, pm, an, cdv, ct, osl, rfl, lk, hcd, _, _⟩ := F.ex
  exact fng_of lk hcd S len fun A outer s H vs Q hg hr hsp => body cdv A outer s H vs Q hg hr hsp
theorem int_show {n : Int} (h : n.natAbs.log2 < 1920) : PyData.showable (.list [.int n]) = true ∧ PyData.hasDict (.list [.int n]) = false ∧ (PyData.shown (.list [.int n])).length ≤ sizeLine ∧ (PyData.list [.int n]).depth ≤ 70 := by
  refine ⟨?_, rfl, ?_, by simp [PyData.depth, PyData.depthAll]⟩
  · show (decide (n.natAbs.log2 < 1920) && true) = true
    rw [decide_eq_true h]; rfl
  · have e : PyData.shown (.list [.int n]) = (("[" : Str) ++ ("" : Str) ++ PySem.Str.ofString (toString n)) ++ ("]" : Str) := rfl
    rw [e, PySem.Str.length_append, PySem.Str.length_append]
    have h1 := int_text_len_1921 h
    have h2 : (("[" : Str) ++ ("" : Str)).length ≤ 10 := by decide +kernel
    have h3 : ("]" : Str).length ≤ 10 := by decide +kernel
    exact Nat.le_of_lt (smallN (Nat.le_trans (Nat.add_le_add (Nat.add_le_add h2 h1) h3) (by decide)))
def spSame1 : Sp := fun vs H Q _ => ∃ n : Int, vs = [.int n, .int n] ∧ n.natAbs.log2 < 1920 ∧ ∀ H', Same H H' → Q (.bl true) H'
def spRef (K : PySem.W.Frag) : Sp := fun vs H Q _ => ∃ (kd n : Int) (g : Addr) (sg : Sg), vs = [.int kd, .ref g, .int n] ∧ SgAt K H g sg ∧ GSg sg ∧ ¬ (0 ≤ n ∧ n ≤ 60) ∧ ∀ H', Same H H' → Q (.bl true) H'
def spLrg (K : PySem.W.Frag) : Sp := fun vs H Q _ => ∃ (n : Int) (g : Addr) (sg : Sg), vs = [.ref g, .int n] ∧ SgAt K H g sg ∧ GSg sg ∧ (0 ≤ n ∧ n ≤ 60) ∧ 2000 < ct sg n.toNat ∧ ∀ H', Same H H' → Q (.bl true) H'
end Pg

set_option Elab.async false
set_option linter.all false
set_option maxRecDepth 100000
set_option maxHeartbeats 4000000
namespace Pg
open PySem PySem.Spec PyProof.Rows L2
section
variable {K : PySem.W.Frag} {H H' : Hp}
mutual
theorem dp_same (s : Same H H') : ∀ (d : PyData) (v : V), Dp K H v d → Dp K H' v d
  | .none, _, h => by cases h; exact .non
  | .bool _, _, h => by cases h; exact .bl _
  | .int _, _, h => by cases h; exact .int _
  | .str _, _, h => by cases h; exact .str _
  | .list ds, _, h => by
    cases h with
    | lst hq ha => exact .lst (s.seq hq) (dpAll_same s ds _ ha)
  | .tuple ds, _, h => by
    cases h with
    | tup hq ha => exact .tup (TK.same s _ _ hq) (dpAll_same s ds _ ha)
  | .dict _, _, h => by cases h
theorem dpAll_same (s : Same H H') : ∀ (ds : List PyData) (vs : List V), DpAll K H vs ds → DpAll K H' vs ds
  | [], _, h => by cases h; exact .nil
  | d :: ds, _, h => by
    cases h with
    | cons a b => exact .cons (dp_same s d _ a) (dpAll_same s ds _ b)
end
end
section
variable {K : PySem.W.Frag} {σ : L2.St} {H : Hp} {Q : VK} {p r : Addr} {us : List V} {sg : Sg} {j j1 j2 : Nat} {te : TE} {tt : TT}
theorem if_of {b : Bool} {F G : Prop} (h1 : b = true → F) (h2 : b = false → G) : (if b = true then F else G) := by
  cases b with
  | true => rw [if_pos rfl]; exact h1 rfl
  | false => rw [if_neg Bool.false_ne_true]; exact h2 rfl
/-- [f(sign, arity) for sign, arity in signs if ..] -/
theorem rd_prsIf {i : Nat} (f : Str × Int → V) (b : Str × Int → Bool) (hi : σ[i]? = some (some (.ref p))) (hS : SgAt K H p sg) (h4 : sg.length ≤ 1000) (hw : ∀ x y, wipe (((wipe σ [j1, j2]).set j1 (some x)).set j2 (some y)) [j1, j2] = wipe σ [j1, j2])
    (htt : ∀ s H', s ∈ sg → Same H H' → ∀ Q' : Bool → Hp → Prop, Q' (b s) H' → tt (((wipe σ [j1, j2]).set j1 (some (.str s.1))).set j2 (some (.int s.2))) H' Q')
    (ht : ∀ s H', s ∈ sg → Same H H' → ∀ Q', (∀ H2, Same H' H2 → Q' (f s) H2) → te (((wipe σ [j1, j2]).set j1 (some (.str s.1))).set j2 (some (.int s.2))) H' Q')
    (h : ∀ D H', H D = none → Same H H' → H' D = some (.lst ((sg.filter b).map f)) → Q (.ref D) H') :
    tLc (iTup K (tVar i)) (gTup K 2 (gCons (gName j1) (gCons (gName j2) gNil))) tt te [j1, j2] σ H Q := by
  obtain ⟨rs, hT, pr⟩ := hS.ex
  refine ⟨_, hi, p, rfl, ⟨_, hT⟩, fun D nD => lc_tup (K := K) (xs := rs.map V.ref) (fun i H' => Same H H' ∧ H' D = some (.lst (((sg.take i).filter b).map f))) ⟨Same.new nD, upd_same⟩ (fun i H' _ iv => TK.same iv.1 _ _ hT) (fun i x H' hx iv => ?_) (fun H' iv => ?_)⟩
  · rw [List.getElem?_map] at hx
    obtain ⟨r, e, rfl⟩ : ∃ r, rs[i]? = some r ∧ V.ref r = x := by
      cases e : rs[i]? with
      | none => rw [e] at hx; cases hx
      | some z => rw [e] at hx; exact ⟨z, rfl, Option.some.inj hx⟩
    obtain ⟨s, es, hr⟩ := Pg.paired_get pr e
    obtain ⟨sm, hd⟩ := iv
    refine ⟨r, _, rfl, TK.same sm _ _ hr, rfl, _, _, rfl, _, _, rfl, rfl, hw _ _, ?_⟩
    refine htt s H' (List.mem_of_getElem? es) sm _ (if_of (fun e1 => ?_) fun e1 => ?_)
    · refine ht s H' (List.mem_of_getElem? es) sm _ fun H2 s2 => ⟨_, s2 _ _ hd, ?_, Same.mut nD (sm.trans s2), ?_⟩
      · rw [List.length_map]
        have := List.length_filter_le b (sg.take i)
        rw [List.length_take] at this
        exact small1000 (by omega)
      · rw [upd_same, take_snoc es, List.filter_append, List.map_append]
        have : [s].filter b = [s] := by rw [List.filter_cons_of_pos e1]; rfl
        rw [this]
        rfl
    · refine ⟨sm, ?_⟩
      rw [hd, take_snoc es, List.filter_append]
      have : [s].filter b = [] := by rw [List.filter_cons_of_neg (by rw [e1]; decide)]; rfl
      rw [this, List.append_nil]
  · obtain ⟨sm, hd⟩ := iv
    rw [List.length_map, paired_len pr, List.take_length] at hd
    exact h D H' nD sm hd
/-- [f(x) for x in xs] over a list -/
theorem rd_mapL {α : Type} {ks : List α} {wi : TI} (F : V → α → Prop) (f : α → V) (hwi : ∀ R, R (Itl K r) H → wi σ H R) (hS : SqL K H r us) (pr : Paired F us ks) (hlen : ks.length ≤ 100000) (hw : ∀ x, wipe ((wipe σ [j]).set j (some x)) [j] = wipe σ [j])
    (ht : ∀ u k H', k ∈ ks → F u k → Same H H' → ∀ Q', (∀ H2, Same H' H2 → Q' (f k) H2) → te ((wipe σ [j]).set j (some u)) H' Q')
    (h : ∀ D H', H D = none → Same H H' → H' D = some (.lst (ks.map f)) → Q (.ref D) H') : tLc wi (gName j) tYes te [j] σ H Q := by
  refine hwi _ (fun D nD => ?_)
  refine lc_list (K := K) (xs := us) (fun i H' => Same H H' ∧ H' D = some (.lst ((ks.take i).map f))) ⟨Same.new nD, upd_same⟩ (fun i H' _ iv => iv.1.seq hS) (fun i x H' hx iv => ?_) (fun H' iv => ?_)
  · obtain ⟨sm, hd⟩ := iv
    obtain ⟨k, ek, hk⟩ := Pg.paired_get pr hx
    refine ⟨hw _, yes_turn ?_⟩
    refine ht x k H' (List.mem_of_getElem? ek) hk sm _ (fun H2 s2 => ?_)
    refine ⟨_, s2 _ _ hd, ?_, Same.mut nD (sm.trans s2), ?_⟩
    · have := (List.getElem?_eq_some_iff.mp ek).1
      rw [List.length_map, List.length_take]; exact smallN (by omega)
    · rw [upd_same, take_snoc ek, List.map_append]; rfl
  · obtain ⟨sm, hd⟩ := iv
    rw [paired_len pr, List.take_length] at hd
    exact h D H' nD sm hd
end
/-! ### numbers of constants; the one pair of a word -/
theorem c0_len : ∀ l : Sg, (l.map fun s => co1 [0] s.2 1).sum = (l.filter fun s => decide (V.int s.2 = V.int 0)).length
  | [] => rfl
  | s :: l => by
    rw [List.map_cons, List.sum_cons, c0_len l]
    by_cases h : s.2 = 0
    · rw [List.filter_cons_of_pos (p := fun s : Str × Int => decide (V.int s.2 = V.int 0)) (show decide (V.int s.2 = V.int 0) = true from decide_eq_true (by rw [h])), List.length_cons]
      unfold co1
      rw [if_pos h, if_pos rfl]
      omega
    · rw [List.filter_cons_of_neg (by simp [h])]
      unfold co1
      rw [if_neg h]
      by_cases h1 : s.2 = 1
      · rw [if_pos h1]; show 0 + _ = _; omega
      · rw [if_neg h1]; show 0 + _ = _; omega
theorem cl_one (sg : Sg) : cl sg 1 = [0, (sg.filter fun s => decide (V.int s.2 = V.int 0)).length] := by
  show [0] ++ [co sg [0] 1] = _
  unfold co
  rw [c0_len]
  rfl
theorem filter_one {x : Str} {a : Int} : ∀ {sg : Sg}, (sg.map (·.1)).Nodup → (x, a) ∈ sg → (sg.filter fun s => decide (V.str s.1 = V.str x)) = [(x, a)]
  | [], _, h => absurd h List.not_mem_nil
  | s :: sg, nd, h => by
    rw [List.map_cons, List.nodup_cons] at nd
    rcases List.mem_cons.mp h with e | e
    · subst e
      rw [List.filter_cons_of_pos (p := fun s : Str × Int => decide (V.str s.1 = V.str x)) (a := (x, a)) (decide_eq_true rfl)]
      have : (sg.filter fun s => decide (V.str s.1 = V.str x)) = [] := List.filter_eq_nil_iff.mpr fun s hs z => nd.1 (List.mem_map.mpr ⟨s, hs, V.str.inj (of_decide_eq_true z)⟩)
      rw [this]
    · have : s.1 ≠ x := fun z => nd.1 (List.mem_map.mpr ⟨_, e, z.symm⟩)
      rw [List.filter_cons_of_neg (by simp [this])]
      exact filter_one nd.2 e
def spLcs (K : PySem.W.Frag) : Sp := fun vs H Q _ => ∃ (g : Addr) (sg : Sg), vs = [.ref g] ∧ SgAt K H g sg ∧ GSg sg ∧ ∀ p H', H p = none → Same H H' → H' p = some (.lst (cv (cl sg 60))) → Q (.ref p) H'
def spIst (K : PySem.W.Frag) (d : Nat) : Sp := fun vs H Q _ => ∃ (g : Addr) (sg : Sg) (v : V) (t : Tr), vs = [.ref g, v] ∧ SgAt K H g sg ∧ GSg sg ∧ TrAt K H t v ∧ Wf sg [] t ∧ t.dep ≤ d ∧ ∀ H', Same H H' → Q (.bl true) H'
end Pg

set_option Elab.async false
set_option linter.all false
set_option maxRecDepth 100000
set_option maxHeartbeats 4000000
namespace Pg
open PySem PySem.Spec PyProof.Rows L2
/-- a tree as data -/
def trD : Tr → PyData
  | .nm x => .str x
  | .c0 s => .tuple [.str s]
  | .c1 s t => .tuple [.str s, trD t]
  | .c2 s t u => .tuple [.str s, trD t, trD u]
theorem tr_dp {K : PySem.W.Frag} {H : Hp} : ∀ {t : Tr} {v : V}, TrAt K H t v → Dp K H v (trD t)
  | .nm _, _, h => by rw [show _ = _ from h]; exact .str _
  | .c0 _, _, ⟨p, e, q⟩ => by rw [e]; exact .tup q (.cons (.str _) .nil)
  | .c1 _ _, _, ⟨p, u, e, q, r⟩ => by rw [e]; exact .tup q (.cons (.str _) (.cons (tr_dp r) .nil))
  | .c2 _ _ _, _, ⟨p, u, u', e, q, r, r'⟩ => by rw [e]; exact .tup q (.cons (.str _) (.cons (tr_dp r) (.cons (tr_dp r') .nil)))
theorem kids_dp {K : PySem.W.Frag} {H : Hp} : ∀ {us : List V} {ks : List Tr}, KidsAt K H us ks → DpAll K H us (ks.map trD)
  | _, _, .nil => .nil
  | _, _, .cons a b => .cons (tr_dp a) (kids_dp b)
theorem Wd.ok {i : Nat} {w : Str} (h : Wd i w) : PyData.strOk w = true := by
  have hc : ∀ c ∈ cs w, c < 0x110000 := fun c hc => by
    rcases h with h | ⟨h1, h2⟩
    · rcases h.2.2 c hc with e | e | e | e <;> omega
    · rw [h2] at hc
      rcases List.mem_cons.mp hc with e | e
      · omega
      · rw [List.mem_singleton] at e
        omega
  show w.cps.all (· < 0x110000) = true
  rw [← Array.all_toList]
  exact List.all_eq_true.mpr fun c h => decide_eq_true (hc c h)
theorem GSg.ok {sg : Sg} (g : GSg sg) {x : Str} {a : Int} (h : (x, a) ∈ sg) : PyData.strOk x = true := let ⟨_, w⟩ := g.wd _ h; w.ok
theorem tr_lay {sg : Sg} (g : GSg sg) : ∀ {t : Tr}, Wf sg [] t → (trD t).canLay0 = true
  | .nm _, h => absurd h List.not_mem_nil
  | .c0 s, h => by simp only [trD, PyData.canLay0, PyData.canLayAll0, g.ok (show (s, 0) ∈ sg from h), Bool.and_self]
  | .c1 s t, h => by simp only [trD, PyData.canLay0, PyData.canLayAll0, g.ok h.1, tr_lay g (t := t) h.2, Bool.and_self]
  | .c2 s t u, h => by simp only [trD, PyData.canLay0, PyData.canLayAll0, g.ok h.1, tr_lay g (t := t) h.2.1, tr_lay g (t := u) h.2.2, Bool.and_self]
theorem tr_depth : ∀ t : Tr, (trD t).depth ≤ t.dep
  | .nm _ => Nat.zero_le _
  | .c0 s => by simp [trD, PyData.depth, PyData.depthAll, Tr.dep]
  | .c1 s t => by
    have := tr_depth t
    simp only [trD, PyData.depth, PyData.depthAll, Tr.dep]
    omega
  | .c2 s t u => by
    have := tr_depth t
    have := tr_depth u
    simp only [trD, PyData.depth, PyData.depthAll, Tr.dep]
    omega
theorem tr_alike : ∀ t : Tr, PySem.W.alike (trD t) (trD t) = true
  | .nm _ => rfl
  | .c0 s => rfl
  | .c1 s t => by simp only [trD, PySem.W.alike, PySem.W.alikeAll, tr_alike t, Bool.and_self]
  | .c2 s t u => by simp only [trD, PySem.W.alike, PySem.W.alikeAll, tr_alike t, tr_alike u, Bool.and_self]
theorem trs_alike : ∀ ts : List Tr, PySem.W.alikeAll (ts.map trD) (ts.map trD) = true
  | [] => rfl
  | t :: ts => by rw [List.map_cons, PySem.W.alikeAll, tr_alike t, trs_alike ts]; rfl
theorem trs_lay {sg : Sg} (g : GSg sg) : ∀ {ts : List Tr}, (∀ t ∈ ts, Wf sg [] t) → PyData.canLayAll0 (ts.map trD) = true
  | [], _ => rfl
  | t :: ts, h => by
    rw [List.map_cons, PyData.canLayAll0, tr_lay g (h t List.mem_cons_self), trs_lay g fun k hk => h k (List.mem_cons_of_mem _ hk)]
    rfl
theorem trs_depth : ∀ {ts : List Tr}, (∀ t ∈ ts, t.dep ≤ 60) → PyData.depthAll (ts.map trD) ≤ 60
  | [], _ => by show PyData.depthAll [] ≤ 60; decide
  | t :: ts, h => by
    have h1 := h t List.mem_cons_self
    have h2 := tr_depth t
    have h3 := trs_depth fun k hk => h k (List.mem_cons_of_mem _ hk)
    rw [List.map_cons, PyData.depthAll]
    omega
theorem trs_shaped {sg : Sg} (g : GSg sg) {ts : List Tr} (h : ∀ t ∈ ts, Wf sg [] t) (hd : ∀ t ∈ ts, t.dep ≤ 60) : SeqAt.shaped (.list (ts.map trD)) = true := by
  have h1 := trs_depth hd
  have h2 : (PyData.list (ts.map trD)).canLay0 = true := by rw [PyData.canLay0]; exact trs_lay g h
  have h3 : (PyData.list (ts.map trD)).depth ≤ 64 := by rw [PyData.depth]; omega
  unfold SeqAt.shaped
  rw [h2, decide_eq_true h3]
  rfl
theorem trs_eqv (ts : List Tr) : PyData.eqv (.list (ts.map trD)) (.list (ts.map trD)) = true := PySem.W.eqv_refl_alike _ (by rw [PySem.W.alike]; exact trs_alike ts)
theorem ts_next {sg : Sg} (g : GSg sg) {n k : Nat} (h : k + 1 < (ts sg n).length) : PySem.W.dataLt (keyD sg ((ts sg n)[k]'(by omega))) (keyD sg ((ts sg n)[k + 1])) = true :=
  LtK.lt (List.pairwise_iff_getElem.mp (ts_asc g n) k (k + 1) (by omega) h (by omega))
theorem tyX_lst {K : PySem.W.Frag} {H : Hp} {p : Addr} {xs : List V} (h : H p = some (.lst xs)) : TyX K H (.ref p) (.type "list") := .base (.lst h)
theorem all_true {α : Type} (l : List α) : (l.map fun _ => true).all id = true := by rw [List.all_map]; exact List.all_eq_true.mpr fun _ _ => rfl
def spLst (K : PySem.W.Frag) : Sp := fun vs H Q _ => ∃ (g : Addr) (sg : Sg) (n : Nat), vs = [.ref g, .int (n : Nat), .int (ct sg n : Nat)] ∧ SgAt K H g sg ∧ GSg sg ∧ n ≤ 60 ∧ ct sg n ≤ 2000 ∧ ∀ H', Same H H' → Q (.bl true) H'
end Pg

set_option Elab.async false
set_option linter.all false
set_option maxRecDepth 100000
set_option maxHeartbeats 4000000
namespace Pg
open PySem PySem.Spec PyProof.Rows L2
theorem at_ct {sg : Sg} {i : Int} {k : Nat} (e : i = (k : Int)) (h : k ≤ 60) : atI (cv (cl sg 60)) i = some (.int (ct sg k : Nat)) := by
  rw [at_cv e (by rw [cl_len]; omega), cl_get sg h]
section
variable {K : PySem.W.Frag} {σ : L2.St} {H : Hp} {Q : VK} {j : Nat} {tt : TT} {te : TE}
theorem rd_rngIf {n : Nat} {wi : TI} (b : Nat → Bool) (hwi : ∀ R, R (Itr 0 n) H → wi σ H R) (hn : n ≤ 1000) (hw : ∀ x, wipe ((wipe σ [j]).set j (some x)) [j] = wipe σ [j])
    (hv : ∀ x, ((wipe σ [j]).set j (some x))[j]? = some (some x))
    (ht : ∀ i H', i < n → Same H H' → ∀ Q' : Bool → Hp → Prop, Q' (b i) H' → tt ((wipe σ [j]).set j (some (.int (i : Nat)))) H' Q')
    (h : ∀ D H', H D = none → Same H H' → H' D = some (.lst (cv ((List.range n).filter b))) → Q (.ref D) H') : tLc wi (gName j) tt (tVar j) [j] σ H Q := by
  refine hwi _ (fun D nD => lc_range (lo := 0) (fun i H' => Same H H' ∧ H' D = some (.lst (cv ((List.range i).filter b)))) ⟨Same.new nD, upd_same⟩ (fun i H' hi iv => ?_) (fun H' iv => h D H' nD iv.1 iv.2))
  obtain ⟨sm, hd⟩ := iv
  rw [Int.zero_add]
  refine ⟨hw _, ht i H' hi sm _ (if_of (fun e => ?_) fun e => ?_)⟩
  · refine ⟨_, hv _, _, hd, ?_, Same.mut nD sm, ?_⟩
    · show (List.map _ _).length < sizeLine
      have := List.length_filter_le b (List.range i)
      rw [List.length_range] at this
      rw [List.length_map]
      exact smallN (by omega)
    · rw [upd_same, List.range_succ, List.filter_append]
      have : [i].filter b = [i] := by rw [List.filter_cons_of_pos e]; rfl
      rw [this]
      show _ = some (HO.lst ((_ ++ [i]).map _))
      rw [List.map_append]
      rfl
  · refine ⟨sm, ?_⟩
    rw [hd, List.range_succ, List.filter_append]
    have : [i].filter b = [] := by rw [List.filter_cons_of_neg (by rw [e]; decide)]; rfl
    rw [this, List.append_nil]
end
/-- the sizes that the law chooses from -/
structure FitI (sg : Sg) (i : Nat) (F : List Nat) : Prop where
  len : F.length ≤ i
  ok : ∀ k ∈ F, k < i ∧ ct sg k ≤ 2000
  ne : 0 < i → F ≠ []
theorem FitI.snoc {sg : Sg} {i : Nat} {F : List Nat} (f : FitI sg i F) (h : ct sg i ≤ 2000) : FitI sg (i + 1) (F ++ [i]) :=
  ⟨by rw [List.length_append, List.length_singleton]; have := f.len; omega, fun k hk => by
    rcases List.mem_append.mp hk with e | e
    · have := f.ok k e; omega
    · rw [List.mem_singleton] at e; rw [e]; exact ⟨by omega, h⟩, fun _ => by simp⟩
theorem FitI.skip {sg : Sg} {i : Nat} {F : List Nat} (f : FitI sg i F) (h : i ≠ 0) : FitI sg (i + 1) F := ⟨by have := f.len; omega, fun k hk => by have := f.ok k hk; omega, fun _ => f.ne (by omega)⟩
def spLaw (K : PySem.W.Frag) : Sp := fun vs H Q _ => ∃ (a : Addr) (ns : List Int), vs = [.ref a] ∧ SqL K H a (ns.map V.int) ∧ ns.length ≤ 63 ∧ ∀ H', Q (.bl true) H'
end Pg

set_option Elab.async false
set_option linter.all false
set_option maxRecDepth 100000
set_option maxHeartbeats 4000000
namespace Pg
open PySem PySem.Spec PyProof.Rows L2
/-! ### words of the program -/
def lowC (c : Nat) : Bool := decide (97 ≤ c) && decide (c ≤ 122)
def rsv : List Str := ["sign", "mark", "if", "not", "all", "some", "and", "or", "end"]
def isW (x : Str) : Bool := (decide (1 ≤ x.length) && decide (x.length ≤ 8)) && (!decide (x ∈ rsv) && (cs x).all lowC)
/-- the number beside a word, or -1 -/
def numB : Sg → Str → Int
  | [], _ => -1
  | s :: sg, x => if s.1 = x then s.2 else numB sg x
def spLow : Sp := fun vs H Q _ => ∃ c : Nat, vs = [.str ⟨#[c]⟩] ∧ ∀ H', Same H H' → Q (.bl (lowC c)) H'
def spIsw : Sp := fun vs H Q _ => ∃ x : Str, vs = [.str x] ∧ x.length ≤ 100000 ∧ ∀ H', Same H H' → Q (.bl (isW x)) H'
def spNub (K : PySem.W.Frag) : Sp := fun vs H Q _ => ∃ (g : Addr) (sg : Sg) (x : Str), vs = [.ref g, .str x] ∧ SgAt K H g sg ∧ sg.length ≤ 1000 ∧ ∀ H', Same H H' → Q (.int (numB sg x)) H'
def spIsn (K : PySem.W.Frag) : Sp := fun vs H Q _ => ∃ (g : Addr) (sg : Sg) (x : Str), vs = [.ref g, .str x] ∧ SgAt K H g sg ∧ sg.length ≤ 1000 ∧ x.length ≤ 100000 ∧ ∀ H', Same H H' → Q (.bl (isW x && decide (numB sg x = -1))) H'
theorem numB_cons {s : Str × Int} {sg : Sg} {x : Str} : numB (s :: sg) x = if s.1 = x then s.2 else numB sg x := rfl
/-- facts of the words' constants -/
structure Wo (K : PySem.W.Frag) (mg : Str → Option Value) (rsa : Addr) : Prop where
  mw : ∃ u, mg "MAX_WORD" = some u ∧ RelV (.int 8) u
  rs : mg "RESERVED" = some (.ref rsa)
  rt : ∀ H, SqT K H rsa (rsv.map V.str)
theorem one_lt (a b : Nat) : ([a] < [b]) ↔ a < b := by
  rw [List.cons_lt_cons_iff]
  exact ⟨fun h => h.elim id fun h => absurd h.2 (List.not_lt_nil _), .inl⟩
theorem le_a (c : Nat) : (!decide (cs (⟨#[c]⟩ : Str) < cs (PySem.Str.ofString "a"))) = decide (97 ≤ c) := by
  have e : cs (PySem.Str.ofString "a") = [97] := by decide +kernel
  rw [e, cs_one, Bool.eq_iff_iff, Bool.not_eq_true', decide_eq_false_iff_not, decide_eq_true_iff, one_lt]
  omega
theorem le_z (c : Nat) : (!decide (cs (PySem.Str.ofString "z") < cs (⟨#[c]⟩ : Str))) = decide (c ≤ 122) := by
  have e : cs (PySem.Str.ofString "z") = [122] := by decide +kernel
  rw [e, cs_one, Bool.eq_iff_iff, Bool.not_eq_true', decide_eq_false_iff_not, decide_eq_true_iff, one_lt]
  omega
/-- [f(char) for char in text] -/
theorem rd_str {σ : L2.St} {H : Hp} {Q : VK} {j : Nat} {te : TE} {wi : TI} {x : Str} (f : Nat → V) (hwi : ∀ R, R (Its x) H → wi σ H R) (hn : x.length ≤ 100000) (hw : ∀ x, wipe ((wipe σ [j]).set j (some x)) [j] = wipe σ [j])
    (ht : ∀ c H', c ∈ cs x → Same H H' → ∀ Q', (∀ H2, Same H' H2 → Q' (f c) H2) → te ((wipe σ [j]).set j (some (.str ⟨#[c]⟩))) H' Q')
    (h : ∀ D H', H D = none → Same H H' → H' D = some (.lst ((cs x).map f)) → Q (.ref D) H') : tLc wi (gName j) tYes te [j] σ H Q := by
  have hsz : x.cps.size = (cs x).length := by simp [cs]
  have hxl : x.length = (cs x).length := cs_len x
  refine hwi _ (fun D nD => lc_it (walk_str (z := x)) (fun i H' => Same H H' ∧ H' D = some (.lst (((cs x).take i).map f))) ⟨Same.new nD, upd_same⟩ (fun _ _ _ _ => True.intro) (fun i y H' H'' hi iv yv => ?_) (fun H' iv => ?_))
  · obtain ⟨rfl, c, hc, rfl⟩ := yv
    obtain ⟨sm, hd⟩ := iv
    have ec : (cs x)[i]? = some c := by rw [← hc]; simp [cs]
    refine ⟨hw _, yes_turn ?_⟩
    refine ht c _ (List.mem_of_getElem? ec) sm _ fun H2 s2 => ⟨_, s2 _ _ hd, ?_, Same.mut nD (sm.trans s2), ?_⟩
    · rw [List.length_map, List.length_take]; exact smallN (by omega)
    · rw [upd_same, take_snoc ec, List.map_append]; rfl
  · obtain ⟨sm, hd⟩ := iv
    rw [hsz, List.take_length] at hd
    exact h D H' nD sm hd
end Pg

set_option Elab.async false
set_option linter.all false
set_option maxRecDepth 100000
set_option maxHeartbeats 4000000
namespace K80
open PySem PySem.Spec PyProof.Rows L2 Pg
def top (i : Nat) : Stmt := PySem.Challenge.pw_pergola_k80_commands_read.main.body.getD i (.Pass ⟨0, 0, 0, 0⟩)
structure Zs (mg : Str → Option Value) : Prop where
  len : mg "len" = none
  abs : mg "abs" = none
  int : mg "int" = none
  repr : mg "repr" = none
  range : mg "range" = none
  all : mg "all" = none
  str : mg "str" = none
  tuple : mg "tuple" = none
  zip : mg "zip" = none
section
variable {P : Program} {w : World} {K : PySem.W.Frag} {mg : Str → Option Value} {base : Heap} {f : Addr} {fd : FuncData}
abbrev s_next : Stmt := top 17
abbrev N_next : List Str := ["state", "many", "turn"]
abbrev P_next : List Str := ["state", "many"]
theorem sc_next : FnScope N_next P_next (defScope s_next) := ⟨rfl, rfl, rfl, by decide +kernel, rfl, by decide +kernel, by decide +kernel⟩

theorem ok_next (F : FnP K "_law_next" s_next f fd) (hm : mg "_law_next" = some (.ref f)) (Z : Zs mg) : Cal P w K mg base 1 "_law_next" spNext [] := by
  refine mk_cal F hm sc_next (fun _ _ _ _ _ _ us hl => match us, hl with | [_, _], _ => rfl) (fun vs H Q E h => ?_) (fun cdv A outer s H vs Q E hr h => ?_)
  · obtain ⟨a, n, many, m, rfl, _⟩ := h
    rfl
  obtain ⟨a, n, many, m, rfl, hmany, st, hlt, q⟩ := h
  refine ⟨_, (pss_cons (ps_asg (pe_op op_add (pe_ix ix_list (pv 0) pe_int (fun _ _ => rfl)) pe_int) (pg_sub (pv 0) pe_int set_list))
      (pss_cons (ps_set (i := 2) sc_next.nd rfl (by first | exact Or.inl rfl | exact Or.inr rfl) (pe_op op_fdiv (pe_ix ix_list (pv 0) pe_int (fun _ _ => rfl)) (pe_callB call_len_seq (by rfl) Z.len (by decide +kernel) (pa_cons (pe_ix ix_list (pv 0) pe_int (fun _ _ => rfl)) pa_nil))))
      (pss_one (ps_ret (pe_op op_mod (pe_callTy call_int1 (by rfl) Z.int (by decide +kernel) (pa_cons (pe_op op_add (pe_op op_add (pe_ix ix_list (pe_ix ix_list (pv 0) pe_int (fun _ _ => rfl)) (pe_op op_mod (pe_ix ix_list (pv 0) pe_int (fun _ _ => rfl)) (pe_callB call_len_seq (by rfl) Z.len (by decide +kernel) (pa_cons (pe_ix ix_list (pv 0) pe_int (fun _ _ => rfl)) pa_nil))) (fun _ _ => rfl)) (pe_op op_mul (pv 2) pe_int)) (pe_op op_mul (pe_op op_mul (pe_ix ix_list (pv 0) pe_int (fun _ _ => rfl)) (pv 2)) pe_int)) pa_nil)) (pv 1)))))), ?_⟩
  obtain ⟨ns, c, h1, h2, h3, h4, h5, h6, h7, h8⟩ := st.ex
  have hl : (ns.map V.int).length = ns.length := List.length_map _
  have hp : 0 < ns.length := List.length_pos_iff.mpr h4
  have z1 : upd H a (.lst (([V.ref n, V.int c]).set 1 (V.int (c + 1)))) a = some (.lst [V.ref n, V.int (c + 1)]) := upd_same
  have z2 : upd H a (.lst (([V.ref n, V.int c]).set 1 (V.int (c + 1)))) n = some (.lst (ns.map V.int)) := by rw [upd_ne h3]; exact h2
  refine ⟨_, rfl, a, _, 1, _, rfl, rfl, SqL.mk h1, rfl, _, _, rfl, rfl, _, rfl, a, _, 1, 1, rfl, rfl, h1, rfl, ?_⟩
  refine ⟨_, rfl, a, _, 1, _, rfl, rfl, SqL.mk z1, rfl, _, rfl, a, _, 0, _, rfl, rfl, SqL.mk z1, rfl, n, _, rfl, .inl (SqL.mk z2), _, _, rfl, rfl, ⟨by rw [hl]; omega, by rw [hl]; omega⟩, ?_⟩
  have hk : ((c + 1) % (((ns.map V.int).length : Nat) : Int)).toNat < ns.length := by
    rw [hl]
    have := Int.emod_lt_of_pos (c + 1) (show (0 : Int) < (ns.length : Int) by omega)
    have := Int.emod_nonneg (c + 1) (show (ns.length : Int) ≠ 0 by omega)
    omega
  have hnn : 0 ≤ (c + 1) % (((ns.map V.int).length : Nat) : Int) := Int.emod_nonneg _ (by rw [hl]; omega)
  have hat : atI (ns.map V.int) ((c + 1) % (((ns.map V.int).length : Nat) : Int)) = some (.int (ns[((c + 1) % (((ns.map V.int).length : Nat) : Int)).toNat]'hk)) :=
    at_of (Int.toNat_of_nonneg hnn).symm (by rw [List.getElem?_map, List.getElem?_eq_getElem hk]; rfl)
  have hx := h6 _ (List.getElem_mem hk)
  have hd1 : 0 ≤ (c + 1) / (((ns.map V.int).length : Nat) : Int) := Int.ediv_nonneg (by omega) (by omega)
  have hd2 : (c + 1) / (((ns.map V.int).length : Nat) : Int) ≤ c + 1 := Int.ediv_le_self _ (by omega)
  refine ⟨_, rfl, a, _, 0, _, rfl, rfl, SqL.mk z1, rfl, _, rfl, a, _, 1, _, rfl, rfl, SqL.mk z1, rfl, _, rfl, a, _, 0, _, rfl, rfl, SqL.mk z1, rfl, n, _, rfl, .inl (SqL.mk z2), _, _, rfl, rfl, (by show (0 : Int) < _; rw [hl]; omega),
    n, _, _, _, rfl, rfl, SqL.mk z2, hat, ?_⟩
  refine ⟨_, rfl, _, _, rfl, rfl, .inr ⟨by decide, by decide⟩, _, _, rfl, rfl, _, rfl, a, _, 1, _, rfl, rfl, SqL.mk z1, rfl, _, rfl, _, _, rfl, rfl, .inl ⟨by omega, by omega⟩, _, _, rfl, rfl, .inr ⟨by decide, by decide⟩, _, _, rfl, rfl, .inl ⟨_, rfl, ?_⟩⟩
  refine ⟨_, rfl, _, _, rfl, rfl, (by show (0 : Int) < many; omega), ?_⟩
  refine q _ _ (Int.emod_nonneg _ (by omega)) (Int.emod_lt_of_pos _ (by omega)) Fr.own ⟨ns, c + 1, z1, z2, h3, h4, h5, h6, by omega, by omega⟩
abbrev s_word : Stmt := top 18
abbrev N_word : List Str := ["state", "taken", "word", "k"]
abbrev P_word : List Str := ["state", "taken"]
theorem sc_word : FnScope N_word P_word (defScope s_word) := ⟨rfl, rfl, rfl, by decide +kernel, rfl, by decide +kernel, by decide +kernel⟩

theorem cs_abyz : cs (PySem.Str.ofString "abyz") = [97, 98, 121, 122] := by decide +kernel
theorem cs_az : cs (PySem.Str.ofString "abcdefghijklmnopqrstuvwxyz") = (List.range 26).map (97 + ·) := by decide +kernel
theorem ok_word (F : FnP K "_law_word" s_word f fd) (hm : mg "_law_word" = some (.ref f)) (Z : Zs mg) (c_next : Cal P w K mg base 1 "_law_next" spNext []) : Cal P w K mg base 2 "_law_word" (spWordW K) [] := by
  refine mk_cal F hm sc_word (fun _ _ _ _ _ _ us hl => match us, hl with | [_, _], _ => rfl) (fun vs H Q E h => ?_) (fun cdv A outer s H vs Q E hr h => ?_)
  · obtain ⟨a, n, l, ts, m, rfl, _⟩ := h
    rfl
  obtain ⟨a, n, l, ts, m, rfl, st, hlt, hl, hla, wd, h26, q⟩ := h
  refine ⟨_, (pss_cons (ps_set (i := 2) sc_word.nd rfl (by first | exact Or.inl rfl | exact Or.inr rfl) pe_str)
      (pss_cons (ps_for PassesOwn.never rfl (pi_range1 (by rfl) Z.range (pa_cons (pe_ix ix_list (pe_lst (pa_cons pe_int (pa_cons pe_int (pa_cons (pe_op op_add pe_int (C8.pe_c c_next hr (by first | decide | omega) rfl (pa_cons (pv 0) (pa_cons pe_int pa_nil)))) pa_nil)))) (C8.pe_c c_next hr (by first | decide | omega) rfl (pa_cons (pv 0) (pa_cons pe_int pa_nil))) (fun _ _ => rfl)) pa_nil)) (pg_name (i := 3) sc_word.nd rfl (by first | exact Or.inl rfl | exact Or.inr rfl)) (pss_one (ps_set (i := 2) sc_word.nd rfl (by first | exact Or.inl rfl | exact Or.inr rfl) (pe_op op_add_str (pv 2) (pe_ix ix_str pe_str (C8.pe_c c_next hr (by first | decide | omega) rfl (pa_cons (pv 0) (pa_cons pe_int pa_nil))) (fun _ _ => rfl))))))
      (pss_cons (ps_if (pt_cmpR op_in_seq (pv 2) (pv 1) (by rfl)) (pss_one (ps_ret (pe_op op_add_str pe_str (pe_ix ix_str pe_str (pe_callB call_len_seq (by rfl) Z.len (by decide +kernel) (pa_cons (pv 1) pa_nil)) (fun _ _ => rfl))))) pss_nil)
      (pss_one (ps_ret (pv 2)))))), ?_⟩
  refine ⟨_, rfl, a, n, 8, m, rfl, by decide, st, by omega, fun r H1 r0 r8 f1 st1 => ?_⟩
  refine ⟨_, _, rfl, rfl, (by show 3 ≤ sizeLine; decide), fun p np => ?_⟩
  refine ⟨_, rfl, a, n, 3, m + 1, rfl, by decide, st1.new np, by omega, fun r2 H2 t0 t3 f2 st2 => ?_⟩
  obtain ⟨j, hj, j1, j8⟩ : ∃ j : Int, atI [V.int 1, V.int 2, V.int (1 + r)] r2 = some (.int j) ∧ 1 ≤ j ∧ j ≤ 8 := by
    have : r2 = 0 ∨ r2 = 1 ∨ r2 = 2 := by omega
    rcases this with rfl | rfl | rfl
    · exact ⟨1, rfl, by omega, by omega⟩
    · exact ⟨2, rfl, by omega, by omega⟩
    · exact ⟨1 + r, rfl, by omega, by omega⟩
  refine ⟨p, _, r2, _, rfl, rfl, SqL.mk (f2 _ _ (st1.ne np).1 upd_same), hj, j, rfl, by omega, by omega, ?_⟩
  have F2 : Pg.Fr a H H2 := f1.trans ((Fr.new np).trans f2)
  refine for_range (lo := 0) (n := j.toNat) (fun i σ H' => ∃ (x : Str) (k : Option V), σ = [some (.ref a), some (.ref l), some (.str x), k] ∧ (cs x).length = i ∧ (∀ c ∈ cs x, c = 97 ∨ c = 98 ∨ c = 121 ∨ c = 122) ∧ Pg.Fr a H H' ∧ StA H' a n (m + 2 + i))
    ⟨PySem.Str.ofString "", none, rfl, by decide +kernel, by decide +kernel, F2, st2.mono (by omega)⟩ ?_ ?_
  · rintro i σ H' hi ⟨x, k, rfl, hx, hc, f3, st3⟩
    refine ⟨_, rfl, _, rfl, a, n, 4, _, rfl, by decide, st3, by omega, fun r3 H3 u0 u4 f4 st4 => ?_⟩
    obtain ⟨c, hat, hcc⟩ : ∃ c, atI (cs (PySem.Str.ofString "abyz")) r3 = some c ∧ (c = 97 ∨ c = 98 ∨ c = 121 ∨ c = 122) := by
      rw [cs_abyz]
      have : r3 = 0 ∨ r3 = 1 ∨ r3 = 2 ∨ r3 = 3 := by omega
      rcases this with rfl | rfl | rfl | rfl
      · exact ⟨97, rfl, by omega⟩
      · exact ⟨98, rfl, by omega⟩
      · exact ⟨121, rfl, by omega⟩
      · exact ⟨122, rfl, by omega⟩
    refine ⟨_, r3, c, rfl, rfl, by decide +kernel, hat, _, _, rfl, rfl, ?_, ?_⟩
    · have e1 : x.length ≤ 8 := by rw [cs_len]; omega
      have e2 : (⟨#[c]⟩ : Str).length = 1 := rfl
      rw [e2]
      exact Nat.le_trans (Nat.add_le_add_right e1 1) (by decide)
    refine ⟨x ++ ⟨#[c]⟩, _, rfl, ?_, ?_, f3.trans f4, st4.mono (by omega)⟩
    · rw [cs_app, List.length_append, hx, cs_one]; rfl
    · intro d hd
      rw [cs_app, cs_one] at hd
      rcases List.mem_append.mp hd with h | h
      · exact hc d h
      · rw [List.mem_singleton] at h
        rw [h]
        exact hcc
  · rintro σ H' ⟨x, k, rfl, hx, hc, f3, st3⟩
    have hl' : H' l = some (.lst (ts.map V.str)) := f3 _ _ hla hl
    refine ⟨_, rfl, _, rfl, l, _, rfl, .inl (SqL.mk hl'), rfl, Pg.flat_strs ts, _, rfl, ?_⟩
    rw [inV_strs]
    refine ite2 (fun hin => ?_) (fun hin => ?_)
    · refine ⟨_, rfl, l, _, rfl, .inl (SqL.mk hl'), _, _, 97 + ts.length, rfl, rfl, by decide +kernel, ?_, _, _, rfl, rfl, ?_, ?_⟩
      · show atI (cs (PySem.Str.ofString "abcdefghijklmnopqrstuvwxyz")) _ = _
        rw [cs_az, List.length_map]
        exact atI_nat (by rw [List.getElem?_map, List.getElem?_range h26]; rfl)
      · show (PySem.Str.ofString "c").length + 1 ≤ sizeLine
        decide +kernel
      · have ew : cs (PySem.Str.ofString "c" ++ ⟨#[97 + ts.length]⟩) = [99, 97 + ts.length] := by
          rw [cs_app, cs_one]
          have : cs (PySem.Str.ofString "c") = [99] := by decide +kernel
          rw [this]
          rfl
        exact q _ H' (wd.fresh ew) (.inr ⟨h26, ew⟩) f3 (st3.mono (by omega))
    · refine ⟨_, rfl, ?_⟩
      exact q x H' (fun z => hin (decide_eq_true z)) (.inl ⟨by omega, by omega, hc⟩) f3 (st3.mono (by omega))
abbrev s_stream : Stmt := top 16
abbrev N_stream : List Str := ["script", "numbers", "cell", "rest", "k", "mixed"]
abbrev P_stream : List Str := ["script"]
theorem sc_stream : FnScope N_stream P_stream (defScope s_stream) := ⟨rfl, rfl, rfl, by decide +kernel, rfl, by decide +kernel, by decide +kernel⟩

theorem ok_stream (F : FnP K "_law_stream" s_stream f fd) (hm : mg "_law_stream" = some (.ref f)) (Z : Zs mg) : Cal P w K mg base 1 "_law_stream" (spStream K) [] := by
  refine mk_cal F hm sc_stream (fun _ _ _ _ _ _ us hl => match us, hl with | [_], _ => rfl) (fun vs H Q E h => ?_) (fun cdv A outer s H vs Q E hr h => ?_)
  · obtain ⟨a, zs, rfl, _⟩ := h
    rfl
  obtain ⟨a, zs, rfl, hS, h63, q⟩ := h
  refine ⟨_, (pss_cons (ps_set (i := 1) sc_stream.nd rfl (by first | exact Or.inl rfl | exact Or.inr rfl) (pe_lst pa_nil))
      (pss_cons (ps_for PassesOwn.never rfl (pi_list (pe_slice sl_list (pv 0) po_none (po_some pe_int))) (pg_name (i := 2) sc_stream.nd rfl (by first | exact Or.inl rfl | exact Or.inr rfl)) (pss_cons (ps_set (i := 3) sc_stream.nd rfl (by first | exact Or.inl rfl | exact Or.inr rfl) (pe_callB call_abs (by rfl) Z.abs (by decide +kernel) (pa_cons (pe_callTy call_int1 (by rfl) Z.int (by decide +kernel) (pa_cons (pv 2) pa_nil)) pa_nil)))
      (pss_one (ps_if (pt_cmpR op_ge (pv 3) (pe_op op_pow pe_int pe_int) (nomark _)) (pss_one (ps_for PassesOwn.never rfl (pi_range1 (by rfl) Z.range (pa_cons pe_int pa_nil)) (pg_name (i := 4) sc_stream.nd rfl (by first | exact Or.inl rfl | exact Or.inr rfl)) (pss_cons (ps_expr (pe_bm PySem.F.plainAttrs_list PySem.F.slot_list_append PySem.F.type_list_append mt_append (pv 1) (pa_cons (pe_op op_mod (pe_callTy call_int1 (by rfl) Z.int (by decide +kernel) (pa_cons (pv 3) pa_nil)) pe_int) pa_nil)))
      (pss_cons (ps_set (i := 3) sc_stream.nd rfl (by first | exact Or.inl rfl | exact Or.inr rfl) (pe_op op_fdiv (pv 3) pe_int))
      (pss_one (ps_if (pt_cmpR op_eq (pv 3) pe_int (nomark _)) (pss_one ps_break) pss_nil)))))) (pss_cons (ps_set (i := 5) sc_stream.nd rfl (by first | exact Or.inl rfl | exact Or.inr rfl) (pe_op op_mod (pe_callTy call_int1 (by rfl) Z.int (by decide +kernel) (pa_cons (pv 3) pa_nil)) pe_int))
      (pss_one (ps_for PassesOwn.never rfl (pi_range1 (by rfl) Z.range (pa_cons pe_int pa_nil)) (pg_name (i := 4) sc_stream.nd rfl (by first | exact Or.inl rfl | exact Or.inr rfl)) (pss_cons (ps_set (i := 5) sc_stream.nd rfl (by first | exact Or.inl rfl | exact Or.inr rfl) (pe_op op_mod (pe_callTy call_int1 (by rfl) Z.int (by decide +kernel) (pa_cons (pe_op op_add (pe_op op_add (pe_op op_mul (pv 5) pe_int) (pe_op op_mul pe_int (pv 4))) pe_int) pa_nil)) pe_int))
      (pss_one (ps_expr (pe_bm PySem.F.plainAttrs_list PySem.F.slot_list_append PySem.F.type_list_append mt_append (pv 1) (pa_cons (pe_op op_mod (pe_op op_mod (pe_callTy call_int1 (by rfl) Z.int (by decide +kernel) (pa_cons (pe_op op_add (pe_op op_mul (pv 5) pe_int) (pv 4)) pa_nil)) pe_int) pe_int) pa_nil))))))))))))
      (pss_cons (ps_if (pt_cmpR op_eq (pe_callB call_len_seq (by rfl) Z.len (by decide +kernel) (pa_cons (pv 1) pa_nil)) pe_int (nomark _)) (pss_one (ps_expr (pe_bm PySem.F.plainAttrs_list PySem.F.slot_list_append PySem.F.type_list_append mt_append (pv 1) (pa_cons pe_int pa_nil)))) pss_nil)
      (pss_one (ps_ret (pv 1)))))), ?_⟩
  refine ⟨by decide, fun fl nfl => ?_⟩
  have hS1 : SqL K (upd H fl (.lst [])) a (zs.map V.int) := (Same.new nfl).seq hS
  refine ⟨_, rfl, 63, rfl, a, _, rfl, hS1, fun g ng => ?_⟩
  have eg : cutV (zs.map V.int) none (some 63) = zs.map V.int := by
    show cutV (zs.map V.int) none (some ((63 : Nat) : Int)) = _
    rw [cutV_take, List.take_of_length_le (by rw [List.length_map]; exact h63)]
  rw [eg]
  have nfg : g ≠ fl := (ne_of_none upd_same ng).symm
  refine ⟨g, rfl, ⟨_, SqL.mk upd_same⟩, for_list (K := K) (xs := zs.map V.int) (fun i σ H' => ∃ (v1 v2 v3 v4 : Option V) (ns : List Int), σ = [some (.ref a), some (.ref fl), v1, v2, v3, v4] ∧ H' fl = some (.lst (ns.map V.int)) ∧ ns.length ≤ 60 * i ∧ InR ns ∧ Same H H' ∧ H' g = some (.lst (zs.map V.int)))
    ⟨none, none, none, none, [], rfl, by rw [upd_ne nfg.symm]; exact upd_same, by simp, (fun _ h => absurd h List.not_mem_nil), Same.mut (same_free (Same.new nfl) ng) (Same.new nfl), upd_same⟩ (fun i σ H' _ ⟨_, _, _, _, _, _, _, _, _, _, hg⟩ => SqL.mk hg) ?_ ?_⟩
  · rintro i x σ H1 hx ⟨v1, v2, v3, v4, ns, rfl, hf, hl, hn, sm, hg⟩
    obtain ⟨z, hz, rfl⟩ : ∃ z, zs[i]? = some z ∧ V.int z = x := by
      rw [List.getElem?_map] at hx
      cases e : zs[i]? with
      | none => rw [e] at hx; cases hx
      | some z => rw [e] at hx; exact ⟨z, rfl, Option.some.inj hx⟩
    have hi : i < zs.length := (List.getElem?_eq_some_iff.mp hz).1
    refine ⟨_, rfl, .inl ⟨_, rfl, _, rfl, ?_⟩⟩
    have hr0 : 0 ≤ (if z < 0 then -z else z) := by split <;> omega
    generalize (if z < 0 then -z else z) = rs at hr0 ⊢
    refine ⟨_, rfl, _, _, rfl, rfl, ⟨by decide, by decide, by decide⟩, _, _, rfl, rfl, _, rfl, ?_⟩
    refine ite2 (fun _ => ?_) (fun _ => ?_)
    · refine ⟨60, rfl, by decide, by decide, for_range (lo := 0) (n := 60) (fun j σ H' => ∃ (v4 v5 : Option V) (rs : Int) (ns : List Int), σ = [some (.ref a), some (.ref fl), some (.int z), some (.int rs), v4, v5] ∧ 0 ≤ rs ∧ H' fl = some (.lst (ns.map V.int)) ∧ ns.length ≤ 60 * i + j ∧ InR ns ∧ Same H H' ∧ H' g = some (.lst (zs.map V.int)))
        ⟨_, _, rs, ns, rfl, hr0, hf, by omega, hn, sm, hg⟩ ?_ ?_⟩
      · rintro j σ H2 hj ⟨u4, u5, rs, ns, rfl, hr0, hf, hl, hn, sm, hg⟩
        have hsz : (ns.map V.int).length < sizeLine := by rw [List.length_map]; exact Nat.lt_of_le_of_lt hl (Nat.lt_of_lt_of_le (show 60 * i + j < 4000 by omega) (by decide))
        refine ⟨_, rfl, .inl ⟨rfl, _, SqL.mk hf⟩, _, rfl, .inl ⟨_, rfl, _, _, rfl, rfl, (by show (0 : Int) < 1009; decide), fl, _, _, rfl, rfl, hf, hsz, ?_⟩⟩
        have hf2 : (upd H2 fl (.lst (ns.map V.int ++ [V.int (rs % 1009)]))) fl = some (.lst ((ns ++ [rs % 1009]).map V.int)) := by rw [List.map_append]; exact upd_same
        have hl2 : (ns ++ [rs % 1009]).length ≤ 60 * i + (j + 1) := by rw [List.length_append, List.length_singleton]; omega
        have sm2 : Same H (upd H2 fl (.lst (ns.map V.int ++ [V.int (rs % 1009)]))) := Same.mut nfl sm
        have hg2 : (upd H2 fl (.lst (ns.map V.int ++ [V.int (rs % 1009)]))) g = some (.lst (zs.map V.int)) := by rw [upd_ne nfg]; exact hg
        have hn2 : InR (ns ++ [rs % 1009]) := hn.snoc (mod_in rs).1 (mod_in rs).2
        refine ⟨_, rfl, _, _, rfl, rfl, ⟨by decide, by decide⟩, ?_⟩
        refine ⟨_, rfl, rfl, _, rfl, ?_⟩
        refine ite2 (fun _ => ?_) (fun _ => ?_)
        · exact ⟨_, _, _, _, ns ++ [rs % 1009], rfl, hf2, by omega, hn2, sm2, hg2⟩
        · exact ⟨_, _, _, ns ++ [rs % 1009], rfl, Int.ediv_nonneg hr0 (by decide), hf2, hl2, hn2, sm2, hg2⟩
      · rintro σ H2 ⟨u4, u5, rs, ns, rfl, hr0, hf, hl, hn, sm, hg⟩
        exact ⟨_, _, _, _, ns, rfl, hf, by omega, hn, sm, hg⟩
    · refine ⟨_, rfl, .inl ⟨_, rfl, _, _, rfl, rfl, (by show (0 : Int) < 2147483647; decide), ?_⟩⟩
      refine ⟨10, rfl, by decide, by decide, for_range (lo := 0) (n := 10) (fun j σ H' => ∃ (v4 : Option V) (mx : Int) (ns : List Int), σ = [some (.ref a), some (.ref fl), some (.int z), some (.int rs), v4, some (.int mx)] ∧ H' fl = some (.lst (ns.map V.int)) ∧ ns.length ≤ 60 * i + j ∧ InR ns ∧ Same H H' ∧ H' g = some (.lst (zs.map V.int)))
        ⟨_, _, ns, rfl, hf, by omega, hn, sm, hg⟩ ?_ ?_⟩
      · rintro j σ H2 hj ⟨u4, mx, ns, rfl, hf, hl, hn, sm, hg⟩
        refine ⟨_, rfl, _, _, rfl, rfl, .inr ⟨by decide, by decide⟩, _, rfl, _, _, rfl, rfl, .inl ⟨by decide, by decide⟩, _, _, rfl, rfl, _, _, rfl, rfl, .inl ⟨_, rfl, _, _, rfl, rfl, (by show (0 : Int) < 2147483647; decide), ?_⟩⟩
        have hsz : (ns.map V.int).length < sizeLine := by rw [List.length_map]; exact Nat.lt_of_le_of_lt hl (Nat.lt_of_lt_of_le (show 60 * i + j < 4000 by omega) (by decide))
        refine ⟨_, rfl, .inl ⟨rfl, _, SqL.mk hf⟩, _, rfl, _, _, rfl, rfl, .inr ⟨by decide, by decide⟩, _, rfl, _, _, rfl, rfl, .inl ⟨_, rfl, _, _, rfl, rfl, (by show (0 : Int) < 2147483629; decide), _, _, rfl, rfl, (by show (0 : Int) < 1009; decide), fl, _, _, rfl, rfl, hf, hsz, ?_⟩⟩
        refine ⟨_, _, ns ++ [_], rfl, by rw [List.map_append]; exact upd_same, by rw [List.length_append, List.length_singleton]; omega, hn.snoc (mod_in _).1 (mod_in _).2, Same.mut nfl sm, by rw [upd_ne nfg]; exact hg⟩
      · rintro σ H2 ⟨u4, mx, ns, rfl, hf, hl, hn, sm, hg⟩
        exact ⟨_, _, _, _, ns, rfl, hf, by omega, hn, sm, hg⟩
  · rintro σ H1 ⟨v1, v2, v3, v4, ns, rfl, hf, hl, hn, sm, hg⟩
    rw [List.length_map] at hl
    refine ⟨_, rfl, fl, _, rfl, .inl (SqL.mk hf), rfl, _, rfl, ?_⟩
    refine ite2 (fun he => ?_) (fun he => ?_)
    · have hsz : (ns.map V.int).length < sizeLine := by rw [List.length_map]; exact Nat.lt_of_le_of_lt hl (Nat.lt_of_lt_of_le (show 60 * zs.length < 4000 by omega) (by decide))
      refine ⟨_, rfl, .inl ⟨rfl, _, SqL.mk hf⟩, fl, _, _, rfl, rfl, hf, hsz, ?_⟩
      refine ⟨_, rfl, ?_⟩
      exact q fl (ns ++ [0]) _ nfl (Same.mut nfl sm) (by rw [List.map_append]; exact upd_same) (by simp) (by rw [List.length_append, List.length_singleton]; omega) (hn.snoc (by decide) (by decide))
    · refine ⟨_, rfl, ?_⟩
      refine q fl ns _ nfl sm hf (fun z => ?_) (by omega) hn
      subst z
      exact he (decide_eq_true rfl)
end
end K80

set_option Elab.async false
set_option linter.all false
set_option maxRecDepth 100000
set_option maxHeartbeats 4000000
namespace Pg
open PySem PySem.Spec PyProof.Rows L2
/-! ### any nest of tuples and texts: its nodes, from left to right -/
mutual
def preD : PyData → List PyData
  | .tuple ds => .tuple ds :: preT ds
  | d => [d]
def preT : List PyData → List PyData
  | [] => []
  | _ :: ds => preDs ds
def preDs : List PyData → List PyData
  | [] => []
  | d :: ds => preD d ++ preDs ds
end
mutual
def nest : PyData → Bool
  | .str _ => true
  | .tuple ds => nestAll ds
  | _ => false
def nestAll : List PyData → Bool
  | [] => true
  | d :: ds => nest d && nestAll ds
end
theorem preDs_flat : ∀ ds : List PyData, preDs ds = ds.flatMap preD
  | [] => rfl
  | d :: ds => by rw [preDs, preDs_flat ds, List.flatMap_cons]
theorem preD_tup (ds : List PyData) : preD (.tuple ds) = .tuple ds :: (ds.drop 1).flatMap preD := by
  cases ds with
  | nil => rfl
  | cons d ds => rw [preD, preT, preDs_flat]; rfl
theorem preD_str (x : Str) : preD (.str x) = [.str x] := rfl
theorem preD_pos (d : PyData) : 1 ≤ (preD d).length := by cases d <;> first | exact Nat.le_refl _ | (rw [preD_tup]; show 1 ≤ _ + 1; omega)
theorem nestAll_mem : ∀ {ds : List PyData}, nestAll ds = true → ∀ d ∈ ds, nest d = true
  | [], _, d, h => absurd h List.not_mem_nil
  | e :: ds, h, d, m => by
    rw [nestAll, Bool.and_eq_true] at h
    rcases List.mem_cons.mp m with e1 | e1
    · rw [e1]; exact h.1
    · exact nestAll_mem h.2 d e1
section
variable {K : PySem.W.Frag} {H H' : Hp}
mutual
theorem dp_tk (k : TK K H H') : ∀ (d : PyData) (v : V), nest d = true → Dp K H v d → Dp K H' v d
  | .str _, _, _, h => by cases h; exact .str _
  | .tuple ds, _, n, h => by
    cases h with
    | tup hq ha => exact .tup (k _ _ hq) (dpAll_tk k ds _ n ha)
  | .none, _, n, _ => by cases n
  | .bool _, _, n, _ => by cases n
  | .int _, _, n, _ => by cases n
  | .list _, _, n, _ => by cases n
  | .dict _, _, n, _ => by cases n
theorem dpAll_tk (k : TK K H H') : ∀ (ds : List PyData) (vs : List V), nestAll ds = true → DpAll K H vs ds → DpAll K H' vs ds
  | [], _, _, h => by cases h; exact .nil
  | d :: ds, _, n, h => by
    have n' : (nest d && nestAll ds) = true := n
    rw [Bool.and_eq_true] at n'
    cases h with
    | cons a b => exact .cons (dp_tk k d _ n'.1 a) (dpAll_tk k ds _ n'.2 b)
end
theorem dpAll_paired : ∀ {vs : List V} {ds : List PyData}, DpAll K H vs ds → Paired (Dp K H) vs ds
  | _, [], h => by cases h; exact .nil
  | _, d :: ds, h => by cases h with | cons a b => exact .cons a (dpAll_paired b)
theorem paired_dpAll : ∀ {vs : List V} {ds : List PyData}, Paired (Dp K H) vs ds → DpAll K H vs ds
  | _, _, .nil => .nil
  | _, _, .cons a b => .cons a (paired_dpAll b)
/-- values that are nests -/
abbrev NsAt (K : PySem.W.Frag) (H : Hp) (vs : List V) (ds : List PyData) : Prop := Paired (fun v d => Dp K H v d ∧ nest d = true) vs ds
theorem NsAt.keep {vs : List V} {ds : List PyData} (k : TK K H H') (h : NsAt K H vs ds) : NsAt K H' vs ds := Paired.imp2 (fun _ _ ⟨a, b⟩ => ⟨dp_tk k _ _ b a, b⟩) h
theorem ns_of : ∀ {vs : List V} {ds : List PyData}, DpAll K H vs ds → nestAll ds = true → NsAt K H vs ds
  | _, [], h, _ => by cases h; exact .nil
  | _, d :: ds, h, n => by
    rw [nestAll, Bool.and_eq_true] at n
    cases h with
    | cons a b => exact .cons ⟨a, n.1⟩ (ns_of b n.2)
theorem NsAt.drop1 {vs : List V} {ds : List PyData} (h : NsAt K H vs ds) : NsAt K H (vs.drop 1) (ds.drop 1) := by
  cases h with
  | nil => exact .nil
  | cons a b => exact b
end
def most (d : PyData) : Option Nat → List PyData
  | none => preD d
  | some m => (preD d).take m
def mostV : Option Nat → V
  | none => .non
  | some m => .int (m : Nat)
def spNds (K : PySem.W.Frag) : Sp := fun vs H Q _ => ∃ (v : V) (d : PyData) (o : Option Nat), vs = [v, mostV o] ∧ Dp K H v d ∧ nest d = true ∧ (preD d).length ≤ 100000 ∧ ∀ p H' ws, H p = none → Same H H' → H' p = some (.lst ws) → NsAt K H' ws (most d o) → Q (.ref p) H'
theorem mul_len_le : ∀ {ds : List PyData}, ds.length ≤ (ds.map fun d => (preD d).length).sum
  | [] => Nat.le_refl _
  | d :: ds => by have := preD_pos d; have := mul_len_le (ds := ds); rw [List.length_cons, List.map_cons, List.sum_cons]; omega
theorem flat_lenD : ∀ ds : List PyData, (ds.flatMap preD).length = (ds.map fun d => (preD d).length).sum
  | [] => rfl
  | d :: ds => by rw [List.flatMap_cons, List.length_append, flat_lenD ds]; rfl
theorem sum_revD (ds : List PyData) : (ds.reverse.map fun d => (preD d).length).sum = (ds.map fun d => (preD d).length).sum := by
  rw [List.map_reverse]
  exact List.sum_reverse _
/-- a def with one default None, called with all its arguments -/
theorem mk_cal2 {P : Program} {w : World} {K : PySem.W.Frag} {mg : Str → Option Value} {base : Heap} {x : Str} {st : Stmt} {f : Addr} {fd : FuncData} {N ps : List Str} {k n : Nat} {sp : Sp} (F : FunD K x x (defArgs st) (defBody st) (defScope st) [.non] [] f fd) (hm : mg x = some (.ref f)) (S : FnScope N ps (defScope st)) (hn : n = ps.length)
    (hb : ∀ (T : Addr) (kV doc pm : Value) (an : Option Addr) (cdv ct : Value) (us its : List Value), us.length = n → its.length = 1 → ∃ k, bindArgs (PySem.W.fnOf x x (defArgs st) (defBody st) (defScope st) (.ref T) kV doc pm an cdv ct) ⟨us, []⟩ = seqItems? (.ref T) >>= k ∧ k (some its.toArray) = pure (ps.zip (us ++ its.drop 1)))
    (len : ∀ vs H Q E, sp vs H Q E → vs.length = ps.length)
    (body : ∀ (cdv : Value) (A : Around) (outer : List Env) (s : Shared) (H : Hp) (vs : List V) (Q : VK) (E : XK), Room k (A.deeper (envOfC x (defScope st) s.heap.objs.size f cdv)) → sp vs H Q E →
      ∃ t, PSs (cxOf CX0 P w K mg base N x (defScope st) f cdv A outer s H E).nox (defBody st) t ∧ t { nx := fun _ H' => Q .non H', rt := Q } (start N vs) H) : Cal P w K mg base (k + 1) x sp [] := by
  obtain ⟨ds, hv, hbn⟩ := F.binds1 (ps := ps) n 1 (by simp) (by simpa using hn) (fun T kV doc pm an cdv ct us its h1 h2 => hb T kV doc pm an cdv ct us its h1 (by simpa using h2))
  exact ⟨f, fd, ps, ds, F.ok S len (fun cdv A outer s H vs Q E hr h => let ⟨t, a, b⟩ := body cdv A outer s H vs Q E hr h; ⟨t, a.nox, b⟩), hm, F.kp, hbn, hv⟩
end Pg

set_option Elab.async false
set_option linter.all false
set_option maxRecDepth 100000
set_option maxHeartbeats 4000000
namespace Pg
open PySem PySem.Spec PyProof.Rows L2 LamX
/-! ### lambdas without captured names, as values -/
/-- the object at f is the lambda -/
def LamO (f : Addr) (q : Str) (params : Arguments) (body : Expr) (scope : Scope) (c' : Addr) : HO := .ext fun h => ∃ pm ctv : Value, h.get? f = some (PySem.W.kla_obj "<lambda>" q params body scope [] pm c' ctv)
/-- all but the table at P -/
def ButP (P : Addr) (H H' : Hp) : Prop := ∀ b o, b ≠ P → H b = some o → H' b = some o
def tLamV (P : Addr) (q : Str) (params : Arguments) (body : Expr) (scope : Scope) : TE := fun _ H Q => TabS H P q ∧ ∀ (f c' : Addr) (H1 : Hp), ButP P H H1 → TabS H1 P q → H f = none → H1 f = some (LamO f q params body scope c') → H1 c' = some (CodeO c' q) → Q (.ref f) H1
theorem lamO_ok {Pr : Program} {w : World} {H : Hp} {h : Heap} {f c' : Addr} {q : Str} {params : Arguments} {body : Expr} {scope : Scope} {pm ctv : Value} (e : h.get? f = some (PySem.W.kla_obj "<lambda>" q params body scope [] pm c' ctv)) : ObjOk Pr w H h f (LamO f q params body scope c') :=
  ⟨⟨pm, ctv, e⟩, ⟨_, e⟩, fun h1 h2 ⟨p, t, z⟩ st => ⟨p, t, st _ z⟩⟩
section
variable {X : Cx}
theorem pe_lamV {c P : Addr} {params : Arguments} {body : Expr} {scope : Scope} {pos : Pos} (TB : TabB X.base X.mg c P) (hcode : X.env.code = .ref c) (hdef : defaultsOf params X.env = ([], [])) (hcl : closureFor scope X.env = pure []) :
    PE X (.Lambda params body scope pos) (tLamV P (X.env.qual ++ "<lambda>") params body scope) := by
  refine ⟨fun pins s σ H Q I h => ?_⟩
  obtain ⟨⟨ps, hP, ht, ha⟩, k⟩ := h
  refine PySem.W.kla_eval hdef ?_
  have tabAt : s.heap.get? P = some { cls := .none, data := .fields ps } := I.hok P _ hP
  cases hc : codeAmong pos ps.toList with
  | none =>
    refine PySem.W.kla_makeFunction (mg := X.mg) (c := c) (P := P) (ps := ps) hcl I.ok.glob (I.mod.glob.keeps I.bk) hcode (TB.code.keeps I.bk) tabAt ht hc TB.gP (TB.bm.keeps I.bk) fun c' ctv h' tk hx hge hlt hrec htb => ?_
    obtain ⟨c2, oc, vs, t, e2, hoc, hd, hv⟩ := hrec
    cases e2
    have freeC : H c' = none := I.hok.fresh hge
    have J := inv_table (t' := tk) (more := #[rawInt pos.line, rawInt pos.col, .ref c']) (h' := h') (q := X.env.qual ++ "<lambda>") I hP (fun b o hb e => hx b o hb e) htb hge ⟨oc, vs, t, hoc, hd, hv⟩
    have nPc : P ≠ c' := ne_of_none hP freeC
    have freeF := J.hok.fresh (Nat.le_refl h'.objs.size)
    have J2 := J.laid (t' := tk) (a := h'.objs.size) (h' := h'.push (PySem.W.kla_obj "<lambda>" (X.env.qual ++ "<lambda>") params body scope [] ((X.mg "__name__").getD .none) c' ctv)) (fun b u e => Heap.get?_push_of_some _ e) (Nat.le_refl _) (lamO_ok (f := h'.objs.size) (q := X.env.qual ++ "<lambda>") (Heap.get?_push_size _ rfl))
    have kept : ButP P H (upd (upd (upd H P (.tbl (ps ++ #[rawInt pos.line, rawInt pos.col, .ref c']))) c' (CodeO c' (X.env.qual ++ "<lambda>"))) h'.objs.size (LamO h'.objs.size (X.env.qual ++ "<lambda>") params body scope c')) := fun b o nb e => by
      have e1 : upd (upd H P (.tbl (ps ++ #[rawInt pos.line, rawInt pos.col, .ref c']))) c' (CodeO c' (X.env.qual ++ "<lambda>")) b = some o := by rw [upd_ne (ne_of_none e freeC), upd_ne nb]; exact e
      rw [upd_ne (ne_of_none e1 freeF)]
      exact e1
    have hPF : P ≠ h'.objs.size := ne_of_none (show upd (upd H P (.tbl (ps ++ #[rawInt pos.line, rawInt pos.col, .ref c']))) c' (CodeO c' (X.env.qual ++ "<lambda>")) P = some (.tbl (ps ++ #[rawInt pos.line, rawInt pos.col, .ref c'])) by rw [upd_ne nPc]; exact upd_same) freeF
    have hcF : c' ≠ h'.objs.size := Nat.ne_of_lt hlt
    refine ⟨.ref h'.objs.size, _, J2, rfl, k _ c' _ kept ⟨ps ++ #[rawInt pos.line, rawInt pos.col, .ref c'], by rw [upd_ne hPF, upd_ne nPc]; exact upd_same, ?_, fun p' cv hcv => ?_⟩ (I.hok.fresh (Nat.le_trans hge (Nat.le_of_lt hlt))) upd_same (by rw [upd_ne hcF]; exact upd_same)⟩
    · rw [show (ps ++ #[rawInt pos.line, rawInt pos.col, Value.ref c']).toList = ps.toList ++ [rawInt pos.line, rawInt pos.col, .ref c'] by simp]
      exact PySem.TriplesOk_snoc _ _ _ _ ht
    · rw [show (ps ++ #[rawInt pos.line, rawInt pos.col, Value.ref c']).toList = ps.toList ++ [rawInt pos.line, rawInt pos.col, .ref c'] by simp] at hcv
      rcases among_app _ ht hcv with z | z
      · obtain ⟨c0, z1, z2⟩ := ha p' cv z
        have nc0 : c0 ≠ P := fun y => by
          rw [y, hP] at z2
          exact codeO_ne ps (Option.some.inj z2).symm
        exact ⟨c0, z1, kept _ _ nc0 z2⟩
      · exact ⟨c', z, by rw [upd_ne hcF]; exact upd_same⟩
  | some cv =>
    obtain ⟨c', e, hco⟩ := ha pos cv hc
    subst e
    refine PySem.W.kla_makeFunctionHit (mg := X.mg) (c := c) (P := P) (ps := ps) hcl I.ok.glob (I.mod.glob.keeps I.bk) hcode (TB.code.keeps I.bk) tabAt ht hc (TB.bm.keeps I.bk) fun ctv h' tk hx hsz => ?_
    have J : Inv X pins σ H { s with heap := h', toks := tk } := I.kept hx
    have freeF := J.hok.fresh (Nat.le_refl h'.objs.size)
    have J2 := J.laid (t' := tk) (a := h'.objs.size) (h' := h'.push (PySem.W.kla_obj "<lambda>" (X.env.qual ++ "<lambda>") params body scope [] ((X.mg "__name__").getD .none) c' ctv)) (fun b u e => Heap.get?_push_of_some _ e) (Nat.le_refl _) (lamO_ok (f := h'.objs.size) (q := X.env.qual ++ "<lambda>") (Heap.get?_push_size _ rfl))
    have kept : ∀ b o, H b = some o → (upd H h'.objs.size (LamO h'.objs.size (X.env.qual ++ "<lambda>") params body scope c')) b = some o := fun b o e => by
      rw [upd_ne (ne_of_none e freeF)]
      exact e
    exact ⟨.ref h'.objs.size, _, J2, rfl, k _ c' _ (fun b o _ e => kept b o e) ⟨ps, kept _ _ hP, ht, fun p' cv hcv => let ⟨c0, z1, z2⟩ := ha p' cv hcv; ⟨c0, z1, kept _ _ z2⟩⟩ freeF upd_same (kept _ _ hco)⟩
end
end Pg

set_option Elab.async false
set_option linter.all false
set_option maxRecDepth 100000
set_option maxHeartbeats 4000000
namespace Pg
open PySem PySem.Spec PyProof.Rows L2 LamX
/-! ### the promise of a lambda; a slot that holds a def of the program or a lambda -/
structure LamOk (P : Program) (w : World) (K : PySem.W.Frag) (mg : Str → Option Value) (base : Heap) (k : Nat) (q : Str) (params : Arguments) (body : Expr) (scope : Scope) (sp : Sp) : Prop where
  run : ∀ (f c' : Addr) (A : Around) (outer : List Env) (s : Shared) (H : Hp) (us : List Value) (vs : List V) (Q : VK), Room k A → Env0 P w K mg base A outer s H → H f = some (LamO f q params body scope c') → H c' = some (CodeO c' q) → Vals vs us → sp vs H Q E0 →
    codeAny (model P w) A (.call (.ref f) ⟨us, []⟩) (CR CX0 outer P w H s Q E0) s
theorem lam_ok {P : Program} {w : World} {K : PySem.W.Frag} {mg : Str → Option Value} {base : Heap} {k : Nat} {q : Str} {params : Arguments} {body : Expr} {scope : Scope} {N ps : List Str} {sp : Sp} (S : FnScope N ps scope)
    (hb : ∀ (pm cv ctv : Value) (us : List Value), us.length = ps.length → bindArgs (PySem.W.kla_fn "<lambda>" q params body scope [] pm cv ctv) ⟨us, []⟩ = pure (ps.zip us)) (len : ∀ vs H Q E, sp vs H Q E → vs.length = ps.length)
    (hbody : ∀ (f c' : Addr) (A : Around) (outer : List Env) (s : Shared) (H : Hp) (vs : List V) (Q : VK), Room k (A.deeper (envOfC q scope s.heap.objs.size f (.ref c'))) → sp vs H Q E0 →
      ∃ te, PE (cxOf CX0 P w K mg base N q scope f (.ref c') A outer s H E0).nox body te ∧ te (start N vs) H Q) : LamOk P w K mg base (k + 1) q params body scope sp := by
  refine ⟨fun f c' A outer s H us vs Q room env hf hc rv hsp => ?_⟩
  obtain ⟨⟨pm, ctv, hobj⟩, _, _⟩ := env.hok f _ hf
  obtain ⟨⟨oc, fs, t, hoc, hdc, hvc⟩, _, _⟩ := env.hok c' _ hc
  have lim : s.heap.NoLimit := env.mod.nolimit.keeps fun b o e => (env.bs b o e).1
  have hl := len _ _ _ _ hsp
  refine PySem.W.kla_callFunE room.depth hobj rfl S.co S.gen rfl ⟨c', oc, fs, t, rfl, hoc, hdc, hvc⟩ ?_
  rw [hb _ _ _ us (by rw [← rv.length]; exact hl)]
  have kinds : ∀ y ∈ ps.zip us, scope.names.lookup y.1 = some .local ∨ (scope.names.lookup y.1 = some .cell ∧ ((cellsFrom (s.heap.objs.size + 1) scope.names []).lookup y.1).isSome = true) := fun ⟨n, v⟩ hy =>
    (S.par n (List.of_mem_zip hy).1).imp_right fun z => ⟨z, PySem.W.cellsFrom_some _ _ _ (.inl z)⟩
  refine wpAny_pure (wpAny_newFunctionEnv_cells S.kind kinds fun ev he s1 x => ?_)
  subst he
  refine ⟨lim.keeps x.toInCall.keep, ?_⟩
  obtain ⟨te, ht, hq⟩ := hbody f c' A outer s H vs Q (room.deeper _) hsp
  have I := inv_start (CX := CX0) (E := E0) S room.hd env hl rv x
  refine PySem.W.kla_codeExpr (wpAny_mono (ht.nox.run [] s1 (start N vs) H Q I hq) (fun u s' hs => ?_) fun e s' hs => hs)
  obtain ⟨v, H', J, rv, q⟩ := hs
  exact ⟨v, H', J.os, J.bare, J.base, J.hok, rv, q⟩
/-- v may be called with this promise -/
def Calb (P : Program) (w : World) (K : PySem.W.Frag) (mg : Str → Option Value) (base : Heap) (k : Nat) (sp : Sp) (H : Hp) (v : V) : Prop :=
  (∃ (f : Addr) (fd : FuncData) (ps : List Str), v = .ref f ∧ FnOk P w K mg base CX0 k f fd ps sp ∧ PySem.W.keepIn K (.ref f) = true ∧ Binds K fd ps []) ∨
  ∃ (f c' : Addr) (q : Str) (params : Arguments) (body : Expr) (scope : Scope), v = .ref f ∧ LamOk P w K mg base k q params body scope sp ∧ H f = some (LamO f q params body scope c') ∧ H c' = some (CodeO c' q)
theorem lamO_tbl {f c' : Addr} {q : Str} {params : Arguments} {body : Expr} {scope : Scope} (ps : Array Value) : LamO f q params body scope c' ≠ .tbl ps := fun z => by
  unfold LamO at z
  cases z
theorem Calb.keep {P : Program} {w : World} {K : PySem.W.Frag} {mg : Str → Option Value} {base : Heap} {k : Nat} {sp : Sp} {H H' : Hp} {v : V} (s : Same H H') (c : Calb P w K mg base k sp H v) : Calb P w K mg base k sp H' v := by
  rcases c with c | ⟨f, c', q, pa, bo, sc, e, l, h1, h2⟩
  · exact .inl c
  · exact .inr ⟨f, c', q, pa, bo, sc, e, l, s _ _ h1, s _ _ h2⟩
section
variable {X : Cx} {k j i : Nat} {x : Str} {sp : Sp} {p pos : Pos} {e : Expr} {es : List Expr} {t : TA}
/-- what is known by a property of the real heap is known still -/
def ExtK (H H' : Hp) : Prop := ∀ b φ, H b = some (HO.ext φ) → H' b = some (HO.ext φ)
def tCallV (P : Program) (w : World) (K : PySem.W.Frag) (mg : Str → Option Value) (base : Heap) (k i : Nat) (sp : Sp) (t : TA) : TE := fun σ H Q => ∃ v, σ[i]? = some (some v) ∧ Calb P w K mg base k sp H v ∧ t σ H fun vs H1 => ExtK H H1 ∧ sp vs H1 Q E0
theorem pe_callV (hr : Room j X.A) (hk : k ≤ j) (hN : X.N[i]? = some x) (hv : Vis X.env.scope x) (ha : PA X (e :: es) t)
    (hdb : (x == ("__debug__" : Str)) = false := by decide) (hcd : (x == ("__classdict__" : Str)) = false := by decide)
    (he : starEach (e :: es) X.env = (false, eval e X.env) :: starEach es X.env := by rfl) (hpl : (backTo pos (starEach es X.env)).any (·.1) = false := by rfl) :
    PE X (.Call (.Name x p) (e :: es) [] pos) (tCallV X.prog X.w X.K X.mg X.base k i sp t) := by
  refine ⟨fun pins s σ H Q I h => ?_⟩
  obtain ⟨v, hs, hc, ht⟩ := h
  refine wpAny_Call_Name_kw (thn ((pe_var (pos := p) hN hv hdb hcd).run pins s σ H (fun y Hy => y = v ∧ Hy = H) I ⟨v, hs, rfl, rfl⟩) fun u s1 ⟨y, Hy, I1, ry, ey, eH⟩ => ?_)
  rw [ey] at ry
  rw [eH] at I1
  rcases hc with ⟨f, fd, ps, rfl, F, hkp, hbd⟩ | ⟨f, c', q, pa, bo, sc, rfl, L, hf, hcode⟩
  · obtain rfl : u = Value.ref f := ry
    refine PySem.W.callWith_K (h₀ := X.base) I.ok.mod.kin hkp (thn (ha.run pos pins s1 σ H _ I1 ht) fun us s2 ⟨vs, H2, I2, r, z⟩ => ⟨I2.kIn, ?_⟩) he hpl
    exact run_fn F (hr.mono hk) hbd .nil pass0 I2 r (by rw [List.append_nil]; exact z.2)
  · obtain rfl : u = Value.ref f := ry
    have here : ∀ {s' : Shared} {H' : Hp}, Inv X pins σ H' s' → H' f = some (LamO f q pa bo sc c') → PySem.W.FnAt f s'.heap := fun J hf' => by
      obtain ⟨⟨pm, ctv, ho⟩, _, _⟩ := J.hok f _ hf'
      exact ⟨_, _, _, _, ho⟩
    refine PySem.W.callWith_F (first := []) (here I1 hf) (thn (ha.run pos pins s1 σ H _ I1 ht) fun us s2 ⟨vs, H2, I2, r, z1, z2⟩ => ⟨here I2 (z1 f _ hf), ?_⟩) he hpl
    show wpAny _ _ (call (.ref f) us) _ _ _
    refine wpAny_call (codeAny_mono (L.run f c' X.A X.stack s2 H2 us vs Q (hr.mono hk) I2.env0 (z1 f _ hf) (z1 c' _ hcode) r z2) fun r s' hq => ?_)
    cases r with
    | error e => exact (show False from hq).elim
    | ok fl =>
      cases fl with
      | ret u => exact I2.after hq
      | next => exact False.elim hq
      | brk => exact False.elim hq
      | cont => exact False.elim hq
end
end Pg

set_option Elab.async false
set_option linter.all false
set_option maxRecDepth 100000
set_option maxHeartbeats 4000000
namespace Pg
open PySem PySem.Spec PyProof.Rows L2
/-! ### terms as nests -/
theorem dp_tr {K : PySem.W.Frag} {H : Hp} : ∀ {t : Tr} {v : V}, Dp K H v (trD t) → TrAt K H t v
  | .nm x, v, h => by
    cases (show Dp K H v (.str x) from h)
    rfl
  | .c0 s, v, h => by
    cases (show Dp K H v (.tuple [.str s]) from h) with
    | tup hq ha =>
      cases ha with
      | cons a b => cases a; cases b; exact ⟨_, rfl, hq⟩
  | .c1 s t, v, h => by
    cases (show Dp K H v (.tuple [.str s, trD t]) from h) with
    | tup hq ha =>
      cases ha with
      | cons a b => cases a; cases b with
        | cons c d => cases d; exact ⟨_, _, rfl, hq, dp_tr c⟩
  | .c2 s t u, v, h => by
    cases (show Dp K H v (.tuple [.str s, trD t, trD u]) from h) with
    | tup hq ha =>
      cases ha with
      | cons a b => cases a; cases b with
        | cons c d => cases d with
          | cons e f => cases f; exact ⟨_, _, _, rfl, hq, dp_tr c, dp_tr e⟩
theorem nest_tr : ∀ t : Tr, nest (trD t) = true
  | .nm _ => rfl
  | .c0 _ => rfl
  | .c1 _ t => by simp only [trD, nest, nestAll, nest_tr t, Bool.and_self]
  | .c2 _ t u => by simp only [trD, nest, nestAll, nest_tr t, nest_tr u, Bool.and_self]
theorem preD_tr : ∀ t : Tr, preD (trD t) = (pre t).map trD
  | .nm _ => rfl
  | .c0 _ => rfl
  | .c1 s t => by
    show preD (.tuple [.str s, trD t]) = _
    rw [preD_tup]
    show _ :: [trD t].flatMap preD = trD (.c1 s t) :: (pre t).map trD
    rw [List.flatMap_cons, List.flatMap_nil, List.append_nil, preD_tr t]
    rfl
  | .c2 s t u => by
    show preD (.tuple [.str s, trD t, trD u]) = _
    rw [preD_tup]
    show _ :: [trD t, trD u].flatMap preD = trD (.c2 s t u) :: (pre t ++ pre u).map trD
    rw [List.flatMap_cons, List.flatMap_cons, List.flatMap_nil, List.append_nil, preD_tr t, preD_tr u, List.map_append]
    rfl
theorem ns_kids {K : PySem.W.Frag} {H : Hp} : ∀ {ws : List V} {ts : List Tr}, NsAt K H ws (ts.map trD) → KidsAt K H ws ts
  | _, [], h => by cases h; exact .nil
  | _, t :: ts, h => by
    cases h with
    | cons a b => exact .cons (dp_tr a.1) (ns_kids b)
/-- what a term's tuple is -/
theorem TrAt.split {K : PySem.W.Frag} {H : Hp} {t : Tr} {v : V} (h : TrAt K H t v) : (∃ x, t = .nm x ∧ v = .str x) ∨ ((∀ x, t ≠ .nm x) ∧ ∃ p us, v = .ref p ∧ SqT K H p (.str t.sym :: us) ∧ KidsAt K H us t.kids) := by
  cases t with
  | nm x => exact .inl ⟨x, rfl, h⟩
  | c0 s => obtain ⟨p, e, q⟩ := h; exact .inr ⟨(fun x z => by cases z), p, [], e, q, .nil⟩
  | c1 s t => obtain ⟨p, u, e, q, r⟩ := h; exact .inr ⟨(fun x z => by cases z), p, [u], e, q, .cons r .nil⟩
  | c2 s t t' => obtain ⟨p, u, u', e, q, r, r'⟩ := h; exact .inr ⟨(fun x z => by cases z), p, [u, u'], e, q, .cons r (.cons r' .nil)⟩
/-! ### fold: R tells of each term the value that is made of it -/
/-- of_name's promise -/
def spOn (Ok : Tr → Prop) (R : Hp → Tr → V → Prop) : Sp := fun vs H Q _ => ∃ x : Str, vs = [.str x] ∧ Ok (.nm x) ∧ ∀ r H', Same H H' → R H' (.nm x) r → Q r H'
/-- of_sign's promise: what was made of the parts stands in a list -/
def spOs (Ok : Tr → Prop) (R : Hp → Tr → V → Prop) : Sp := fun vs H Q _ => ∃ (t : Tr) (p : Addr) (rs : List V), vs = [.str t.sym, .ref p] ∧ (∀ x, t ≠ .nm x) ∧ Ok t ∧ H p = some (.lst rs) ∧ Paired (fun r k => R H k r) rs t.kids ∧ ∀ r H', Same H H' → R H' t r → Q r H'
def spFold (P : Program) (w : World) (K : PySem.W.Frag) (mg : Str → Option Value) (base : Heap) (k : Nat) (Ok : Tr → Prop) (R : Hp → Tr → V → Prop) : Sp := fun vs H Q _ => ∃ (v fn fs : V) (t : Tr), vs = [v, fn, fs] ∧ TrAt K H t v ∧ t.size ≤ 100000 ∧ (∀ k ∈ pre t, Ok k) ∧ Calb P w K mg base k (spOn Ok R) H fn ∧ Calb P w K mg base k (spOs Ok R) H fs ∧
  ∀ r H', Same H H' → R H' t r → Q r H'
end Pg

set_option Elab.async false
set_option linter.all false
set_option maxRecDepth 100000
set_option maxHeartbeats 4000000
namespace Pg
open PySem PySem.Spec PyProof.Rows L2 LamX NdefX
/-! ### lambdas with captured names; promises told of the very state -/
def LamOC (f : Addr) (F : NF) (body : Expr) : HO := .ext fun h => ∃ pm ctv : Value, h.get? f = some (PySem.W.kla_obj "<lambda>" F.qual F.params body F.scope F.cl pm F.c ctv)
theorem lamOC_ok {Pr : Program} {w : World} {H : Hp} {h : Heap} {f : Addr} {F : NF} {body : Expr} {pm ctv : Value} (e : h.get? f = some (PySem.W.kla_obj "<lambda>" F.qual F.params body F.scope F.cl pm F.c ctv)) : ObjOk Pr w H h f (LamOC f F body) :=
  ⟨⟨pm, ctv, e⟩, ⟨_, e⟩, fun h1 h2 ⟨p, t, z⟩ st => ⟨p, t, st _ z⟩⟩
def lamF (X : Cx) (params : Arguments) (scope : Scope) (c' : Addr) : NF := ⟨"<lambda>", X.env.qual ++ "<lambda>", params, [], scope, cloFrom X.env.cells scope.names [], c'⟩
def tLamC (X : Cx) (P : Addr) (params : Arguments) (body : Expr) (scope : Scope) : TE := fun _ H Q => TabS H P (X.env.qual ++ "<lambda>") ∧ ∀ (f c' : Addr) (H1 : Hp), ButP P H H1 → TabS H1 P (X.env.qual ++ "<lambda>") → H f = none → H1 f = some (LamOC f (lamF X params scope c') body) → H1 c' = some (CodeO c' (X.env.qual ++ "<lambda>")) → Q (.ref f) H1
section
variable {X : Cx}
theorem pe_lamC {c P : Addr} {params : Arguments} {body : Expr} {scope : Scope} {pos : Pos} (TB : TabB X.base X.mg c P) (hcode : X.env.code = .ref c) (hdef : defaultsOf params X.env = ([], [])) (hk : ∀ y ∈ scope.names, y.2 = .free → X.env.scope.names.lookup y.1 = some .cell ∨ X.env.scope.names.lookup y.1 = some .free) :
    PE X (.Lambda params body scope pos) (tLamC X P params body scope) := by
  refine ⟨fun pins s σ H Q I h => ?_⟩
  have hfree : ∀ y ∈ scope.names, y.2 = .free → ∃ c, X.env.cells.lookup y.1 = some c := fun y hy e => (hk y hy e).elim (fun z => I.ok.has _ (.inl z)) fun z => I.ok.has _ (.inr z)
  obtain ⟨⟨ps, hP, ht, ha⟩, k⟩ := h
  refine PySem.W.kla_eval hdef ?_
  have tabAt : s.heap.get? P = some { cls := .none, data := .fields ps } := I.hok P _ hP
  cases hc : codeAmong pos ps.toList with
  | none =>
    refine PySem.W.kla_makeFunction (mg := X.mg) (c := c) (P := P) (ps := ps) (closure_ok hfree) I.ok.glob (I.mod.glob.keeps I.bk) hcode (TB.code.keeps I.bk) tabAt ht hc TB.gP (TB.bm.keeps I.bk) fun c' ctv h' tk hx hge hlt hrec htb => ?_
    obtain ⟨c2, oc, vs, t, e2, hoc, hd, hv⟩ := hrec
    cases e2
    have freeC : H c' = none := I.hok.fresh hge
    have J := inv_table (t' := tk) (more := #[rawInt pos.line, rawInt pos.col, .ref c']) (h' := h') (q := X.env.qual ++ "<lambda>") I hP (fun b o hb e => hx b o hb e) htb hge ⟨oc, vs, t, hoc, hd, hv⟩
    have nPc : P ≠ c' := ne_of_none hP freeC
    have freeF := J.hok.fresh (Nat.le_refl h'.objs.size)
    have J2 := J.laid (t' := tk) (a := h'.objs.size) (h' := h'.push (PySem.W.kla_obj "<lambda>" (X.env.qual ++ "<lambda>") params body scope (cloFrom X.env.cells scope.names []) ((X.mg "__name__").getD .none) c' ctv)) (fun b u e => Heap.get?_push_of_some _ e) (Nat.le_refl _) (lamOC_ok (f := h'.objs.size) (F := lamF X params scope c') (Heap.get?_push_size _ rfl))
    have kept : ButP P H (upd (upd (upd H P (.tbl (ps ++ #[rawInt pos.line, rawInt pos.col, .ref c']))) c' (CodeO c' (X.env.qual ++ "<lambda>"))) h'.objs.size (LamOC h'.objs.size (lamF X params scope c') body)) := fun b o nb e => by
      have e1 : upd (upd H P (.tbl (ps ++ #[rawInt pos.line, rawInt pos.col, .ref c']))) c' (CodeO c' (X.env.qual ++ "<lambda>")) b = some o := by rw [upd_ne (ne_of_none e freeC), upd_ne nb]; exact e
      rw [upd_ne (ne_of_none e1 freeF)]
      exact e1
    have hPF : P ≠ h'.objs.size := ne_of_none (show upd (upd H P (.tbl (ps ++ #[rawInt pos.line, rawInt pos.col, .ref c']))) c' (CodeO c' (X.env.qual ++ "<lambda>")) P = some (.tbl (ps ++ #[rawInt pos.line, rawInt pos.col, .ref c'])) by rw [upd_ne nPc]; exact upd_same) freeF
    have hcF : c' ≠ h'.objs.size := Nat.ne_of_lt hlt
    refine ⟨.ref h'.objs.size, _, J2, rfl, k _ c' _ kept ⟨ps ++ #[rawInt pos.line, rawInt pos.col, .ref c'], by rw [upd_ne hPF, upd_ne nPc]; exact upd_same, ?_, fun p' cv hcv => ?_⟩ (I.hok.fresh (Nat.le_trans hge (Nat.le_of_lt hlt))) upd_same (by rw [upd_ne hcF]; exact upd_same)⟩
    · rw [show (ps ++ #[rawInt pos.line, rawInt pos.col, Value.ref c']).toList = ps.toList ++ [rawInt pos.line, rawInt pos.col, .ref c'] by simp]
      exact PySem.TriplesOk_snoc _ _ _ _ ht
    · rw [show (ps ++ #[rawInt pos.line, rawInt pos.col, Value.ref c']).toList = ps.toList ++ [rawInt pos.line, rawInt pos.col, .ref c'] by simp] at hcv
      rcases among_app _ ht hcv with z | z
      · obtain ⟨c0, z1, z2⟩ := ha p' cv z
        have nc0 : c0 ≠ P := fun y => by
          rw [y, hP] at z2
          exact codeO_ne ps (Option.some.inj z2).symm
        exact ⟨c0, z1, kept _ _ nc0 z2⟩
      · exact ⟨c', z, by rw [upd_ne hcF]; exact upd_same⟩
  | some cv =>
    obtain ⟨c', e, hco⟩ := ha pos cv hc
    subst e
    refine PySem.W.kla_makeFunctionHit (mg := X.mg) (c := c) (P := P) (ps := ps) (closure_ok hfree) I.ok.glob (I.mod.glob.keeps I.bk) hcode (TB.code.keeps I.bk) tabAt ht hc (TB.bm.keeps I.bk) fun ctv h' tk hx hsz => ?_
    have J : Inv X pins σ H { s with heap := h', toks := tk } := I.kept hx
    have freeF := J.hok.fresh (Nat.le_refl h'.objs.size)
    have J2 := J.laid (t' := tk) (a := h'.objs.size) (h' := h'.push (PySem.W.kla_obj "<lambda>" (X.env.qual ++ "<lambda>") params body scope (cloFrom X.env.cells scope.names []) ((X.mg "__name__").getD .none) c' ctv)) (fun b u e => Heap.get?_push_of_some _ e) (Nat.le_refl _) (lamOC_ok (f := h'.objs.size) (F := lamF X params scope c') (Heap.get?_push_size _ rfl))
    have kept : ∀ b o, H b = some o → (upd H h'.objs.size (LamOC h'.objs.size (lamF X params scope c') body)) b = some o := fun b o e => by
      rw [upd_ne (ne_of_none e freeF)]
      exact e
    exact ⟨.ref h'.objs.size, _, J2, rfl, k _ c' _ (fun b o _ e => kept b o e) ⟨ps, kept _ _ hP, ht, fun p' cv hcv => let ⟨c0, z1, z2⟩ := ha p' cv hcv; ⟨c0, z1, kept _ _ z2⟩⟩ freeF upd_same (kept _ _ hco)⟩
end
/-- the promise of a lambda with captured names -/
structure LamNOk (P : Program) (w : World) (K : PySem.W.Frag) (mg : Str → Option Value) (base : Heap) (k : Nat) (F : NF) (body : Expr) (fr : List Str) (sp : List (Option V) → Sp) : Prop where
  run : ∀ (f : Addr) (A : Around) (outer : List Env) (s : Shared) (H : Hp) (us : List Value) (vs : List V) (ws : List (Option V)) (Q : VK), Room k A → Env0 P w K mg base A outer s H → H f = some (LamOC f F body) → H F.c = some (CodeO F.c F.qual) → CellsAt F.cl fr ws s.heap H → Vals vs us → sp ws vs H Q E0 →
    codeAny (model P w) A (.call (.ref f) ⟨us, []⟩) (CR CX0 outer P w H s Q E0) s
theorem lamn_ok {P : Program} {w : World} {K : PySem.W.Frag} {mg : Str → Option Value} {base : Heap} {k : Nat} {F : NF} {body : Expr} {N ps fr : List Str} {sp : List (Option V) → Sp} (S : NScope N ps fr F.scope)
    (hb : ∀ (pm ctv : Value) (us : List Value), us.length = ps.length → bindArgs (PySem.W.kla_fn "<lambda>" F.qual F.params body F.scope F.cl pm (.ref F.c) ctv) ⟨us, []⟩ = pure (ps.zip us)) (len : ∀ ws vs H Q E, sp ws vs H Q E → vs.length = ps.length)
    (hbody : ∀ (f : Addr) (A : Around) (outer : List Env) (s : Shared) (H : Hp) (vs : List V) (ws : List (Option V)) (Q : VK), Room k (A.deeper (envF F f s.heap.objs.size)) → ws.length = fr.length → sp ws vs H Q E0 →
      ∃ te, PE (ncx CX0 P w K mg base N F f A outer s H E0).nox body te ∧ te (startF N vs ws) H Q) : LamNOk P w K mg base (k + 1) F body fr sp := by
  refine ⟨fun f A outer s H us vs ws Q room env hf hc C rv hsp => ?_⟩
  obtain ⟨⟨pm, ctv, hobj⟩, _, _⟩ := env.hok f _ hf
  obtain ⟨⟨oc, fs, t, hoc, hdc, hvc⟩, _, _⟩ := env.hok F.c _ hc
  have lim : s.heap.NoLimit := env.mod.nolimit.keeps fun b o e => (env.bs b o e).1
  have hl := len _ _ _ _ _ hsp
  refine PySem.W.kla_callFunE room.depth hobj rfl S.co S.gen rfl ⟨F.c, oc, fs, t, rfl, hoc, hdc, hvc⟩ ?_
  rw [hb _ _ us (by rw [← rv.length]; exact hl)]
  refine wpAny_pure (wpAny_newFunctionEnv S.nocell (fun ⟨n, _⟩ hy => S.par n (List.of_mem_zip hy).1) (fun h₁ hns hsb => ⟨lim.fresh _ hsb, ?_⟩) S.kind)
  show codeAny _ _ (.expr body (envF F f s.heap.objs.size)) _ _
  have kp : ∀ b o, s.heap.get? b = some o → h₁.get? b = some o := fun b o e => hsb.extBut b o (Nat.ne_of_lt (Heap.lt_size e)) (Heap.get?_push_of_some _ e)
  obtain ⟨te, ht, hq⟩ := hbody f A outer s H vs ws Q (room.deeper _) C.len hsp
  have I : Inv (ncx CX0 P w K mg base N F f A outer s H E0) [] (startF N vs ws) H { s with heap := h₁, toks := s.toks + (ps.zip us).length } := inv_startN S room.hd env hl rv C hns kp
  refine PySem.W.kla_codeExpr (wpAny_mono (ht.nox.run [] _ (startF N vs ws) H Q I hq) (fun u s' hs => ?_) fun e s' hs => hs)
  obtain ⟨v, H', J, rv, q⟩ := hs
  exact ⟨v, H', J.os, J.bare, J.base, J.hok, rv, q⟩
theorem cells_un {cl : List (Str × Addr)} {fr : List Str} {ws : List (Option V)} {fs : List Addr} {h h1 : Heap} {H H1 : Hp} (c : CellsAt cl fr ws h H) (u : Un fs [] H H1 h h1) : CellsAt cl fr ws h1 H1 := by
  have mv : ∀ {c : Addr} {v : Option Value}, H c = none → h.IsCell c v → h1.IsCell c v := fun {c v} n ⟨o, ho, hd⟩ => by
    obtain ⟨sl, q⟩ := u.any ho n (by simp)
    exact ⟨_, q, hd⟩
  refine ⟨c.len, fun y a e => ?_, c.inj, fun i y e => ?_⟩
  · obtain ⟨n, v, o, ho, hd⟩ := c.all y a e
    exact ⟨u.free a o ho n (by simp), v, mv n ⟨o, ho, hd⟩⟩
  · obtain ⟨a, e1, z⟩ := c.has i y e
    refine ⟨a, e1, fun v hv => ?_⟩
    obtain ⟨x, r, q⟩ := z v hv
    exact ⟨x, r, mv (c.all y a e1).1 q⟩
/-- v may be called with this promise, by any state behind s -/
def CalS (P : Program) (w : World) (K : PySem.W.Frag) (mg : Str → Option Value) (base : Heap) (k : Nat) (sp : Sp) (s : Shared) (H : Hp) (v : V) : Prop :=
  Calb P w K mg base k sp H v ∨
  ∃ (f : Addr) (F : NF) (body : Expr) (fr : List Str) (ws : List (Option V)) (sp' : List (Option V) → Sp), v = .ref f ∧ LamNOk P w K mg base k F body fr sp' ∧ H f = some (LamOC f F body) ∧ H F.c = some (CodeO F.c F.qual) ∧ CellsAt F.cl fr ws s.heap H ∧ ∀ vs H1 Q E, Same H H1 → sp vs H1 Q E → sp' ws vs H1 Q E
theorem Calb.ext {P : Program} {w : World} {K : PySem.W.Frag} {mg : Str → Option Value} {base : Heap} {k : Nat} {sp : Sp} {H H' : Hp} {v : V} (s : ExtK H H') (c : Calb P w K mg base k sp H v) : Calb P w K mg base k sp H' v := by
  rcases c with c | ⟨f, c', q, pa, bo, sc, e, l, h1, h2⟩
  · exact .inl c
  · exact .inr ⟨f, c', q, pa, bo, sc, e, l, s _ _ h1, s _ _ h2⟩
theorem ExtK.of {H H' : Hp} (s : Same H H') : ExtK H H' := fun b φ h => s b _ h
section
variable {X : Cx} {k j i : Nat} {x : Str} {sp : Sp} {p pos : Pos} {e : Expr} {es : List Expr} {t : TA}
def tCallVS (X : Cx) (k i : Nat) (sp : Sp) (t : TA) : TE := fun σ H Q => ∃ v, σ[i]? = some (some v) ∧ CalS X.prog X.w X.K X.mg X.base k sp X.s_0 X.H_0 v ∧ Same X.H_0 H ∧ t σ H fun vs H1 => Same X.H_0 H1 ∧ sp vs H1 Q E0
theorem pe_callVS (hr : Room j X.A) (hk : k ≤ j) (hex : X.ex = []) (hN : X.N[i]? = some x) (hv : Vis X.env.scope x) (ha : PA X (e :: es) t)
    (hdb : (x == ("__debug__" : Str)) = false := by decide) (hcd : (x == ("__classdict__" : Str)) = false := by decide)
    (he : starEach (e :: es) X.env = (false, eval e X.env) :: starEach es X.env := by rfl) (hpl : (backTo pos (starEach es X.env)).any (·.1) = false := by rfl) :
    PE X (.Call (.Name x p) (e :: es) [] pos) (tCallVS X k i sp t) := by
  refine ⟨fun pins s σ H Q I h => ?_⟩
  obtain ⟨v, hs, hc, hx0, ht⟩ := h
  refine wpAny_Call_Name_kw (thn ((pe_var (pos := p) hN hv hdb hcd).run pins s σ H (fun y Hy => y = v ∧ Hy = H) I ⟨v, hs, rfl, rfl⟩) fun u s1 ⟨y, Hy, I1, ry, ey, eH⟩ => ?_)
  rw [ey] at ry
  rw [eH] at I1
  have un : ∀ {s' : Shared} {H' : Hp}, Inv X pins σ H' s' → Un X.fs [] X.H_0 H' X.s_0.heap s'.heap := fun J => by
    have b := J.base
    rw [hex] at b
    exact b
  rcases hc with (⟨f, fd, ps, rfl, F, hkp, hbd⟩ | ⟨f, c', q, pa, bo, sc, rfl, L, hf, hcode⟩) | ⟨f, F, bo, fr, ws, sp', rfl, L, hf, hcode, hcl, himp⟩
  · obtain rfl : u = Value.ref f := ry
    refine PySem.W.callWith_K (h₀ := X.base) I.ok.mod.kin hkp (thn (ha.run pos pins s1 σ H _ I1 ht) fun us s2 ⟨vs, H2, I2, r, z⟩ => ⟨I2.kIn, ?_⟩) he hpl
    exact run_fn F (hr.mono hk) hbd .nil pass0 I2 r (by rw [List.append_nil]; exact z.2)
  · obtain rfl : u = Value.ref f := ry
    have here : ∀ {s' : Shared} {H' : Hp}, Inv X pins σ H' s' → H' f = some (LamO f q pa bo sc c') → PySem.W.FnAt f s'.heap := fun J hf' => by
      obtain ⟨⟨pm, ctv, ho⟩, _, _⟩ := J.hok f _ hf'
      exact ⟨_, _, _, _, ho⟩
    refine PySem.W.callWith_F (first := []) (here I1 (hx0 f _ hf)) (thn (ha.run pos pins s1 σ H _ I1 ht) fun us s2 ⟨vs, H2, I2, r, z1, z2⟩ => ⟨here I2 (z1 f _ hf), ?_⟩) he hpl
    show wpAny _ _ (call (.ref f) us) _ _ _
    refine wpAny_call (codeAny_mono (L.run f c' X.A X.stack s2 H2 us vs Q (hr.mono hk) I2.env0 (z1 f _ hf) (z1 c' _ hcode) r z2) fun r s' hq => ?_)
    cases r with
    | error e => exact (show False from hq).elim
    | ok fl =>
      cases fl with
      | ret u => exact I2.after hq
      | next => exact False.elim hq
      | brk => exact False.elim hq
      | cont => exact False.elim hq
  · obtain rfl : u = Value.ref f := ry
    have here : ∀ {s' : Shared} {H' : Hp}, Inv X pins σ H' s' → H' f = some (LamOC f F bo) → PySem.W.FnAt f s'.heap := fun J hf' => by
      obtain ⟨⟨pm, ctv, ho⟩, _, _⟩ := J.hok f _ hf'
      exact ⟨_, _, _, _, ho⟩
    refine PySem.W.callWith_F (first := []) (here I1 (hx0 f _ hf)) (thn (ha.run pos pins s1 σ H _ I1 ht) fun us s2 ⟨vs, H2, I2, r, z1, z2⟩ => ⟨here I2 (z1 f _ hf), ?_⟩) he hpl
    show wpAny _ _ (call (.ref f) us) _ _ _
    refine wpAny_call (codeAny_mono (L.run f X.A X.stack s2 H2 us vs ws Q (hr.mono hk) I2.env0 (z1 f _ hf) (z1 F.c _ hcode) (cells_un hcl (un I2)) r (himp _ _ _ _ z1 z2)) fun r s' hq => ?_)
    cases r with
    | error e => exact (show False from hq).elim
    | ok fl =>
      cases fl with
      | ret u => exact I2.after hq
      | next => exact False.elim hq
      | brk => exact False.elim hq
      | cont => exact False.elim hq
end
/-- a def that may be called by its name; its promise hangs on the very state -/
structure CalSt (P : Program) (w : World) (K : PySem.W.Frag) (mg : Str → Option Value) (base : Heap) (k : Nat) (x : Str) (sp : Shared → Sp) : Prop where
  ex : ∃ (f : Addr) (fd : FuncData) (ps : List Str), (∀ s vs H Q, sp s vs H Q E0 → vs.length = ps.length) ∧ (∀ (A : Around) (outer : List Env) (s : Shared) (H : Hp) (args : Args) (us : List Value) (vs : List V) (Q : VK), Room k A → Env0 P w K mg base A outer s H → BindsTo s fd args (ps.zip us) → Vals vs us → sp s vs H Q E0 →
    codeAny (model P w) A (.call (.ref f) args) (CR CX0 outer P w H s Q E0) s) ∧ mg x = some (.ref f) ∧ PySem.W.keepIn K (.ref f) = true ∧ Binds K fd ps []
theorem mk_calSt {P : Program} {w : World} {K : PySem.W.Frag} {mg : Str → Option Value} {base : Heap} {x : Str} {st : Stmt} {f : Addr} {fd : FuncData} {N ps : List Str} {k : Nat} {sp : Shared → Sp} (F : FnP K x st f fd) (hm : mg x = some (.ref f)) (S : FnScope N ps (defScope st))
    (hb : ∀ (kV doc pm : Value) (an : Option Addr) (cdv ct : Value) (us : List Value), us.length = ps.length → bindArgs (PySem.W.fnOf x x (defArgs st) (defBody st) (defScope st) .none kV doc pm an cdv ct) ⟨us, []⟩ = pure (ps.zip us))
    (len : ∀ s vs H Q, sp s vs H Q E0 → vs.length = ps.length)
    (body : ∀ (cdv : Value) (A : Around) (outer : List Env) (s : Shared) (H : Hp) (vs : List V) (Q : VK), Room k (A.deeper (envOfC x (defScope st) s.heap.objs.size f cdv)) → sp s vs H Q E0 →
      ∃ t, PSs (cxOf CX0 P w K mg base N x (defScope st) f cdv A outer s H E0).nox (defBody st) t ∧ t { nx := fun _ H' => Q .non H', rt := Q } (start N vs) H) : CalSt P w K mg base (k + 1) x sp := by
  have hbn := F.bindsN hb
  have kp := F.kp
  obtain ⟨oc, od, dV, kV, doc, pm, an, cdv, ct, osl, rfl, lk, hcd, _, _⟩ := F.ex
  refine ⟨f, _, ps, len, fun A outer s H args us vs Q hr e0 hbt r h => ?_, hm, kp, hbn⟩
  exact run_ofS lk hcd S hr e0 hbt r (len _ _ _ _ h) fun hr' => let ⟨t, a, b⟩ := body cdv A outer s H vs Q hr' h; ⟨t, a.nox, b⟩
section
variable {X : Cx} {k j : Nat} {x : Str} {sp : Shared → Sp} {p pos : Pos} {e : Expr} {es : List Expr} {t : TA}
def tCallSt (X : Cx) (sp : Shared → Sp) (t : TA) : TE := fun σ H Q => t σ H fun vs H1 => ∀ pins s, Inv X pins σ H1 s → sp s vs H1 Q E0
theorem pe_cSt (c : CalSt X.prog X.w X.K X.mg X.base k x sp) (hr : Room j X.A) (hk : k ≤ j) (hg : Gl X x) (ha : PA X (e :: es) t) (hdb : (x == ("__debug__" : Str)) = false := by decide)
    (he : starEach (e :: es) X.env = (false, eval e X.env) :: starEach es X.env := by rfl) (hpl : (backTo pos (starEach es X.env)).any (·.1) = false := by rfl) :
    PE X (.Call (.Name x p) (e :: es) [] pos) (tCallSt X sp t) := by
  obtain ⟨f, fd, ps, len, run, hm, hkp, hb⟩ := c.ex
  refine ⟨fun pins s σ H Q I h => ?_⟩
  refine wpAny_Call_Name_kw (ld_glob I hg hm ?_ hdb)
  refine PySem.W.callWith_K (h₀ := X.base) I.ok.mod.kin hkp (thn (ha.run pos pins s σ H _ I h) fun us s1 ⟨vs, H1, I1, r, q⟩ => ⟨I1.kIn, ?_⟩) he hpl
  have q := q pins s1 I1
  have hl : (us ++ []).length = ps.length := by rw [List.append_nil, ← r.length]; exact len _ _ _ _ q
  have hb' := hb s1 us I1.kIn hl
  rw [List.append_nil] at hb'
  show wpAny _ _ (call (Value.ref f) us) _ _ s1
  refine wpAny_call (codeAny_mono (run X.A X.stack s1 H1 ⟨us, []⟩ us vs Q (hr.mono hk) I1.env0 hb' r q) fun r s' hq => ?_)
  cases r with
  | error e => exact (show False from hq).elim
  | ok fl =>
    cases fl with
    | ret u => exact I1.after hq
    | next => exact False.elim hq
    | brk => exact False.elim hq
    | cont => exact False.elim hq
end
def lamFreeB (sc scope : Scope) : Bool := scope.names.all fun y => !decide (y.2 = .free) || (decide (sc.names.lookup y.1 = some .cell) || decide (sc.names.lookup y.1 = some .free))
theorem lamfree_by {sc scope : Scope} (h : lamFreeB sc scope = true) : ∀ y ∈ scope.names, y.2 = .free → sc.names.lookup y.1 = some .cell ∨ sc.names.lookup y.1 = some .free := fun y hy e => by
  unfold lamFreeB at h
  have z := List.all_eq_true.mp h y hy
  simp only [Bool.or_eq_true, Bool.not_eq_true', decide_eq_true_eq, decide_eq_false_iff_not] at z
  rcases z with z | z
  · exact absurd e z
  · exact z
/-- a lambda just made may be called -/
theorem calS_lam {X : Cx} {pins : List (Addr × Obj)} {σ : L2.St} {H : Hp} {s : Shared} {k : Nat} {f c' : Addr} {params : Arguments} {body : Expr} {scope : Scope} {fr : List Str} {js : List Nat} {sp : Sp} {sp' : List (Option V) → Sp} (I : Inv X pins σ H s)
    (hk : ∀ y ∈ scope.names, y.2 = .free → X.env.scope.names.lookup y.1 = some .cell ∨ X.env.scope.names.lookup y.1 = some .free) (hfr : ∀ y ∈ fr, (y, NameKind.free) ∈ scope.names) (hjs : js.map (fun j => X.N[j]?) = fr.map some)
    (L : LamNOk X.prog X.w X.K X.mg X.base k (lamF X params scope c') body fr sp') (hf : H f = some (LamOC f (lamF X params scope c') body)) (hc : H c' = some (CodeO c' (X.env.qual ++ "<lambda>"))) (imp : ∀ vs H1 Q E, Same H H1 → sp vs H1 Q E → sp' (js.map (slotAt σ)) vs H1 Q E) :
    CalS X.prog X.w X.K X.mg X.base k sp s H (.ref f) :=
  .inr ⟨f, _, body, fr, js.map (slotAt σ), sp', rfl, L, hf, hc, cells_of I (Caps.made I.ok hk hfr hjs), imp⟩
def spFoldS (P : Program) (w : World) (K : PySem.W.Frag) (mg : Str → Option Value) (base : Heap) (k : Nat) (Ok : Tr → Prop) (R : Hp → Tr → V → Prop) : Shared → Sp := fun s vs H Q _ => ∃ (v fn fs : V) (t : Tr), vs = [v, fn, fs] ∧ TrAt K H t v ∧ t.size ≤ 100000 ∧ (∀ k ∈ pre t, Ok k) ∧ CalS P w K mg base k (spOn Ok R) s H fn ∧ CalS P w K mg base k (spOs Ok R) s H fs ∧
  ∀ r H', Same H H' → R H' t r → Q r H'
end Pg

set_option Elab.async false
set_option linter.all false
set_option maxRecDepth 100000
set_option maxHeartbeats 4000000
namespace Pg
open PySem PySem.Spec PyProof.Rows L2 LamX
/-! ### entries of tables -/
def walk : PyData → List Int → PyData
  | d, [] => d
  | .tuple ds, r :: rs => walk (ds.getD r.toNat .none) rs
  | _, _ :: _ => .none
def Ent (m : Nat) : Nat → PyData → Prop
  | 0, d => ∃ n : Int, d = .int n ∧ 0 ≤ n ∧ n < m
  | a + 1, d => ∃ ds, d = .tuple ds ∧ ds.length = m ∧ ∀ e ∈ ds, Ent m a e
theorem ent_step {m a : Nat} {d : PyData} {r : Int} {rs : List Int} (h : Ent m (a + 1) d) (h0 : 0 ≤ r) (h1 : r < m) : ∃ ds e, d = .tuple ds ∧ ds[r.toNat]? = some e ∧ Ent m a e ∧ walk d (r :: rs) = walk e rs := by
  obtain ⟨ds, rfl, hl, hall⟩ := h
  have hk : r.toNat < ds.length := by omega
  refine ⟨ds, ds[r.toNat], rfl, List.getElem?_eq_getElem hk, hall _ (List.getElem_mem hk), ?_⟩
  show walk (ds.getD r.toNat .none) rs = _
  rw [List.getD_eq_getElem?_getD, List.getElem?_eq_getElem hk]
  rfl
theorem ent_walk {m : Nat} : ∀ {rs : List Int} {d : PyData}, Ent m rs.length d → (∀ r ∈ rs, 0 ≤ r ∧ r < m) → ∃ n : Int, walk d rs = .int n ∧ 0 ≤ n ∧ n < m
  | [], d, h, _ => by obtain ⟨n, rfl, a, b⟩ := h; exact ⟨n, rfl, a, b⟩
  | r :: rs, d, h, hr => by
    obtain ⟨ds, e, rfl, he, hE, hw⟩ := ent_step (rs := rs) h (hr r (List.mem_cons_self ..)).1 (hr r (List.mem_cons_self ..)).2
    rw [hw]
    exact ent_walk hE fun x hx => hr x (List.mem_cons_of_mem _ hx)
theorem dpAll_get {K : PySem.W.Frag} {H : Hp} : ∀ {vs : List V} {ds : List PyData} {i : Nat} {d : PyData}, DpAll K H vs ds → ds[i]? = some d → ∃ v, vs[i]? = some v ∧ Dp K H v d
  | _, [], i, d, h, e => by simp at e
  | _, d0 :: ds, 0, d, h, e => by
    cases h with
    | cons a b => simp at e; subst e; exact ⟨_, rfl, a⟩
  | _, d0 :: ds, i + 1, d, h, e => by
    cases h with
    | cons a b =>
      obtain ⟨v, h1, h2⟩ := dpAll_get (i := i) b (by simpa using e)
      exact ⟨v, by simpa using h1, h2⟩
/-- entry_at -/
def spEntry (K : PySem.W.Frag) : Sp := fun vs H Q _ => ∃ (v : V) (l : Addr) (d : PyData) (rs : List Int) (m : Nat), vs = [v, .ref l] ∧ Dp K H v d ∧ SqL K H l (rs.map V.int) ∧ Ent m rs.length d ∧ (∀ r ∈ rs, 0 ≤ r ∧ r < m) ∧ ∀ n : Int, walk d rs = .int n → Q (.int n) H
/-! ### a term's value, told from its parts -/
def Tr.ev (ρ : Str → Int) (W : Str → List Int → Int) : Tr → Int
  | .nm x => ρ x
  | .c0 s => W s []
  | .c1 s t => W s [t.ev ρ W]
  | .c2 s t u => W s [t.ev ρ W, u.ev ρ W]
theorem ev_node {ρ : Str → Int} {W : Str → List Int → Int} {t : Tr} (h : ∀ x, t ≠ .nm x) : t.ev ρ W = W t.sym (t.kids.map fun k => k.ev ρ W) := by
  cases t with
  | nm x => exact absurd rfl (h x)
  | c0 s => rfl
  | c1 s t => rfl
  | c2 s t u => rfl
structure MvOk (m : Nat) (sg : Sg) (md : List PyData) : Prop where
  len : md.length = sg.length
  ent : ∀ (i : Nat) (s : Str × Int) (d : PyData), sg[i]? = some s → md[i]? = some d → Ent m s.2.toNat d
def Wm (sg : Sg) (md : List PyData) (s : Str) (rs : List Int) : Int :=
  match walk (md.getD (place sg s) .none) rs with
  | .int n => n
  | _ => 0
/-- what the node asks of names and signs -/
def OkR (m : Nat) (sg : Sg) (ρ : Str → Int) (D : Str → Prop) (t : Tr) : Prop := (∀ x, t = .nm x → D x ∧ 0 ≤ ρ x ∧ ρ x < m) ∧ ((∀ x, t ≠ .nm x) → (t.sym, (t.kids.length : Int)) ∈ sg)
def RowR (m : Nat) (ρ : Str → Int) (W : Str → List Int → Int) : Hp → Tr → V → Prop := fun _ t r => r = .int (t.ev ρ W) ∧ 0 ≤ t.ev ρ W ∧ t.ev ρ W < m
theorem wm_of {m : Nat} {sg : Sg} {md : List PyData} {s : Str} {a : Nat} {rs : List Int} (gs : GSg sg) (mo : MvOk m sg md) (hs : (s, (a : Int)) ∈ sg) (hl : rs.length = a) (hr : ∀ r ∈ rs, 0 ≤ r ∧ r < m) :
    ∃ d, md[place sg s]? = some d ∧ Ent m rs.length d ∧ walk d rs = .int (Wm sg md s rs) ∧ 0 ≤ Wm sg md s rs ∧ Wm sg md s rs < m := by
  have hm : s ∈ sg.map (·.1) := List.mem_map.mpr ⟨_, hs, rfl⟩
  obtain ⟨pl, _, _⟩ := place_at hm
  have hp : place sg s < md.length := by rw [mo.len]; exact pl
  have e0 : sg[place sg s]? = some sg[place sg s] := List.getElem?_eq_getElem pl
  have e1 : md[place sg s]? = some md[place sg s] := List.getElem?_eq_getElem hp
  have e2 : sg[place sg s] = (s, (a : Int)) := by
    obtain ⟨j, hj, ej⟩ := List.getElem_of_mem hs
    have hj2 : j < (sg.map (·.1)).length := by rw [List.length_map]; exact hj
    have e3 : (sg.map (·.1))[j] = s := by rw [List.getElem_map, ej]
    have : place sg s = j := by
      show (sg.map (·.1)).idxOf s = j
      rw [← e3]
      exact gs.nd.idxOf_getElem j hj2
    have h4 : sg[place sg s]? = sg[j]? := by rw [this]
    rw [e0, List.getElem?_eq_getElem hj, ej] at h4
    exact Option.some.inj h4
  have hE := mo.ent _ _ _ e0 e1
  rw [e2] at hE
  have hE : Ent m rs.length md[place sg s] := by rw [hl]; exact hE
  obtain ⟨n, hw, h0, h1⟩ := ent_walk hE hr
  have hW : Wm sg md s rs = n := by
    unfold Wm
    rw [List.getD_eq_getElem?_getD, e1]
    show (match walk md[place sg s] rs with | .int n => n | _ => 0) = n
    rw [hw]
  exact ⟨_, e1, hE, by rw [hW]; exact hw, by rw [hW]; exact h0, by rw [hW]; exact h1⟩
/-- data of tuples, texts, numbers, truth values -/
def solid : PyData → Bool
  | .none => true
  | .bool _ => true
  | .int _ => true
  | .str _ => true
  | .tuple ds => solidAll ds
  | _ => false
where solidAll : List PyData → Bool
  | [] => true
  | d :: ds => solid d && solidAll ds
theorem solidAll_of : ∀ {ds : List PyData}, (∀ d ∈ ds, solid d = true) → solid.solidAll ds = true
  | [], _ => rfl
  | d :: ds, h => by
    rw [solid.solidAll, h d (List.mem_cons_self ..), solidAll_of fun e he => h e (List.mem_cons_of_mem _ he)]
    rfl
section
variable {K : PySem.W.Frag} {H H' : Hp}
mutual
theorem dp_so (k : TK K H H') : ∀ (d : PyData) (v : V), solid d = true → Dp K H v d → Dp K H' v d
  | .none, _, _, h => by cases h; exact .non
  | .bool b, _, _, h => by cases h; exact .bl b
  | .int i, _, _, h => by cases h; exact .int i
  | .str _, _, _, h => by cases h; exact .str _
  | .tuple ds, _, n, h => by
    rw [solid] at n
    cases h with
    | tup hS hA => exact .tup (k _ _ hS) (dpAll_so k ds _ n hA)
  | .list _, _, n, _ => by rw [solid] at n <;> first | cases n | (intros; cases ‹_ = _›)
  | .dict _, _, n, _ => by rw [solid] at n <;> first | cases n | (intros; cases ‹_ = _›)
theorem dpAll_so (k : TK K H H') : ∀ (ds : List PyData) (vs : List V), solid.solidAll ds = true → DpAll K H vs ds → DpAll K H' vs ds
  | [], _, _, h => by cases h; exact .nil
  | d :: ds, _, n, h => by
    rw [solid.solidAll, Bool.and_eq_true] at n
    cases h with
    | cons a b => exact .cons (dp_so k d _ n.1 a) (dpAll_so k ds _ n.2 b)
end
end
theorem ent_solid {m : Nat} : ∀ {a : Nat} {d : PyData}, Ent m a d → solid d = true
  | 0, d, h => by obtain ⟨n, rfl, _⟩ := h; rw [solid]
  | a + 1, d, h => by
    obtain ⟨ds, rfl, _, hall⟩ := h
    rw [solid]
    exact solidAll_of fun e he => ent_solid (hall e he)
theorem MvOk.solid {m : Nat} {sg : Sg} {md : List PyData} (h : MvOk m sg md) : solid (.tuple md) = true := by
  rw [Pg.solid]
  refine solidAll_of fun d hd => ?_
  obtain ⟨i, hi, rfl⟩ := List.getElem_of_mem hd
  have hi2 : i < sg.length := by rw [← h.len]; exact hi
  exact ent_solid (h.ent i _ _ (List.getElem?_eq_getElem hi2) (List.getElem?_eq_getElem hi))
/-- row_of -/
def spRowOf (K : PySem.W.Frag) (Pt : Addr) (q : Str) : Sp := fun vs H Q _ => ∃ (g mv fl : Addr) (v : V) (sg : Sg) (md : List PyData) (kvs : List (Key × V)) (ρ : Str → Int) (m : Nat) (t : Tr), vs = [.ref g, .ref mv, v, .ref fl] ∧ SgAt K H g sg ∧ GSg sg ∧ Dp K H (.ref mv) (.tuple md) ∧ MvOk m sg md ∧ H fl = some (.dK kvs) ∧ TrAt K H t v ∧ t.size ≤ 100000 ∧
  (∀ k ∈ pre t, OkR m sg ρ (fun x => valV kvs (.inr x) = some (.int (ρ x))) k) ∧ TabS H Pt q ∧ ∀ H', ButP Pt H H' → TabS H' Pt q → Q (.int (t.ev ρ (Wm sg md))) H'
end Pg

set_option Elab.async false
set_option linter.all false
set_option maxRecDepth 100000
set_option maxHeartbeats 4000000
namespace Pg
open PySem PySem.Spec PyProof.Rows L2
/-! ### max(xs, default=d) of a list of numbers -/
def maxDef (d : Int) : List Int → Int
  | [] => d
  | n :: ns => ns.foldl max n
def rMaxDef (K : PySem.W.Frag) : List V → List V → Hp → VK → Prop := fun vs zs H Q => ∃ (a : Addr) (ns : List Int) (d : Int), vs = [.ref a] ∧ zs = [.int d] ∧ SqL K H a (ns.map V.int) ∧ Q (.int (maxDef d ns)) H
theorem ints_dp {K : PySem.W.Frag} {H : Hp} : ∀ ns : List Int, DpAll K H (ns.map V.int) (ns.map PyData.int)
  | [] => .nil
  | n :: ns => .cons (.int n) (ints_dp ns)
theorem ints_depth : ∀ ns : List Int, PyData.depthAll (ns.map PyData.int) = 0
  | [] => rfl
  | n :: ns => by rw [List.map_cons, PyData.depthAll, ints_depth ns]; rfl
theorem ints_alike (ns : List Int) : PySem.W.AlikeAll (ns.map PyData.int) := by
  refine ⟨fun x hx y hy => ?_, fun x hx => ?_⟩
  · obtain ⟨a, _, rfl⟩ := List.mem_map.mp hx
    obtain ⟨b, _, rfl⟩ := List.mem_map.mp hy
    rfl
  · obtain ⟨a, _, rfl⟩ := List.mem_map.mp hx
    intro z
    cases z
theorem cr_maxDef {X : Cx} (hc : X.calm = true) (hu : X.A.units + 8 < cLine) : CallRK X (.builtin "max") [PySem.Str.ofString "default"] (rMaxDef X.K) := by
  intro pins s σ H vs zs us ws Q I r rz h
  obtain ⟨a, ns, d, rfl, rfl, hs, q⟩ := h
  obtain rfl := Vals.ref1 r
  obtain ⟨w1, rfl, t1, rfl⟩ := vals1 rz
  obtain ⟨its, rv, hl, hz⟩ := I.list hs
  obtain ⟨as, hr⟩ := Dp.readsAll I (ns.map PyData.int) (ns.map V.int) its (ints_dp ns) rv
  show wpAny _ _ (call (.builtin "max") [.ref a] [(PySem.Str.ofString "default", .int d t1)]) _ _ s
  refine PySem.W.max_list_default (I.ok.hd hc) hl.isList (by simpa using hr) (ints_alike ns) (by rw [ints_depth]; omega) (fun h0 h' tk hk => ?_) (fun y ys i v h' tk bs e hv rd hk => ?_)
  · have e0 : ns = [] := List.map_eq_nil_iff.mp h0
    subst e0
    exact ⟨.int d, H, I.kept (t' := tk) hk, ⟨_, rfl⟩, q⟩
  · cases ns with
    | nil => cases e
    | cons n r =>
      rw [List.map_cons] at e
      injection e with e1 e2
      subst e1 e2
      rw [PySem.W.maxD_ints] at rd
      cases rd
      exact ⟨.int (maxDef d (n :: r)), H, I.kept (t' := tk) hk, ⟨_, rfl⟩, q⟩
end Pg

set_option Elab.async false
set_option linter.all false
set_option maxRecDepth 100000
set_option maxHeartbeats 4000000
namespace Pg
open PySem PySem.Spec PyProof.Rows L2 LamX
theorem mk_calT {P : Program} {w : World} {K : PySem.W.Frag} {mg : Str → Option Value} {base : Heap} {x : Str} {st : Stmt} {f c : Addr} {fd : FuncData} {N ps : List Str} {k : Nat} {sp : Sp} (F : FnP K x st f fd) (hc : fd.code = .ref c) (hm : mg x = some (.ref f)) (S : FnScope N ps (defScope st))
    (hb : ∀ (kV doc pm : Value) (an : Option Addr) (cdv ct : Value) (us : List Value), us.length = ps.length → bindArgs (PySem.W.fnOf x x (defArgs st) (defBody st) (defScope st) .none kV doc pm an cdv ct) ⟨us, []⟩ = pure (ps.zip us))
    (len : ∀ vs H Q E, sp vs H Q E → vs.length = ps.length)
    (body : ∀ (A : Around) (outer : List Env) (s : Shared) (H : Hp) (vs : List V) (Q : VK) (E : XK), Room k (A.deeper (envOfC x (defScope st) s.heap.objs.size f (.ref c))) → sp vs H Q E →
      ∃ t, PSs (cxOf CX0 P w K mg base N x (defScope st) f (.ref c) A outer s H E).nox (defBody st) t ∧ t { nx := fun _ H' => Q .non H', rt := Q } (start N vs) H) : Cal P w K mg base (k + 1) x sp [] := by
  have hbn := F.bindsN hb
  have kp := F.kp
  obtain ⟨oc, od, dV, kV, doc, pm, an, cdv, ct, osl, rfl, lk, hcd, _, _⟩ := F.ex
  obtain rfl : cdv = .ref c := hc
  exact ⟨f, _, ps, [], fn_of lk hcd S len fun A outer s H vs Q E hr h => let ⟨t, a, b⟩ := body A outer s H vs Q E hr h; ⟨t, a.nox, b⟩, hm, kp, hbn, .nil⟩
def spDpo (K : PySem.W.Frag) (P : Addr) (q : Str) : Sp := fun vs H Q _ => ∃ (v : V) (t : Tr), vs = [v] ∧ TrAt K H t v ∧ t.size ≤ 100000 ∧ TabS H P q ∧ ∀ H', ButP P H H' → TabS H' P q → Q (.int t.dep) H'
theorem dep_max (t : Tr) (h : ∀ x, t ≠ .nm x) : (t.dep : Int) = 1 + maxDef 0 (t.kids.map fun k => (k.dep : Int)) := by
  cases t with
  | nm x => exact absurd rfl (h x)
  | c0 s => rfl
  | c1 s t => show ((1 + t.dep : Nat) : Int) = 1 + (t.dep : Int); omega
  | c2 s t u => show ((1 + max t.dep u.dep : Nat) : Int) = 1 + max (t.dep : Int) (u.dep : Int); omega
theorem ButP.trans {P : Addr} {H H1 H2 : Hp} (a : ButP P H H1) (b : ButP P H1 H2) : ButP P H H2 := fun c o n h => b c o n (a c o n h)
theorem ButP.tk {K : PySem.W.Frag} {P : Addr} {q : Str} {H H1 : Hp} (t : TabS H P q) (a : ButP P H H1) : TK K H H1 := by
  obtain ⟨ps, hP, _⟩ := t
  intro p ys h
  rcases h with (h | ⟨o, h⟩) | h
  · exact .inl (.inl (a _ _ (ne_of h hP (by intro z; cases z)) h))
  · exact .inl (.inr ⟨o, a _ _ (ne_of h hP (by intro z; cases z)) h⟩)
  · exact .inr h
theorem ext_ne {P b : Addr} {q : Str} {H : Hp} {φ : Heap → Prop} (t : TabS H P q) (h : H b = some (.ext φ)) : b ≠ P := by
  obtain ⟨ps, hP, _⟩ := t
  exact ne_of h hP (by intro z; cases z)
end Pg

set_option Elab.async false
set_option linter.all false
set_option maxRecDepth 100000
set_option maxHeartbeats 4000000
namespace Pg
open PySem PySem.Spec PyProof.Rows L2
/-! ### comprehensions whose elements take from the stream -/
section
variable {K : PySem.W.Frag} {σ : L2.St} {H : Hp} {Q : VK} {p a nn : Addr} {sg : Sg} {j j1 j2 : Nat} {te : TE} {m c : Int}
theorem rd_rngS {lo : Int} {n : Nat} {wi : TI} (F : Hp → Nat → V → Prop) (mono : ∀ H H' i v, TK K H H' → F H i v → F H' i v) (st : StA H a nn m) (hwi : ∀ R, R (Itr lo n) H → wi σ H R) (hn : n ≤ 100000) (hw : ∀ x, wipe ((wipe σ [j]).set j (some x)) [j] = wipe σ [j])
    (ht : ∀ (i : Nat) H', i < n → Fr a H H' → StA H' a nn (m + c * (i : Int)) → ∀ Q' : VK, (∀ v H2, Fr a H' H2 → StA H2 a nn (m + c * ((i : Int) + 1)) → F H2 i v → Q' v H2) → te ((wipe σ [j]).set j (some (.int (lo + i)))) H' Q')
    (h : ∀ D H' vs, H D = none → Fr a H H' → StA H' a nn (m + c * (n : Int)) → H' D = some (.lst vs) → vs.length = n → (∀ i v, vs[i]? = some v → F H' i v) → Q (.ref D) H') : tLc wi (gName j) tYes te [j] σ H Q := by
  refine hwi _ (fun D nD => lc_range (fun i H' => Fr a H H' ∧ StA H' a nn (m + c * (i : Int)) ∧ ∃ vs, H' D = some (.lst vs) ∧ vs.length = i ∧ ∀ k v, vs[k]? = some v → F H' k v) ⟨Fr.new nD, (st.new nD).mono (by simp), [], upd_same, rfl, fun k v e => by simp at e⟩ (fun i H' hi iv => ?_) (fun H' iv => ?_))
  · obtain ⟨fr, s1, vs, hd, hl, hall⟩ := iv
    refine ⟨hw _, yes_turn ?_⟩
    refine ht i H' hi fr s1 _ (fun v H2 f2 s2 hv => ?_)
    have nDa := (st.ne nD).1
    have hd2 := f2 _ _ nDa hd
    have tk : TK K H' (upd H2 D (.lst (vs ++ [v]))) := (s1.tk f2).trans (TK.put hd2)
    refine ⟨vs, hd2, by rw [hl, sizeLine_eq]; omega, ?_, ?_, vs ++ [v], upd_same, by rw [List.length_append, hl]; rfl, fun k x e => ?_⟩
    · intro b o nb hb
      rw [upd_ne (ne_of_none hb nD)]
      exact f2 b o nb (fr b o nb hb)
    · have := s2.put (o := .lst (vs ++ [v])) (st.ne nD)
      refine this.mono ?_
      have : ((i + 1 : Nat) : Int) = (i : Int) + 1 := by omega
      rw [this]
      exact Int.le_refl _
    · by_cases hk : k < vs.length
      · rw [List.getElem?_append_left hk] at e
        exact mono _ _ _ _ tk (hall k x e)
      · rw [List.getElem?_append_right (by omega)] at e
        cases hk2 : k - vs.length with
        | zero =>
          rw [hk2] at e
          have e : v = x := by simpa using e
          subst e
          rw [show k = i by omega]
          exact mono _ _ _ _ (TK.put hd2) hv
        | succ z => rw [hk2] at e; simp at e
  · obtain ⟨fr, s1, vs, hd, hl, hall⟩ := iv
    exact h D H' vs nD fr s1 hd hl hall
theorem rd_prsS {i : Nat} (F : Hp → Str × Int → V → Prop) (mono : ∀ H H' s v, TK K H H' → F H s v → F H' s v) (st : StA H a nn m) (hi : σ[i]? = some (some (.ref p))) (hS : SgAt K H p sg) (h4 : sg.length ≤ 1000) (hw : ∀ x y, wipe (((wipe σ [j1, j2]).set j1 (some x)).set j2 (some y)) [j1, j2] = wipe σ [j1, j2])
    (ht : ∀ (s : Str × Int) (k : Nat) H', s ∈ sg → k < sg.length → Fr a H H' → StA H' a nn (m + c * (k : Int)) → ∀ Q' : VK, (∀ v H2, Fr a H' H2 → StA H2 a nn (m + c * ((k : Int) + 1)) → F H2 s v → Q' v H2) → te (((wipe σ [j1, j2]).set j1 (some (.str s.1))).set j2 (some (.int s.2))) H' Q')
    (h : ∀ D H' vs, H D = none → Fr a H H' → StA H' a nn (m + c * (sg.length : Int)) → H' D = some (.lst vs) → Paired (fun v s => F H' s v) vs sg → Q (.ref D) H') :
    tLc (iTup K (tVar i)) (gTup K 2 (gCons (gName j1) (gCons (gName j2) gNil))) tYes te [j1, j2] σ H Q := by
  obtain ⟨rs, hT, pr⟩ := hS.ex
  refine ⟨_, hi, p, rfl, ⟨_, hT⟩, fun D nD => lc_tup (K := K) (xs := rs.map V.ref) (fun i H' => Fr a H H' ∧ StA H' a nn (m + c * (i : Int)) ∧ ∃ vs, H' D = some (.lst vs) ∧ Paired (fun v s => F H' s v) vs (sg.take i)) ⟨Fr.new nD, (st.new nD).mono (by simp), [], upd_same, .nil⟩ (fun i H' _ iv => st.tk iv.1 _ _ hT) (fun i x H' hx iv => ?_) (fun H' iv => ?_)⟩
  · rw [List.getElem?_map] at hx
    obtain ⟨r, e, rfl⟩ : ∃ r, rs[i]? = some r ∧ V.ref r = x := by
      cases e : rs[i]? with
      | none => rw [e] at hx; cases hx
      | some z => rw [e] at hx; exact ⟨z, rfl, Option.some.inj hx⟩
    obtain ⟨s, es, hr⟩ := Pg.paired_get pr e
    obtain ⟨fr, s1, vs, hd, hp⟩ := iv
    have hlt : i < sg.length := (List.getElem?_eq_some_iff.mp es).1
    refine ⟨r, _, rfl, st.tk fr _ _ hr, rfl, _, _, rfl, _, _, rfl, rfl, hw _ _, ?_⟩
    have nDa := (st.ne nD).1
    refine yes_turn (ht s i H' (List.mem_of_getElem? es) hlt fr s1 _ fun v H2 f2 s2 hv => ?_)
    have hd2 := f2 _ _ nDa hd
    have hlv : vs.length = i := by rw [paired_len hp, List.length_take]; omega
    have tk : TK K H' (upd H2 D (.lst (vs ++ [v]))) := (s1.tk f2).trans (TK.put hd2)
    refine ⟨vs, hd2, by rw [hlv]; exact small1000 (by omega), ?_, ?_, vs ++ [v], upd_same, ?_⟩
    · intro b o nb hb
      rw [upd_ne (ne_of_none hb nD)]
      exact f2 b o nb (fr b o nb hb)
    · refine (s2.put (st.ne nD)).mono ?_
      have : ((i + 1 : Nat) : Int) = (i : Int) + 1 := by omega
      rw [this]
      exact Int.le_refl _
    · rw [take_snoc es]
      exact paired_app (Paired.imp2 (fun _ _ z => mono _ _ _ _ tk z) hp) (.cons (mono _ _ _ _ (TK.put hd2) hv) .nil)
  · obtain ⟨fr, s1, vs, hd, hp⟩ := iv
    rw [List.length_map, paired_len pr] at s1 hp
    rw [List.take_length] at hp
    exact h D H' vs nD fr s1 hd hp
end
end Pg

set_option Elab.async false
set_option linter.all false
set_option maxRecDepth 100000
set_option maxHeartbeats 4000000
namespace Pg
open PySem PySem.Spec PyProof.Rows L2
/-! ### repr of a tuple that holds a dict -/
section
variable {X : Cx} {pins : List (Addr × Obj)} {σ : L2.St} {H : Hp} {s : Shared}
mutual
theorem dp_reads0 (I : Inv X pins σ H s) : ∀ (d : PyData) (v : V) (u : Value), solid d = true → Dp X.K H v d → RelV v u → Reads s.heap u d []
  | .none, _, _, _, h, r => by cases h; cases r; exact Reads.none
  | .bool b, _, _, _, h, r => by cases h; cases r; exact Reads.bool b
  | .int i, _, _, _, h, r => by cases h; obtain ⟨t, rfl⟩ := r; exact Reads.int i t
  | .str x, _, _, _, h, r => by cases h; obtain ⟨t, rfl⟩ := r; exact Reads.str x t
  | .tuple ds, _, _, n, h, r => by
    rw [solid] at n
    cases h with
    | tup hs ha =>
      cases r
      obtain ⟨its, rv, ⟨o, ho, hc, n', hd⟩, _⟩ := I.tuple hs
      exact Reads.tuple ho hc hd (dpAll_reads0 I ds _ its n ha rv)
  | .list _, _, _, n, _, _ => by rw [solid] at n <;> first | cases n | (intros; cases ‹_ = _›)
  | .dict _, _, _, n, _, _ => by rw [solid] at n <;> first | cases n | (intros; cases ‹_ = _›)
theorem dpAll_reads0 (I : Inv X pins σ H s) : ∀ (ds : List PyData) (vs : List V) (us : List Value), solid.solidAll ds = true → DpAll X.K H vs ds → Vals vs us → ReadsAll s.heap us ds []
  | [], _, _, _, h, r => by cases h; cases r; exact ReadsAll.nil
  | d :: ds, _, _, n, h, r => by
    rw [solid.solidAll, Bool.and_eq_true] at n
    cases h with
    | cons h1 h2 =>
      cases r with
      | cons r1 r2 => exact ReadsAll.cons (dp_reads0 I d _ _ n.1 h1 r1) (dpAll_reads0 I ds _ _ n.2 h2 r2)
end
end
abbrev kvL (l : List (Str × Int)) : List (Key × V) := l.map fun x => (.inr x.1, .int x.2)
abbrev kvD (l : List (Str × Int)) : List (PyData × PyData) := l.map fun x => (.str x.1, .int x.2)
theorem pairs_reads {P : Program} {w : World} {h : Heap} : ∀ {l : List (Str × Int)} {es : List DictEntry} {kvs : List (Key × Value)}, KV (kvL l) kvs → Pairs (mixKind P w) es kvs →
    ReadsAll h (es.map (·.key)) ((kvD l).map (·.1)) [] ∧ ReadsAll h (es.map (·.val)) ((kvD l).map (·.2)) []
  | [], _, _, k, p => by cases k; cases p; exact ⟨.nil, .nil⟩
  | x :: l, _, _, k, p => by
    cases k with
    | cons a b =>
      cases p with
      | cons p1 p2 p3 =>
        obtain ⟨i1, i2⟩ := pairs_reads (h := h) b p3
        obtain ⟨e1, e2⟩ := a
        have e1 : Sum.inr x.1 = _ := e1
        rw [← e1] at p1
        obtain ⟨t, et⟩ := Value.isStrOf_shape (x := x.1) p1
        obtain ⟨t2, et2⟩ := e2
        refine ⟨.cons (as := []) ?_ i1, .cons (as := []) ?_ i2⟩
        · show Reads h _ _ _
          dsimp only
          rw [et]; exact Reads.str _ t
        · show Reads h _ _ _
          dsimp only
          rw [p2, et2]; exact Reads.int _ t2
section
variable {X : Cx}
def rRepr3 (K : PySem.W.Frag) (n : Nat) : List V → Hp → VK → Prop := fun xs H Q => ∃ (a fl : Addr) (v1 v2 : V) (d1 d2 : PyData) (l : List (Str × Int)), xs = [.ref a] ∧ SqT K H a [v1, v2, .ref fl] ∧ Dp K H v1 d1 ∧ Dp K H v2 d2 ∧ solid d1 = true ∧ solid d2 = true ∧ H fl = some (.dK (kvL l)) ∧
  (PyData.tuple [d1, d2, .dict (kvD l)]).showable = true ∧ (PyData.tuple [d1, d2, .dict (kvD l)]).shown.length ≤ sizeLine ∧ (PyData.tuple [d1, d2, .dict (kvD l)]).depth ≤ n ∧ Q (.str (PyData.tuple [d1, d2, .dict (kvD l)]).shown) H
theorem cr_repr3 {n : Nat} (hu : X.A.units + n + 1 < cLine) (hg : X.A.guards = some []) : CallR X (.builtin "repr") (rRepr3 X.K n) := by
  intro pins s σ H xs us Q I r ⟨a, fl, v1, v2, d1, d2, l, e, hT, h1, h2, o1, o2, hf, hs, hz, hn, q⟩
  subst e
  obtain ⟨u, rfl, ru⟩ := vals1 r
  cases ru
  obtain ⟨its, rv, ⟨o, ho, hc, n', hd⟩, _⟩ := I.tuple hT
  obtain ⟨_, hsys, vs, hkv, o', es, ep, ho', hex, hd', _, hpairs, _⟩ := dk_of I.hok hf
  obtain ⟨k1, k2⟩ := pairs_reads (h := s.heap) hkv hpairs
  cases rv with
  | cons r1 rv =>
    cases rv with
    | cons r2 rv =>
      cases rv with
      | cons r3 rv =>
        cases rv
        cases r3
        have hr : Reads s.heap (.ref a) (.tuple [d1, d2, .dict (kvD l)]) ([] ++ ([] ++ (([fl] ++ [] ++ []) ++ []))) :=
          Reads.tuple ho hc hd (.cons (dp_reads0 I d1 _ _ o1 h1 r1) (.cons (dp_reads0 I d2 _ _ o2 h2 r2) (.cons (Reads.dict ho' hex.1 hd' k1 k2) .nil)))
        refine repr_of_reads' hr hs (fun _ hm => ?_) hg (by omega) (fun _ _ e => e) (fun h' w tk hk => ?_) hz
        · have : sysModules = fl := by simpa using hm
          rw [← this] at hsys
          simp at hsys
        · exact ⟨.str _, H, I.kept (t' := tk) hk, ⟨w, rfl⟩, q⟩
end
/-! ### how long what is shown is -/
structure Sh (D B : Nat) (d : PyData) : Prop where
  ok : d.showable = true
  sh : d.leavesShort 8 = true
  dp : d.depth ≤ D
  bk : d.bulk ≤ B
theorem shown_small : ∀ n < 1000, (PyData.shown (.int (n : Nat))).length ≤ 8 := by decide +kernel
theorem Sh.int {n : Int} (h0 : 0 ≤ n) (h1 : n < 1000) : Sh 0 0 (.int n) := by
  obtain ⟨k, rfl⟩ := Int.eq_ofNat_of_zero_le h0
  have hk : k < 1000 := by omega
  refine ⟨?_, ?_, Nat.le_refl _, Nat.le_refl _⟩
  · rw [PyData.showable]
    refine decide_eq_true ?_
    show k.log2 < 1920
    by_cases e : k = 0
    · subst e; decide
    · exact Nat.lt_of_lt_of_le ((Nat.log2_lt e).mpr (show k < 2 ^ 10 by omega)) (by decide)
  · rw [PyData.leavesShort]
    exact decide_eq_true (shown_small k hk)
theorem Sh.str {x : Str} {B : Nat} (h : ∀ c ∈ cs x, c < 16 ^ 8) (hl : (cs x).length ≤ B) : Sh 0 B (.str x) := by
  refine ⟨by rw [PyData.showable], ?_, Nat.le_refl _, ?_⟩
  · rw [PyData.leavesShort, List.all_eq_true]
    exact fun c hc => decide_eq_true (h c hc)
  · show x.cps.size ≤ B
    simpa [cs] using hl
theorem sh_all {D B : Nat} : ∀ {ds : List PyData}, (∀ d ∈ ds, Sh D B d) → PyData.showableAll ds = true ∧ PyData.leavesShortAll 8 ds = true ∧ PyData.depthAll ds ≤ D ∧ PyData.bulkAll ds ≤ ds.length * (B + 1)
  | [], _ => ⟨rfl, rfl, Nat.zero_le _, Nat.zero_le _⟩
  | d :: ds, h => by
    obtain ⟨a1, a2, a3, a4⟩ := h d (List.mem_cons_self ..)
    obtain ⟨b1, b2, b3, b4⟩ := sh_all (ds := ds) fun e he => h e (List.mem_cons_of_mem _ he)
    refine ⟨by rw [PyData.showableAll, a1, b1]; rfl, by rw [PyData.leavesShortAll, a2, b2]; rfl, by rw [PyData.depthAll]; omega, ?_⟩
    rw [PyData.bulkAll, List.length_cons, Nat.add_mul]
    omega
theorem Sh.tup {D B : Nat} {ds : List PyData} (h : ∀ d ∈ ds, Sh D B d) : Sh (D + 1) (ds.length * (B + 1)) (.tuple ds) := by
  obtain ⟨b1, b2, b3, b4⟩ := sh_all h
  exact ⟨by rw [PyData.showable]; exact b1, by rw [PyData.leavesShort]; exact b2, by rw [PyData.depth]; omega, by rw [PyData.bulk]; exact b4⟩
theorem Sh.mono {D B D' B' : Nat} {d : PyData} (h : Sh D B d) (h1 : D ≤ D') (h2 : B ≤ B') : Sh D' B' d := ⟨h.ok, h.sh, Nat.le_trans h.dp h1, Nat.le_trans h.bk h2⟩
theorem sh_kv : ∀ {l : List (Str × Int)}, (∀ x ∈ l, (∀ c ∈ cs x.1, c < 16 ^ 8) ∧ (cs x.1).length ≤ 8 ∧ 0 ≤ x.2 ∧ x.2 < 1000) → PyData.showableKv (kvD l) = true ∧ PyData.leavesShortKv 8 (kvD l) = true ∧ PyData.depthKv (kvD l) ≤ 0 ∧ PyData.bulkKv (kvD l) ≤ l.length * 10
  | [], _ => ⟨rfl, rfl, Nat.zero_le _, Nat.zero_le _⟩
  | x :: l, h => by
    obtain ⟨c1, c2, c3, c4⟩ := h x (List.mem_cons_self ..)
    obtain ⟨a1, a2, a3, a4⟩ := Sh.str (B := 8) c1 c2
    obtain ⟨e1, e2, e3, e4⟩ := Sh.int c3 c4
    obtain ⟨b1, b2, b3, b4⟩ := sh_kv (l := l) fun e he => h e (List.mem_cons_of_mem _ he)
    show PyData.showableKv ((.str x.1, .int x.2) :: kvD l) = true ∧ PyData.leavesShortKv 8 ((.str x.1, .int x.2) :: kvD l) = true ∧ PyData.depthKv ((.str x.1, .int x.2) :: kvD l) ≤ 0 ∧ PyData.bulkKv ((.str x.1, .int x.2) :: kvD l) ≤ _
    refine ⟨by rw [PyData.showableKv, a1, e1, b1]; rfl, by rw [PyData.leavesShortKv, a2, e2, b2]; rfl, by rw [PyData.depthKv]; omega, ?_⟩
    rw [PyData.bulkKv, List.length_cons]
    omega
theorem Sh.dict {l : List (Str × Int)} (h : ∀ x ∈ l, (∀ c ∈ cs x.1, c < 16 ^ 8) ∧ (cs x.1).length ≤ 8 ∧ 0 ≤ x.2 ∧ x.2 < 1000) : Sh 1 (l.length * 10) (.dict (kvD l)) := by
  obtain ⟨b1, b2, b3, b4⟩ := sh_kv h
  exact ⟨by rw [PyData.showable]; exact b1, by rw [PyData.leavesShort]; exact b2, by rw [PyData.depth]; omega, by rw [PyData.bulk]; exact b4⟩
theorem Sh.size {D B : Nat} {d : PyData} (h : Sh D B d) (hb : B ≤ 2 ^ 20) : d.shown.length ≤ sizeLine := PyData.shown_fits_bulk (Nat.le_refl 8) (by decide) h.sh (Nat.le_trans h.bk hb)
def sgD (sg : Sg) : PyData := .tuple (sg.map fun s => .tuple [.str s.1, .int s.2])
theorem sgD_solid (sg : Sg) : solid (sgD sg) = true := by
  rw [sgD, solid]
  refine solidAll_of fun d hd => ?_
  obtain ⟨s, _, rfl⟩ := List.mem_map.mp hd
  simp [solid, solid.solidAll]
theorem sgD_at {K : PySem.W.Frag} {H : Hp} {p : Addr} {sg : Sg} (h : SgAt K H p sg) : Dp K H (.ref p) (sgD sg) := by
  obtain ⟨rs, hS, pr⟩ := h.ex
  refine .tup hS ?_
  clear hS h
  induction pr with
  | nil => exact .nil
  | cons a _ ih => exact .cons (.tup a (.cons (.str _) (.cons (.int _) .nil))) ih
theorem wd_small {i : Nat} {w : Str} (h : Wd i w) : (∀ c ∈ cs w, c < 16 ^ 8) ∧ (cs w).length ≤ 8 := by
  rcases h with ⟨_, h2, h3⟩ | ⟨hi, h⟩
  · refine ⟨fun c hc => ?_, h2⟩
    have h8 : (16 : Nat) ^ 8 = 4294967296 := by decide
    rcases h3 c hc with e | e | e | e <;> omega
  · rw [h]
    refine ⟨fun c hc => ?_, by show 2 ≤ 8; decide⟩
    have h8 : (16 : Nat) ^ 8 = 4294967296 := by decide
    simp only [List.mem_cons, List.not_mem_nil, or_false] at hc
    omega
theorem sgD_sh {sg : Sg} (g : GSg sg) : Sh 2 76 (sgD sg) := by
  have h4 := g.len.2
  have := Sh.tup (D := 1) (B := 18) (ds := sg.map fun s => .tuple [.str s.1, .int s.2]) fun d hd => by
    obtain ⟨s, hs, rfl⟩ := List.mem_map.mp hd
    obtain ⟨i, hw⟩ := g.wd s hs
    obtain ⟨w1, w2⟩ := wd_small hw
    have ha := g.ar s hs
    exact Sh.tup (D := 0) (B := 8) (ds := [.str s.1, .int s.2]) fun e he => by
      simp only [List.mem_cons, List.not_mem_nil, or_false] at he
      rcases he with rfl | rfl
      · exact Sh.str w1 w2
      · exact (Sh.int ha.1 (by omega)).mono (Nat.le_refl _) (by omega)
  refine this.mono (Nat.le_refl _) ?_
  rw [List.length_map]
  omega
def entB (m : Nat) : Nat → Nat
  | 0 => 0
  | a + 1 => m * (entB m a + 1)
theorem ent_sh {m : Nat} (hm : m ≤ 1000) : ∀ {a : Nat} {d : PyData}, Ent m a d → Sh a (entB m a) d
  | 0, d, h => by obtain ⟨n, rfl, h0, h1⟩ := h; exact Sh.int h0 (by omega)
  | a + 1, d, h => by
    obtain ⟨ds, rfl, hl, hall⟩ := h
    have := Sh.tup fun e he => ent_sh hm (hall e he)
    rw [hl] at this
    exact this
theorem mv_sh {m : Nat} {sg : Sg} {md : List PyData} (g : GSg sg) (h : MvOk m sg md) (hm : m ≤ 24) : Sh 3 2404 (.tuple md) := by
  have h4 := g.len.2
  have := Sh.tup (D := 2) (B := 600) (ds := md) fun d hd => by
    obtain ⟨i, hi, rfl⟩ := List.getElem_of_mem hd
    have hi2 : i < sg.length := by rw [← h.len]; exact hi
    have hE := h.ent i _ _ (List.getElem?_eq_getElem hi2) (List.getElem?_eq_getElem hi)
    have ha := g.ar sg[i] (List.getElem_mem hi2)
    have hs := ent_sh (by omega) hE
    have hk : sg[i].2.toNat = 0 ∨ sg[i].2.toNat = 1 ∨ sg[i].2.toNat = 2 := by omega
    rcases hk with e | e | e <;> rw [e] at hs
    · exact hs.mono (by omega) (Nat.zero_le _)
    · exact hs.mono (by omega) (by show m * (0 + 1) ≤ 600; omega)
    · refine hs.mono (by omega) ?_
      show m * (m * (0 + 1) + 1) ≤ 600
      have : m * (m * (0 + 1) + 1) ≤ 24 * (24 * (0 + 1) + 1) := Nat.mul_le_mul hm (by omega)
      omega
  refine this.mono (Nat.le_refl _) ?_
  rw [h.len]
  have : List.length sg * (600 + 1) ≤ 4 * 601 := Nat.mul_le_mul h4 (Nat.le_refl _)
  omega
end Pg

set_option Elab.async false
set_option linter.all false
set_option maxRecDepth 100000
set_option maxHeartbeats 4000000
namespace Pg
open PySem PySem.Spec PyProof.Rows L2
/-! ### the text of a term -/
def around (s inner : Str) : Str := ((Str.empty ++ s ++ PySem.Str.ofString "(") ++ inner) ++ PySem.Str.ofString ")"
def txt : Tr → Str
  | .nm x => x
  | .c0 s => s
  | .c1 s t => around s (Txt.join (PySem.Str.ofString ", ") [txt t])
  | .c2 s t u => around s (Txt.join (PySem.Str.ofString ", ") [txt t, txt u])
def okT (t : Tr) : Prop := t.sym.length ≤ 8 ∧ t.size ≤ 1000
def rTxt : Hp → Tr → V → Prop := fun _ t r => r = .str (txt t) ∧ (txt t).length ≤ 20 * t.size
def spSzo (K : PySem.W.Frag) : Sp := fun vs H Q _ => ∃ (v : V) (t : Tr), vs = [v] ∧ TrAt K H t v ∧ t.size ≤ 100000 ∧ ∀ H', Same H H' → Q (.int (t.size : Nat)) H'
def spTtx (K : PySem.W.Frag) (P : Addr) (q : Str) : Sp := fun vs H Q _ => ∃ (v : V) (t : Tr), vs = [v] ∧ TrAt K H t v ∧ t.size ≤ 1000 ∧ (∀ k ∈ pre t, okT k) ∧ LamX.TabS H P q ∧ ∀ H', ButP P H H' → LamX.TabS H' P q → (txt t).length ≤ 20 * t.size → Q (.str (txt t)) H'
end Pg

set_option Elab.async false
set_option linter.all false
set_option maxRecDepth 100000
set_option maxHeartbeats 4000000
namespace Pg
open PySem PySem.Spec PyProof.Rows L2
/-! ### an item of a list, read for an augmented assignment -/
section
variable {X : Cx}
theorem get_list : PGet X (rIxL X.K) := by
  intro pins s σ H o i ov iv Q I ro ri ⟨p, xs, k, v, eo, ei, hq, he, q⟩
  subst eo ei
  cases ro
  obtain ⟨t, rfl⟩ := ri
  obtain ⟨its, r, pl, hz⟩ := I.list hq
  obtain ⟨j, a1, a2, a3, a4, a5⟩ := atI_get he
  obtain ⟨w, ew, rw'⟩ := r.get a2
  have hlen := r.length
  have h63 := line63
  have done : EP X pins σ Q w s := ⟨v, H, I, rw', q⟩
  by_cases hk : 0 ≤ k
  · have ej : k.toNat = j := by
      rw [seqIndex_of hk a5] at a1
      exact Option.some.inj a1
    exact wpAny_getItem_list pl.isList hk (by omega) (by rw [ej]; simpa using ew) done
  · have ej : (k + (its.toArray.size : Int)).toNat = j := by
      rw [seqIndex_neg (by omega) a4] at a1
      rw [List.size_toArray, ← hlen]
      exact Option.some.inj a1
    exact wpAny_getItem_list_neg pl.isList (by omega) (by rw [List.size_toArray] <;> omega) (by omega) (by rw [ej]; simpa using ew) done
/-- what can't be reached -/
def tNo : TS := fun _ _ _ => False
theorem ps_no {st : Stmt} : PS X st tNo := ⟨fun pins s σ H D I h => h.elim⟩
end
/-! ### the parts of a text -/
abbrev oneC (c : Nat) : Str := ⟨#[c]⟩
def stepS (st : List Str × Bool) (c : Nat) : List Str × Bool :=
  if (lowC c && st.2) = true then (st.1.dropLast ++ [(st.1.getLast?.getD Str.empty) ++ oneC c], true) else if c = 32 then (st.1, lowC c) else (st.1 ++ [oneC c], lowC c)
def splitS (l : List Nat) : List Str := (l.foldl stepS ([], false)).1
/-- words, and the other parts -/
def Wt (x : Str) : Prop := cs x ≠ [] ∧ ∀ c ∈ cs x, lowC c = true
def Pn (x : Str) : Prop := ∃ c, cs x = [c] ∧ lowC c = false ∧ c ≠ 32
def OkB : Bool → List Str → Prop
  | _, [] => True
  | b, x :: r => (Wt x ∧ b = false ∧ OkB true r) ∨ (Pn x ∧ OkB false r)
def OkP (r : List Str) : Prop := r = [] ∨ ∃ p r', r = p :: r' ∧ Pn p ∧ OkB false r'
theorem OkP.ok {r : List Str} (h : OkP r) (b : Bool) : OkB b r := by
  rcases h with rfl | ⟨p, r', rfl, hp, hr⟩
  · exact True.intro
  · exact .inr ⟨hp, hr⟩
theorem OkP.cons {p : Str} {r : List Str} (hp : Pn p) (hr : OkB false r) : OkP (p :: r) := .inr ⟨p, r, rfl, hp, hr⟩
abbrev lp : Str := "("
abbrev rp : Str := ")"
abbrev cm : Str := ","
theorem pn_lp : Pn lp := ⟨40, by decide +kernel, by decide, by decide⟩
theorem pn_rp : Pn rp := ⟨41, by decide +kernel, by decide, by decide⟩
theorem pn_cm : Pn cm := ⟨44, by decide +kernel, by decide, by decide⟩
def toks : Tr → List Str
  | .nm x => [x]
  | .c0 s => [s]
  | .c1 s t => s :: lp :: (toks t ++ [rp])
  | .c2 s t u => s :: lp :: (toks t ++ cm :: (toks u ++ [rp]))
/-- all words of the term are words -/
def WtT : Tr → Prop
  | .nm x => Wt x
  | .c0 s => Wt s
  | .c1 s t => Wt s ∧ WtT t
  | .c2 s t u => Wt s ∧ WtT t ∧ WtT u
theorem tkn_ok : ∀ (t : Tr) {r : List Str}, WtT t → OkP r → OkB false (toks t ++ r)
  | .nm x, r, h, hr => .inl ⟨h, rfl, hr.ok true⟩
  | .c0 s, r, h, hr => .inl ⟨h, rfl, hr.ok true⟩
  | .c1 s t, r, h, hr => by
    show OkB false (s :: lp :: ((toks t ++ [rp]) ++ r))
    rw [List.append_assoc]
    exact .inl ⟨h.1, rfl, .inr ⟨pn_lp, tkn_ok t h.2 (OkP.cons pn_rp (hr.ok false))⟩⟩
  | .c2 s t u, r, h, hr => by
    show OkB false (s :: lp :: ((toks t ++ cm :: (toks u ++ [rp])) ++ r))
    rw [List.append_assoc, List.cons_append, List.append_assoc]
    exact .inl ⟨h.1, rfl, .inr ⟨pn_lp, tkn_ok t h.2.1 (OkP.cons pn_cm (tkn_ok u h.2.2 (OkP.cons pn_rp (hr.ok false))))⟩⟩
theorem str_app_oneC {x : Str} {c : Nat} : cs (x ++ oneC c) = cs x ++ [c] := by rw [cs_app]
theorem fold_word {acc : List Str} : ∀ (l : List Nat) (p : Str), (∀ c ∈ l, lowC c = true) → ∃ q : Str, cs q = cs p ++ l ∧ l.foldl stepS (acc ++ [p], true) = (acc ++ [q], true)
  | [], p, _ => ⟨p, by simp, rfl⟩
  | c :: l, p, h => by
    have hc := h c (List.mem_cons_self ..)
    obtain ⟨q, h1, h2⟩ := fold_word (acc := acc) l (p ++ oneC c) fun d hd => h d (List.mem_cons_of_mem _ hd)
    refine ⟨q, by rw [h1, str_app_oneC, List.append_assoc]; rfl, ?_⟩
    have e : stepS (acc ++ [p], true) c = (acc ++ [p ++ oneC c], true) := by
      unfold stepS
      rw [hc]
      simp
    rw [List.foldl_cons, e]
    exact h2
theorem fold_wt {acc : List Str} {x : Str} (h : Wt x) : (cs x).foldl stepS (acc, false) = (acc ++ [x], true) := by
  obtain ⟨hne, hall⟩ := h
  cases e : cs x with
  | nil => exact absurd e hne
  | cons c l =>
    rw [e] at hall
    have hc := hall c (List.mem_cons_self ..)
    have hc32 : c ≠ 32 := by
      intro z
      subst z
      exact absurd hc (by decide)
    have e1 : stepS (acc, false) c = (acc ++ [oneC c], true) := by
      unfold stepS
      simp [hc32, hc]
    obtain ⟨q, h1, h2⟩ := fold_word (acc := acc) l (oneC c) fun d hd => hall d (List.mem_cons_of_mem _ hd)
    rw [List.foldl_cons, e1, h2]
    have : q = x := cs_inj (by rw [h1, e]; first | done | rfl)
    rw [this]
theorem fold_pn {acc : List Str} {b : Bool} {x : Str} (h : Pn x) : (cs x).foldl stepS (acc, b) = (acc ++ [x], false) := by
  obtain ⟨c, e, hc, h32⟩ := h
  have ex : x = oneC c := cs_inj (by rw [e])
  rw [e, List.foldl_cons, List.foldl_nil]
  unfold stepS
  simp [h32, ex, hc]
theorem fold_sp {acc : List Str} : ∀ (n : Nat) (b : Bool), ((List.replicate n 32).foldl stepS (acc, b)).1 = acc ∧ (((List.replicate n 32).foldl stepS (acc, b)).2 = true → b = true)
  | 0, b => ⟨rfl, id⟩
  | n + 1, b => by
    have e : stepS (acc, b) 32 = (acc, false) := by
      unfold stepS
      have : lowC 32 = false := by decide
      simp [this]
    rw [List.replicate_succ, List.foldl_cons, e]
    obtain ⟨h1, h2⟩ := fold_sp (acc := acc) n false
    exact ⟨h1, fun z => absurd (h2 z) (by decide)⟩
/-- parts, each with so many spaces behind it -/
def flatG (l : List (Str × Nat)) : List Nat := l.flatMap fun p => cs p.1 ++ List.replicate p.2 32
theorem fold_flat : ∀ (l : List (Str × Nat)) {b b' : Bool} {acc : List Str}, OkB b (l.map (·.1)) → (b' = true → b = true) → ((flatG l).foldl stepS (acc, b')).1 = acc ++ l.map (·.1)
  | [], b, b', acc, _, _ => by simp [flatG]
  | p :: l, b, b', acc, h, hb => by
    have e : flatG (p :: l) = (cs p.1 ++ List.replicate p.2 32) ++ flatG l := by simp [flatG]
    rw [e, List.foldl_append, List.foldl_append]
    rcases h with ⟨hw, e0, hr⟩ | ⟨hp, hr⟩
    · have eb : b' = false := by
        cases b' with
        | false => rfl
        | true => rw [hb rfl] at e0; cases e0
      subst eb
      rw [fold_wt hw]
      obtain ⟨h1, h2⟩ := fold_sp (acc := acc ++ [p.1]) p.2 true
      have ee : (List.replicate p.2 32).foldl stepS (acc ++ [p.1], true) = (acc ++ [p.1], ((List.replicate p.2 32).foldl stepS (acc ++ [p.1], true)).2) := Prod.ext h1 rfl
      rw [ee, fold_flat l hr (fun z => rfl)]
      simp
    · rw [fold_pn hp]
      obtain ⟨h1, h2⟩ := fold_sp (acc := acc ++ [p.1]) p.2 false
      have ee : (List.replicate p.2 32).foldl stepS (acc ++ [p.1], false) = (acc ++ [p.1], ((List.replicate p.2 32).foldl stepS (acc ++ [p.1], false)).2) := Prod.ext h1 rfl
      rw [ee, fold_flat l hr (fun z => absurd (h2 z) (by decide))]
      simp
/-- a text that is a term's parts with spaces before and behind -/
theorem split_term {t : Tr} (h : WtT t) {n0 : Nat} {l : List (Str × Nat)} (e : l.map (·.1) = toks t) : splitS (List.replicate n0 32 ++ flatG l) = toks t := by
  unfold splitS
  rw [List.foldl_append]
  obtain ⟨h1, h2⟩ := fold_sp (acc := []) n0 false
  have ee : (List.replicate n0 32).foldl stepS ([], false) = ([], ((List.replicate n0 32).foldl stepS ([], false)).2) := Prod.ext h1 rfl
  rw [ee, fold_flat l (b := false) (by rw [e]; have := tkn_ok t h (r := []) (.inl rfl); rw [List.append_nil] at this; exact this) h2, e]
  rfl
/-! ### terms that are begun -/
structure Fm where
  s : Str
  done : List Tr
  todo : List Tr
def mkTr (s : Str) : List Tr → Tr
  | [] => .c0 s
  | [t] => .c1 s t
  | t :: u :: _ => .c2 s t u
def restF : List Fm → List Str
  | [] => []
  | f :: fs => (f.todo.flatMap fun k => cm :: toks k) ++ rp :: restF fs
def plug : List Fm → Tr → Tr
  | [], t => t
  | f :: fs, t => plug fs (mkTr f.s (f.done ++ t :: f.todo))
end Pg

set_option Elab.async false
set_option linter.all false
set_option maxRecDepth 100000
set_option maxHeartbeats 4000000
/-! what the run of a head needs, ahead of all else -/
namespace Pg
open PySem PySem.Spec PyProof.Rows L2
/-- a statement of a class statement's body -/
def inner (s : Stmt) (j : Nat) : Stmt := match s with
  | .ClassDef _ _ _ b _ _ _ _ _ _ _ => b.getD j (.Pass ⟨0, 0, 0, 0⟩)
  | _ => .Pass ⟨0, 0, 0, 0⟩
open PySem.W in
def excB (K : PySem.W.Frag) (D : Addr) : Bool := decide (findIn K (.ref D) "__getattribute__" = some (some (.builtin "BaseException.__getattribute__"))) && (decide (findIn K (.ref D) "__getattr__" = some none) && (decide (subIn K (.ref D) (.type "BaseException") = some true) && (hasDictIn K D && (decide (findIn K (.ref D) "__class__" = some (some (.builtin "object.__class__"))) && (decide (specialIn K (.builtin "object.__class__") "__get__" = some (some (.builtin "getset_descriptor.__get__"))) && (decide (takesIn K (.builtin "object.__class__") = some true) && decide (mroIn K D (.type "object") = some true)))))))
end Pg

set_option Elab.async false
set_option linter.all false
set_option maxRecDepth 100000
set_option maxHeartbeats 4000000
namespace Pg
open PySem PySem.Spec PyProof.Rows L2
theorem mk_met {P : Program} {w : World} {K : PySem.W.Frag} {mg : Str → Option Value} {base : Heap} {m q : Str} {C : Addr} {st : Stmt} {f : Addr} {fd : FuncData} {N ps : List Str} {k : Nat} {sp : Sp} (c : Cls K C) (me : Meth K C m f) (F : FunD K m q (defArgs st) (defBody st) (defScope st) [] [] f fd) (S : FnScope N ps (defScope st))
    (hb : ∀ (kV doc pm : Value) (an : Option Addr) (cdv ct : Value) (us : List Value), us.length = ps.length → bindArgs (PySem.W.fnOf m q (defArgs st) (defBody st) (defScope st) .none kV doc pm an cdv ct) ⟨us, []⟩ = pure (ps.zip us))
    (len : ∀ vs H Q E, sp vs H Q E → vs.length = ps.length)
    (body : ∀ (cdv : Value) (A : Around) (outer : List Env) (s : Shared) (H : Hp) (vs : List V) (Q : VK) (E : XK), Room k (A.deeper (envOfC q (defScope st) s.heap.objs.size f cdv)) → sp vs H Q E →
      ∃ t, PSs (cxOf CX0 P w K mg base N q (defScope st) f cdv A outer s H E).nox (defBody st) t ∧ t { nx := fun _ H' => Q .non H', rt := Q } (start N vs) H) : C8.Met P w K mg base (k + 1) C m sp [] :=
  ⟨f, fd, ps, [], c, me, F.ok S len (fun cdv A outer s H vs Q E hr h => let ⟨t, a, b⟩ := body cdv A outer s H vs Q E hr h; ⟨t, a.nox, b⟩), F.bindsN hb, .nil⟩
theorem mk_mak {P : Program} {w : World} {K : PySem.W.Frag} {mg : Str → Option Value} {base : Heap} {x q : Str} {C : Addr} {st : Stmt} {f : Addr} {fd : FuncData} {N ps : List Str} {k : Nat} {sp : Sp} (M : Mk K C f) (hm : mg x = some (.ref C)) (F : FunD K "__init__" q (defArgs st) (defBody st) (defScope st) [] [] f fd) (S : FnScope N ps (defScope st))
    (hb : ∀ (kV doc pm : Value) (an : Option Addr) (cdv ct : Value) (us : List Value), us.length = ps.length → bindArgs (PySem.W.fnOf "__init__" q (defArgs st) (defBody st) (defScope st) .none kV doc pm an cdv ct) ⟨us, []⟩ = pure (ps.zip us))
    (len : ∀ vs H Q E, sp vs H Q E → vs.length = ps.length)
    (body : ∀ (cdv : Value) (A : Around) (outer : List Env) (s : Shared) (H : Hp) (vs : List V) (Q : VK) (E : XK), Room k (A.deeper (envOfC q (defScope st) s.heap.objs.size f cdv)) → sp vs H Q E →
      ∃ t, PSs (cxOf CX0 P w K mg base N q (defScope st) f cdv A outer s H E).nox (defBody st) t ∧ t { nx := fun _ H' => Q .non H', rt := Q } (start N vs) H) : C8.Mak P w K mg base (k + 1) x C sp [] :=
  ⟨f, fd, ps, [], M, F.ok S len (fun cdv A outer s H vs Q E hr h => let ⟨t, a, b⟩ := body cdv A outer s H vs Q E hr h; ⟨t, a.nox, b⟩), hm, F.bindsN hb, .nil⟩
/-! ### the parts taken off -/
/-- the object at o: its parts, the next one's index -/
structure PtAt (C o pl : Addr) (H : Hp) (ps : List Str) (i : Nat) : Prop where
  ex : ∃ dx : Addr, H o = some (.ins C dx [("parts", .ref pl), ("at", .int (i : Nat))]) ∧ H pl = some (.lst (ps.map V.str))
structure PtC (K : PySem.W.Frag) (C : Addr) : Prop where
  cl : Cls K C
  nP : NoAttr K C "parts"
  nA : NoAttr K C "at"
def spSpl : Sp := fun vs H Q _ => ∃ x : Str, vs = [.str x] ∧ x.length ≤ 5000 ∧ ∀ p H', H p = none → Same H H' → H' p = some (.lst ((splitS (cs x)).map V.str)) → Q (.ref p) H'
def spPini (C : Addr) : Sp := fun vs H Q _ => ∃ (o dx : Addr) (x : Str), vs = [.ref o, .str x] ∧ H o = some (.ins C dx []) ∧ x.length ≤ 5000 ∧ ∀ pl H', H pl = none → Fr o H H' → PtAt C o pl H' (splitS (cs x)) 0 → Q .non H'
def spPek (C : Addr) : Sp := fun vs H Q _ => ∃ (o pl : Addr) (ps : List Str) (i : Nat), vs = [.ref o] ∧ PtAt C o pl H ps i ∧ ps.length ≤ 10000 ∧ Q (.str (ps.getD i Str.empty)) H
def spTak (C : Addr) : Sp := fun vs H Q _ => ∃ (o pl : Addr) (ps : List Str) (i : Nat), vs = [.ref o] ∧ PtAt C o pl H ps i ∧ ps.length ≤ 10000 ∧ ∀ H' u, H' = upd H o u → PtAt C o pl H' ps (i + 1) → Q (.str (ps.getD i Str.empty)) H'
def spExp (C : Addr) : Sp := fun vs H Q _ => ∃ (o pl : Addr) (ps : List Str) (i : Nat) (x : Str), vs = [.ref o, .str x] ∧ PtAt C o pl H ps i ∧ ps.length ≤ 10000 ∧ ps.getD i Str.empty = x ∧ ∀ H' u, H' = upd H o u → PtAt C o pl H' ps (i + 1) → Q .non H'
def spExe (C : Addr) : Sp := fun vs H Q _ => ∃ (o pl : Addr) (ps : List Str) (i : Nat), vs = [.ref o] ∧ PtAt C o pl H ps i ∧ ps.length ≤ 10000 ∧ ps.length ≤ i ∧ ∀ H' u, H' = upd H o u → PtAt C o pl H' ps (i + 1) → Q .non H'
end Pg

set_option Elab.async false
set_option linter.all false
set_option maxRecDepth 100000
set_option maxHeartbeats 4000000
namespace Pg
open PySem PySem.Spec PyProof.Rows L2 LamX
/-! ### a term being taken off the parts -/
/-- what is told of terms that are read: each name is a word and no sign, each sign has its arity -/
def RdOk (sg : Sg) : Tr → Prop
  | .nm x => numB sg x = -1 ∧ isW x = true
  | .c0 s => numB sg s = 0
  | .c1 s t => numB sg s = 1 ∧ RdOk sg t
  | .c2 s t u => numB sg s = 2 ∧ RdOk sg t ∧ RdOk sg u
structure FmOk (sg : Sg) (f : Fm) : Prop where
  ar : numB sg f.s = (f.done.length + 1 + f.todo.length : Nat)
  le : f.done.length + 1 + f.todo.length ≤ 2
  td : ∀ k ∈ f.todo, RdOk sg k
/-- the list of begun terms at bl: rs the lists of the terms, the last begun one first -/
structure BgAt (K : PySem.W.Frag) (sg : Sg) (H0 H : Hp) (bl : Addr) (rs : List Addr) (fs : List Fm) : Prop where
  at_ : H bl = some (.lst (rs.reverse.map V.ref))
  fr : Paired (fun r (f : Fm) => ∃ us, H r = some (.lst (.str f.s :: us)) ∧ KidsAt K H us f.done) rs fs
  nd : rs.Nodup
  nb : bl ∉ rs
  new : H0 bl = none ∧ ∀ r ∈ rs, H0 r = none
  ok : ∀ f ∈ fs, FmOk sg f
  le : fs.length ≤ 10000
/-- the parts' object -/
structure PoAt (C o pl : Addr) (H0 H : Hp) (bl : Addr) (rs : List Addr) (ps : List Str) (i : Nat) : Prop where
  pt : PtAt C o pl H ps i
  len : ps.length ≤ 10000
  new : H0 o = none
  npb : pl ≠ bl
  npr : pl ∉ rs
  sm : Same H0 H
theorem PtAt.ne {C o pl q : Addr} {H : Hp} {ps : List Str} {i : Nat} {xs : List V} (p : PtAt C o pl H ps i) (h : H q = some (.lst xs)) : o ≠ q := by
  obtain ⟨dx, ho, _⟩ := p.ex
  exact ne_of ho h (by intro z; cases z)
theorem PtAt.put {C o pl q : Addr} {H : Hp} {ps : List Str} {i : Nat} {xs : List V} {u : HO} (p : PtAt C o pl H ps i) (h : H q = some (.lst xs)) (n : pl ≠ q) : PtAt C o pl (upd H q u) ps i := by
  obtain ⟨dx, ho, hp⟩ := p.ex
  exact ⟨dx, by rw [upd_ne (p.ne h)]; exact ho, by rw [upd_ne n]; exact hp⟩
theorem PtAt.same {C o pl : Addr} {H H' : Hp} {ps : List Str} {i : Nat} (p : PtAt C o pl H ps i) (s : Same H H') : PtAt C o pl H' ps i := by
  obtain ⟨dx, ho, hp⟩ := p.ex
  exact ⟨dx, s _ _ ho, s _ _ hp⟩
theorem PtAt.tk {K : PySem.W.Frag} {C o pl : Addr} {H : Hp} {ps : List Str} {i : Nat} {u : HO} (p : PtAt C o pl H ps i) : TK K H (upd H o u) := by
  obtain ⟨dx, ho, _⟩ := p.ex
  intro q ys h
  have hne : ∀ {x : HO}, H q = some x → (∀ C dx fs, x ≠ .ins C dx fs) → q ≠ o := fun e n => ne_of e ho (n _ _ _)
  rcases h with (h | ⟨x, h⟩) | h
  · exact .inl (.inl (by rw [upd_ne (hne h (fun _ _ _ z => by cases z))]; exact h))
  · exact .inl (.inr ⟨x, by rw [upd_ne (hne h (fun _ _ _ z => by cases z))]; exact h⟩)
  · exact .inr h
/-- the list at b changes nothing of the others -/
theorem frames_keep {K : PySem.W.Frag} {H H' : Hp} (tk : TK K H H') : ∀ {rs : List Addr} {fs : List Fm}, (∀ r ∈ rs, ∀ xs, H r = some (.lst xs) → H' r = some (.lst xs)) → Paired (fun r (f : Fm) => ∃ us, H r = some (.lst (.str f.s :: us)) ∧ KidsAt K H us f.done) rs fs → Paired (fun r (f : Fm) => ∃ us, H' r = some (.lst (.str f.s :: us)) ∧ KidsAt K H' us f.done) rs fs
  | _, _, _, .nil => .nil
  | r :: rs, f :: fs, h, .cons ⟨us, a, b⟩ t => .cons ⟨us, h r (List.mem_cons_self ..) _ a, b.keep tk⟩ (frames_keep tk (fun r hr => h r (List.mem_cons_of_mem _ hr)) t)
def spLof (K : PySem.W.Frag) : Sp := fun vs H Q _ => ∃ (g : Addr) (sg : Sg) (x : Str) (t : Tr), vs = [.ref g, .str x] ∧ SgAt K H g sg ∧ sg.length ≤ 1000 ∧ x.length ≤ 1000 ∧ ((t = .c0 x ∧ numB sg x = 0) ∨ (t = .nm x ∧ numB sg x = -1 ∧ isW x = true)) ∧ ∀ v H', TrAt K H' t v → Same H H' → Q v H'
def spEnd (K : PySem.W.Frag) (C : Addr) : Sp := fun vs H Q _ => ∃ (g o pl bl : Addr) (v : V) (H0 : Hp) (sg : Sg) (ps tail : List Str) (i : Nat) (rs : List Addr) (fs : List Fm) (t T : Tr), vs = [.ref g, .ref o, .ref bl, v] ∧ SgAt K H g sg ∧ sg.length ≤ 1000 ∧ TrAt K H t v ∧ PoAt C o pl H0 H bl rs ps i ∧ BgAt K sg H0 H bl rs fs ∧ ps.drop i = restF fs ++ tail ∧ plug fs t = T ∧
  (∀ v' H' i' rs', TrAt K H' T v' → v' ≠ .non → PoAt C o pl H0 H' bl rs' ps i' → ps.drop i' = tail → TK K H H' → Q v' H') ∧
  (∀ H' i' rs' fs' k, PoAt C o pl H0 H' bl rs' ps i' → BgAt K sg H0 H' bl rs' fs' → ps.drop i' = toks k ++ (restF fs' ++ tail) → plug fs' k = T → RdOk sg k → i < i' → fs'.length ≤ fs.length → TK K H H' → Q .non H')
def spTkt (K : PySem.W.Frag) (C : Addr) : Sp := fun vs H Q _ => ∃ (g o pl : Addr) (H0 : Hp) (sg : Sg) (ps tail : List Str) (i : Nat) (T : Tr), vs = [.ref g, .ref o] ∧ SgAt K H g sg ∧ sg.length ≤ 1000 ∧ PtAt C o pl H ps i ∧ ps.length ≤ 10000 ∧ (∀ x ∈ ps, x.length ≤ 1000) ∧ H0 o = none ∧ Same H0 H ∧ ps.drop i = toks T ++ tail ∧ RdOk sg T ∧
  ∀ v' H' i', TrAt K H' T v' → PtAt C o pl H' ps i' → ps.drop i' = tail → Same H0 H' → TK K H H' → Q v' H'
theorem toks_len : ∀ t : Tr, (toks t).length ≤ 4 * t.size
  | .nm _ => by show 1 ≤ 4; omega
  | .c0 _ => by show 1 ≤ 4; omega
  | .c1 s t => by
    have := toks_len t
    show (s :: lp :: (toks t ++ [rp])).length ≤ 4 * (1 + t.size)
    simp only [List.length_cons, List.length_append, List.length_nil]
    omega
  | .c2 s t u => by
    have := toks_len t
    have := toks_len u
    show (s :: lp :: (toks t ++ cm :: (toks u ++ [rp]))).length ≤ 4 * (1 + t.size + u.size)
    simp only [List.length_cons, List.length_append, List.length_nil]
    omega
structure GRd (mg : Str → Option Value) : Prop where
  mx : ∃ u, mg "MAX_TERM_TEXT" = some u ∧ RelV (.int 4000) u
  mt : ∃ u, mg "MAX_TREE" = some u ∧ RelV (.int 400) u
  md : ∃ u, mg "MAX_DEEP" = some u ∧ RelV (.int 100) u
def spRdt (K : PySem.W.Frag) (P : Addr) (q : Str) : Sp := fun vs H Q _ => ∃ (g : Addr) (sg : Sg) (x : Str) (t : Tr), vs = [.ref g, .str x] ∧ SgAt K H g sg ∧ sg.length ≤ 1000 ∧ x.length ≤ 4000 ∧ splitS (cs x) = toks t ∧ RdOk sg t ∧ (∀ y ∈ toks t, y.length ≤ 1000) ∧ t.size ≤ 400 ∧ t.dep ≤ 100 ∧ TabS H P q ∧ ∀ v H', TrAt K H' t v → ButP P H H' → TabS H' P q → Q v H'
end Pg

set_option Elab.async false
set_option linter.all false
set_option maxRecDepth 100000
set_option maxHeartbeats 4000000
namespace Pg
open PySem PySem.Spec PyProof.Rows L2 LamX
/-! ### words of terms -/
structure NmOk (x : Str) : Prop where
  w : isW x = true
  t : Wt x
  l : (cs x).length ≤ 8
  n : ∀ i, ¬ Wd i x
theorem nm_of {x : Str} (h1 : isW x = true) (h2 : (cs x).length ≤ 8) (h3 : cs x ≠ []) (h4 : (cs x).all lowC = true) (h5 : ∃ c ∈ cs x, c ≠ 97 ∧ c ≠ 98 ∧ c ≠ 121 ∧ c ≠ 122) (h6 : (cs x).head? ≠ some 99) : NmOk x :=
  ⟨h1, ⟨h3, fun c hc => List.all_eq_true.mp h4 c hc⟩, h2, fun i h => by
    rcases h with ⟨_, _, h⟩ | ⟨_, h⟩
    · obtain ⟨c, hc, a, b, d, e⟩ := h5
      rcases h c hc with z | z | z | z
      · exact a z
      · exact b z
      · exact d z
      · exact e z
    · rw [h] at h6
      exact h6 rfl⟩
abbrev nmL : List Str := ["x", "v", "xx", "xvxvxvxv"]
theorem nmL_ok : ∀ x ∈ nmL, NmOk x := by
  intro x hx
  simp only [List.mem_cons, List.not_mem_nil, or_false] at hx
  rcases hx with rfl | rfl | rfl | rfl <;> exact nm_of (by decide +kernel) (by decide +kernel) (by decide +kernel) (by decide +kernel) (by decide +kernel) (by decide +kernel)
theorem wd_wt {i : Nat} {w : Str} (h : Wd i w) : Wt w := by
  rcases h with ⟨h1, _, h3⟩ | ⟨hi, h⟩
  · refine ⟨fun z => (by rw [z] at h1; simp at h1), fun c hc => ?_⟩
    rcases h3 c hc with e | e | e | e <;> subst e <;> decide
  · refine ⟨fun z => (by rw [z] at h; cases h), fun c hc => ?_⟩
    rw [h] at hc
    simp only [List.mem_cons, List.not_mem_nil, or_false] at hc
    unfold lowC
    rcases hc with e | e
    · subst e; decide
    · rw [Bool.and_eq_true, decide_eq_true_iff, decide_eq_true_iff]; omega
theorem numB_in : ∀ {sg : Sg} {s : Str} {k : Int}, (sg.map (·.1)).Nodup → (s, k) ∈ sg → numB sg s = k
  | [], s, k, _, h => absurd h List.not_mem_nil
  | p :: sg, s, k, nd, h => by
    rw [List.map_cons, List.nodup_cons] at nd
    rw [numB_cons]
    rcases List.mem_cons.mp h with e | e
    · rw [← e]
      exact if_pos rfl
    · have : p.1 ≠ s := fun z => nd.1 (by rw [z]; exact List.mem_map.mpr ⟨_, e, rfl⟩)
      rw [if_neg this]
      exact numB_in nd.2 e
theorem numB_not : ∀ {sg : Sg} {s : Str}, s ∉ sg.map (·.1) → numB sg s = -1
  | [], s, _ => rfl
  | p :: sg, s, h => by
    rw [List.map_cons, List.mem_cons, not_or] at h
    rw [numB_cons, if_neg (fun z => h.1 z.symm)]
    exact numB_not h.2
/-- what a drawn term is -/
structure TmOk (sg : Sg) (t : Tr) : Prop where
  rd : RdOk sg t
  wt : WtT t
  w8 : ∀ k ∈ pre t, (cs k.sym).length ≤ 8 ∧ ∀ c ∈ cs k.sym, lowC c = true
theorem tm_ok {sg : Sg} {nms : List Str} (g : GSg sg) (hn : ∀ x ∈ nms, NmOk x) : ∀ {t : Tr}, Wf sg nms t → TmOk sg t
  | .nm x, h => by
    obtain ⟨h1, h2, h3, h4⟩ := hn x h
    have hx : x ∉ sg.map (·.1) := fun hm => by
      obtain ⟨s, hs, e⟩ := List.mem_map.mp hm
      obtain ⟨i, hw⟩ := g.wd s hs
      rw [e] at hw
      exact h4 i hw
    refine ⟨⟨numB_not hx, h1⟩, h2, fun k hk => ?_⟩
    have : k = .nm x := by simpa [pre] using hk
    subst this
    exact ⟨h3, h2.2⟩
  | .c0 s, h => by
    obtain ⟨i, hw⟩ := g.wd _ h
    have hwt := wd_wt hw
    refine ⟨numB_in g.nd h, hwt, fun k hk => ?_⟩
    have : k = .c0 s := by simpa [pre] using hk
    subst this
    exact ⟨(wd_small hw).2, hwt.2⟩
  | .c1 s t, h => by
    obtain ⟨i, hw⟩ := g.wd _ h.1
    have hwt := wd_wt hw
    obtain ⟨a, b, c⟩ := tm_ok g hn h.2
    refine ⟨⟨numB_in g.nd h.1, a⟩, ⟨hwt, b⟩, fun k hk => ?_⟩
    rcases List.mem_cons.mp (show k ∈ Tr.c1 s t :: pre t from hk) with e | e
    · subst e; exact ⟨(wd_small hw).2, hwt.2⟩
    · exact c k e
  | .c2 s t u, h => by
    obtain ⟨i, hw⟩ := g.wd _ h.1
    have hwt := wd_wt hw
    obtain ⟨a, b, c⟩ := tm_ok g hn h.2.1
    obtain ⟨a', b', c'⟩ := tm_ok g hn h.2.2
    refine ⟨⟨numB_in g.nd h.1, a, a'⟩, ⟨hwt, b, b'⟩, fun k hk => ?_⟩
    rcases List.mem_cons.mp (show k ∈ Tr.c2 s t u :: (pre t ++ pre u) from hk) with e | e
    · subst e; exact ⟨(wd_small hw).2, hwt.2⟩
    · rcases List.mem_append.mp e with e | e
      · exact c k e
      · exact c' k e
/-- the tokens are words of the term, or single signs -/
theorem tok_small : ∀ {t : Tr}, (∀ k ∈ pre t, (cs k.sym).length ≤ 8 ∧ ∀ c ∈ cs k.sym, lowC c = true) → ∀ y ∈ toks t, (cs y).length ≤ 8 ∧ ∀ c ∈ cs y, c < 128
  | .nm x, h, y, hy => by
    have : y = x := by simpa [toks] using hy
    subst this
    obtain ⟨h1, h2⟩ := h (.nm y) (List.mem_cons_self ..)
    exact ⟨h1, fun c hc => by have := h2 c hc; unfold lowC at this; rw [Bool.and_eq_true, decide_eq_true_iff, decide_eq_true_iff] at this; omega⟩
  | .c0 x, h, y, hy => by
    have : y = x := by simpa [toks] using hy
    subst this
    obtain ⟨h1, h2⟩ := h (.c0 y) (List.mem_cons_self ..)
    exact ⟨h1, fun c hc => by have := h2 c hc; unfold lowC at this; rw [Bool.and_eq_true, decide_eq_true_iff, decide_eq_true_iff] at this; omega⟩
  | .c1 s t, h, y, hy => by
    have hs : ∀ y ∈ [s], (cs y).length ≤ 8 ∧ ∀ c ∈ cs y, c < 128 := fun y hy => by
      rw [List.mem_singleton] at hy
      subst hy
      obtain ⟨h1, h2⟩ := h (.c1 y t) (List.mem_cons_self ..)
      exact ⟨h1, fun c hc => by have := h2 c hc; unfold lowC at this; rw [Bool.and_eq_true, decide_eq_true_iff, decide_eq_true_iff] at this; omega⟩
    have hp : ∀ y ∈ [lp, rp, cm], (cs y).length ≤ 8 ∧ ∀ c ∈ cs y, c < 128 := by decide +kernel
    have ht := fun y => tok_small (t := t) (fun k hk => h k (show k ∈ Tr.c1 s t :: pre t from List.mem_cons_of_mem _ hk)) y
    have hy : y ∈ s :: lp :: (toks t ++ [rp]) := hy
    simp only [List.mem_cons, List.mem_append, List.not_mem_nil, or_false] at hy
    rcases hy with e | e | e | e
    · exact hs y (by rw [e]; exact List.mem_cons_self ..)
    · exact hp y (by rw [e]; simp)
    · exact ht y e
    · exact hp y (by rw [e]; simp)
  | .c2 s t u, h, y, hy => by
    have hs : ∀ y ∈ [s], (cs y).length ≤ 8 ∧ ∀ c ∈ cs y, c < 128 := fun y hy => by
      rw [List.mem_singleton] at hy
      subst hy
      obtain ⟨h1, h2⟩ := h (.c2 y t u) (List.mem_cons_self ..)
      exact ⟨h1, fun c hc => by have := h2 c hc; unfold lowC at this; rw [Bool.and_eq_true, decide_eq_true_iff, decide_eq_true_iff] at this; omega⟩
    have hp : ∀ y ∈ [lp, rp, cm], (cs y).length ≤ 8 ∧ ∀ c ∈ cs y, c < 128 := by decide +kernel
    have ht := fun y => tok_small (t := t) (fun k hk => h k (show k ∈ Tr.c2 s t u :: (pre t ++ pre u) from List.mem_cons_of_mem _ (List.mem_append_left _ hk))) y
    have hu := fun y => tok_small (t := u) (fun k hk => h k (show k ∈ Tr.c2 s t u :: (pre t ++ pre u) from List.mem_cons_of_mem _ (List.mem_append_right _ hk))) y
    have hy : y ∈ s :: lp :: (toks t ++ cm :: (toks u ++ [rp])) := hy
    simp only [List.mem_cons, List.mem_append, List.not_mem_nil, or_false] at hy
    rcases hy with e | e | e | e | e | e
    · exact hs y (by rw [e]; exact List.mem_cons_self ..)
    · exact hp y (by rw [e]; simp)
    · exact ht y e
    · exact hp y (by rw [e]; simp)
    · exact hu y e
    · exact hp y (by rw [e]; simp)
/-! ### the plain text -/
def gapP (x : Str) : Str × Nat := (x, if x = cm then 1 else 0)
theorem flatG_app (l m : List (Str × Nat)) : flatG (l ++ m) = flatG l ++ flatG m := by simp [flatG]
theorem gap_w {x : Str} (h : Wt x) : gapP x = (x, 0) := by
  unfold gapP
  have : x ≠ cm := fun z => by
    subst z
    have := h.2 44 (by decide +kernel)
    exact absurd this (by decide)
  rw [if_neg this]
theorem plain_txt : ∀ {t : Tr}, WtT t → flatG ((toks t).map gapP) = cs (txt t)
  | .nm x, h => by
    show flatG [gapP x] = cs x
    rw [gap_w h]
    simp [flatG]
  | .c0 x, h => by
    show flatG [gapP x] = cs x
    rw [gap_w h]
    simp [flatG]
  | .c1 s t, h => by
    have ih := plain_txt h.2
    have e1 : flatG [gapP s] = cs s := by rw [gap_w h.1]; simp [flatG]
    have e2 : flatG [gapP lp] = cs (PySem.Str.ofString "(") := by decide +kernel
    have e3 : flatG [gapP rp] = cs (PySem.Str.ofString ")") := by decide +kernel
    show flatG (([s] ++ ([lp] ++ (toks t ++ [rp]))).map gapP) = cs (around s (Txt.join (PySem.Str.ofString ", ") [txt t]))
    rw [List.map_append, List.map_append, List.map_append, flatG_app, flatG_app, flatG_app, ih]
    show flatG [gapP s] ++ (flatG [gapP lp] ++ (cs (txt t) ++ flatG [gapP rp])) = _
    rw [e1, e2, e3]
    unfold around
    rw [cs_app, cs_app, cs_app, cs_app]
    have e0 : cs Str.empty = [] := by decide +kernel
    rw [e0]
    show cs s ++ (_ ++ (cs (txt t) ++ _)) = ((([] ++ cs s) ++ _) ++ cs (txt t)) ++ _
    simp
  | .c2 s t u, h => by
    have ih := plain_txt h.2.1
    have ih2 := plain_txt h.2.2
    have e1 : flatG [gapP s] = cs s := by rw [gap_w h.1]; simp [flatG]
    have e2 : flatG [gapP lp] = cs (PySem.Str.ofString "(") := by decide +kernel
    have e3 : flatG [gapP rp] = cs (PySem.Str.ofString ")") := by decide +kernel
    have e4 : flatG [gapP cm] = cs (PySem.Str.ofString ", ") := by decide +kernel
    show flatG (([s] ++ ([lp] ++ (toks t ++ ([cm] ++ (toks u ++ [rp]))))).map gapP) = cs (around s (Txt.join (PySem.Str.ofString ", ") [txt t, txt u]))
    rw [List.map_append, List.map_append, List.map_append, List.map_append, List.map_append, flatG_app, flatG_app, flatG_app, flatG_app, flatG_app, ih, ih2]
    show flatG [gapP s] ++ (flatG [gapP lp] ++ (cs (txt t) ++ (flatG [gapP cm] ++ (cs (txt u) ++ flatG [gapP rp])))) = _
    rw [e1, e2, e3, e4]
    unfold around
    have e5 : cs (Txt.join (PySem.Str.ofString ", ") [txt t, txt u]) = cs (txt t) ++ (cs (PySem.Str.ofString ", ") ++ cs (txt u)) := by
      show cs (txt t ++ PySem.Str.ofString ", " ++ txt u) = _
      rw [cs_app, cs_app, List.append_assoc]
    rw [cs_app, cs_app, cs_app, cs_app, e5]
    have e0 : cs Str.empty = [] := by decide +kernel
    rw [e0]
    simp
/-! ### terms as data that is shown -/
theorem trD_sh : ∀ {t : Tr}, (∀ k ∈ pre t, (cs k.sym).length ≤ 8 ∧ ∀ c ∈ cs k.sym, lowC c = true) → Sh t.dep (12 * t.size) (trD t)
  | .nm x, h => by
    obtain ⟨h1, h2⟩ := h (.nm x) (List.mem_cons_self ..)
    exact (Sh.str (x := x) (B := 8) (fun c hc => by have := h2 c hc; unfold lowC at this; rw [Bool.and_eq_true, decide_eq_true_iff, decide_eq_true_iff] at this; have h8 : (16 : Nat) ^ 8 = 4294967296 := (by decide); omega) h1).mono (Nat.zero_le _) (by show 8 ≤ 12 * 1; omega)
  | .c0 x, h => by
    obtain ⟨h1, h2⟩ := h (.c0 x) (List.mem_cons_self ..)
    have hs := Sh.str (x := x) (B := 8) (fun c hc => by have := h2 c hc; unfold lowC at this; rw [Bool.and_eq_true, decide_eq_true_iff, decide_eq_true_iff] at this; have h8 : (16 : Nat) ^ 8 = 4294967296 := (by decide); omega) h1
    have := Sh.tup (D := 0) (B := 8) (ds := [.str x]) fun d hd => by rw [List.mem_singleton] at hd; rw [hd]; exact hs
    exact this.mono (Nat.le_refl 1) (by show 1 * 9 ≤ 12 * 1; omega)
  | .c1 s t, h => by
    obtain ⟨h1, h2⟩ := h (.c1 s t) (List.mem_cons_self ..)
    obtain ⟨a1, a2, a3, a4⟩ := Sh.str (x := s) (B := 8) (fun c hc => by have := h2 c hc; unfold lowC at this; rw [Bool.and_eq_true, decide_eq_true_iff, decide_eq_true_iff] at this; have h8 : (16 : Nat) ^ 8 = 4294967296 := (by decide); omega) h1
    obtain ⟨b1, b2, b3, b4⟩ := trD_sh (t := t) fun k hk => h k (show k ∈ Tr.c1 s t :: pre t from List.mem_cons_of_mem _ hk)
    show Sh (1 + t.dep) (12 * (1 + t.size)) (.tuple [.str s, trD t])
    refine ⟨by simp [PyData.showable, PyData.showableAll, b1], ?_, ?_, ?_⟩
    · rw [PyData.leavesShort, PyData.leavesShortAll, a2, PyData.leavesShortAll, b2]; rfl
    · rw [PyData.depth, PyData.depthAll, PyData.depthAll, PyData.depthAll]; omega
    · rw [PyData.bulk, PyData.bulkAll, PyData.bulkAll, PyData.bulkAll]; omega
  | .c2 s t u, h => by
    obtain ⟨h1, h2⟩ := h (.c2 s t u) (List.mem_cons_self ..)
    obtain ⟨a1, a2, a3, a4⟩ := Sh.str (x := s) (B := 8) (fun c hc => by have := h2 c hc; unfold lowC at this; rw [Bool.and_eq_true, decide_eq_true_iff, decide_eq_true_iff] at this; have h8 : (16 : Nat) ^ 8 = 4294967296 := (by decide); omega) h1
    obtain ⟨b1, b2, b3, b4⟩ := trD_sh (t := t) fun k hk => h k (show k ∈ Tr.c2 s t u :: (pre t ++ pre u) from List.mem_cons_of_mem _ (List.mem_append_left _ hk))
    obtain ⟨c1, c2, c3, c4⟩ := trD_sh (t := u) fun k hk => h k (show k ∈ Tr.c2 s t u :: (pre t ++ pre u) from List.mem_cons_of_mem _ (List.mem_append_right _ hk))
    show Sh (1 + max t.dep u.dep) (12 * (1 + t.size + u.size)) (.tuple [.str s, trD t, trD u])
    refine ⟨by simp [PyData.showable, PyData.showableAll, b1, c1], ?_, ?_, ?_⟩
    · rw [PyData.leavesShort, PyData.leavesShortAll, a2, PyData.leavesShortAll, b2, PyData.leavesShortAll, c2]; rfl
    · rw [PyData.depth, PyData.depthAll, PyData.depthAll, PyData.depthAll, PyData.depthAll]; omega
    · rw [PyData.bulk, PyData.bulkAll, PyData.bulkAll, PyData.bulkAll, PyData.bulkAll]; omega
theorem sh_list1 {D B : Nat} {d : PyData} (h : Sh D B d) : Sh (D + 1) (B + 1) (.list [d]) := by
  obtain ⟨a1, a2, a3, a4⟩ := h
  refine ⟨by simp [PyData.showable, PyData.showableAll, a1], ?_, ?_, ?_⟩
  · rw [PyData.leavesShort, PyData.leavesShortAll, a2]; rfl
  · rw [PyData.depth, PyData.depthAll, PyData.depthAll]; omega
  · rw [PyData.bulk, PyData.bulkAll, PyData.bulkAll]; omega
theorem trD_nod : ∀ t : Tr, PyData.hasDict (trD t) = false
  | .nm _ => by rw [trD, PyData.hasDict]
  | .c0 s => by simp [trD, PyData.hasDict, PyData.hasDictAll]
  | .c1 s t => by simp [trD, PyData.hasDict, PyData.hasDictAll, trD_nod t]
  | .c2 s t u => by simp [trD, PyData.hasDict, PyData.hasDictAll, trD_nod t, trD_nod u]
end Pg

set_option Elab.async false
set_option linter.all false
set_option maxRecDepth 100000
set_option maxHeartbeats 4000000
namespace Pg
open PySem PySem.Spec PyProof.Rows L2 LamX
/-! ### so many spaces -/
abbrev spc : Str := " "
def rSpc : R2 := fun x y H Q => ∃ k : Nat, x = .str spc ∧ y = .int (k : Nat) ∧ k ≤ 10000 ∧ ∀ z : Str, cs z = List.replicate k 32 → Q (.str z) H
section
variable {X : Cx}
theorem op_spc : OpR X (binaryOp .Mult) rSpc := by
  intro pins s σ H x y v u Q I rx ry ⟨k, ex, ey, hk, q⟩
  subst ex ey
  obtain ⟨t, rfl⟩ := rx
  obtain ⟨t', rfl⟩ := ry
  have hc : spc.cps = #[32] := by decide +kernel
  have hl1 : spc.length = 1 := by decide +kernel
  have hz : k ≤ sizeLine := Nat.le_of_lt (smallN (by omega))
  refine P.mul_str ?_ (fun _ _ => ?_) (fun _ _ => ?_) ?_
  · rw [decide_eq_false (by omega), decide_eq_false (by omega)]; rfl
  · rw [hl1]
    have h1 : 1 ≤ (2 ^ 63 - 1) / (k : Int) := (Int.le_ediv_iff_mul_le (by omega)).mpr (by omega)
    omega
  · rw [hl1, Nat.one_mul]
    exact decide_eq_false (Nat.not_lt.mpr hz)
  · split
    · rename_i h
      have e0 : k = 0 := by omega
      subst e0
      exact ⟨by decide, ⟨.str Str.empty, H, I.tok _, ⟨_, rfl⟩, q _ rfl⟩⟩
    · split
      · rename_i h1 h
        have e1 : k = 1 := by
          rw [hl1] at h
          simp at h
          omega
        subst e1
        exact ⟨.str spc, H, I, ⟨_, rfl⟩, q _ (by show spc.cps.toList = _; rw [hc]; rfl)⟩
      · rw [hc]
        have e32 : ∀ m : Nat, ((List.replicate m #[(32 : Nat)]).foldl (· ++ ·) #[]) = (List.replicate m 32).toArray := fun m => by
          induction m with
          | zero => rfl
          | succ m ih =>
            rw [List.replicate_succ', List.foldl_append, ih, List.replicate_succ']
            show (List.replicate m 32).toArray ++ #[32] = _
            rw [← List.append_toArray]
        have ek : ((k : Nat) : Int).toNat = k := by omega
        rw [ek, e32]
        refine ⟨?_, ⟨.str _, H, I.tok _, ⟨_, rfl⟩, q _ ?_⟩⟩
        · simp [Str.length]
          omega
        · simp [cs]
end
end Pg

set_option Elab.async false
set_option linter.all false
set_option maxRecDepth 100000
set_option maxHeartbeats 4000000
/-! how many different texts a list of texts has, by a set of it -/
namespace Pg
open PySem PySem.Spec PyProof.Rows L2
/-- how many different ones -/
def dcR : List Str → Nat
  | [] => 0
  | x :: r => if x ∈ r then dcR r else dcR r + 1
theorem dcR_le : ∀ l : List Str, dcR l ≤ l.length
  | [] => Nat.le_refl _
  | x :: r => by
    have := dcR_le r
    unfold dcR
    rw [List.length_cons]
    split <;> omega
theorem dcR_nd : ∀ l : List Str, dcR l = l.length ↔ l.Nodup
  | [] => ⟨fun _ => List.nodup_nil, fun _ => rfl⟩
  | x :: r => by
    have h1 := dcR_le r
    have h2 := dcR_nd r
    rw [List.nodup_cons, List.length_cons]
    unfold dcR
    by_cases e : x ∈ r
    · rw [if_pos e]
      exact ⟨fun z => by omega, fun z => absurd e z.1⟩
    · rw [if_neg e]
      exact ⟨fun z => ⟨e, h2.mp (by omega)⟩, fun z => by rw [h2.mpr z.2]⟩
def dcnt (l : List Str) : Nat := dcR l.reverse
theorem dcnt_le (l : List Str) : dcnt l ≤ l.length := by
  have := dcR_le l.reverse
  rw [List.length_reverse] at this
  exact this
theorem nd_rev : ∀ {l : List Str}, l.Nodup → l.reverse.Nodup
  | [], h => h
  | x :: r, h => by
    rw [List.nodup_cons] at h
    rw [List.reverse_cons, List.nodup_append]
    refine ⟨nd_rev h.2, List.nodup_cons.mpr ⟨List.not_mem_nil, List.nodup_nil⟩, fun y hy z hz e => ?_⟩
    rw [List.mem_singleton] at hz
    rw [e, hz] at hy
    exact h.1 (List.mem_reverse.mp hy)
theorem dcnt_nd {l : List Str} : dcnt l = l.length ↔ l.Nodup := by
  have h := dcR_nd l.reverse
  rw [List.length_reverse] at h
  exact h.trans ⟨fun z => by rw [← List.reverse_reverse l]; exact nd_rev z, nd_rev⟩
theorem dcnt_snoc (l : List Str) (x : Str) : dcnt (l ++ [x]) = if x ∈ l then dcnt l else dcnt l + 1 := by
  unfold dcnt
  rw [List.reverse_append]
  show (if x ∈ l.reverse then dcR l.reverse else dcR l.reverse + 1) = _
  by_cases h : x ∈ l
  · rw [if_pos h, if_pos (List.mem_reverse.mpr h)]
  · rw [if_neg h, if_neg fun z => h (List.mem_reverse.mp z)]
section
variable {prog : Program} {w : World} {A : Around} {R : Result → Shared → Prop} {I S : Addr} {fp wr : List Addr} {G : Array GenState → Array GenState → Prop} {n : Nat} {Pv : Nat → Value → Prop} {St : Nat → Shared → Prop} {xs : List Str}
abbrev SetX (prog : Program) (w : World) (h : Heap) (S : Addr) (l : List Str) : Prop := h.SetOf (strKind prog w) S (fun k => decide (k ∈ l)) (dcnt l)
theorem setX_at {h h' : Heap} {l : List Str} (e : SetX prog w h S l) (k : ∀ o, h.get? S = some o → h'.get? S = some o) : SetX prog w h' S l := by
  obtain ⟨o, es, ep, t, ho, r⟩ := e
  exact ⟨o, es, ep, t, k o ho, r⟩
theorem setX_snoc {h : Heap} {l : List Str} {x : Str} (e : h.SetOf (strKind prog w) S (fun k => decide (k ∈ l) || decide (k = x)) (if decide (x ∈ l) = true then dcnt l else dcnt l + 1)) : SetX prog w h S (l ++ [x]) := by
  unfold SetX
  have h1 : (if decide (x ∈ l) = true then dcnt l else dcnt l + 1) = dcnt (l ++ [x]) := by
    rw [dcnt_snoc]
    by_cases m : x ∈ l
    · rw [if_pos (decide_eq_true m), if_pos m]
    · rw [if_neg (by rw [decide_eq_true_iff]; exact m), if_neg m]
  rw [h1] at e
  exact SetOf_congr e (fun k => by rw [Bool.eq_iff_iff]; simp) rfl
/-- the loop of set's making, from the i-th on -/
theorem set_texts (W : WalksS prog w A.in1 I fp wr G n Pv St) (out : S ∉ fp) (hn : xs.length = n) (room : n + 1 < scanBound) (val : ∀ i v, Pv i v → ∃ x t, xs[i]? = some x ∧ v = .str x t) :
    ∀ (left i : Nat) (s : Shared), i + left = n → St i s → SetX prog w s.heap S (xs.take i) → (∀ s', Moved (S :: wr) G s s' → SetX prog w s'.heap S xs → R (.ok (.ret .none)) s') →
      codeAny (model prog w) A (.builtin "set.update.loop" ⟨[.ref S, .ref I], []⟩) R s := by
  have inS : S ∉ wr := fun h => out (W.sub _ h)
  intro left
  induction left with
  | zero =>
    intro i s hi st sx q
    obtain rfl : i = n := hi
    refine codeAny_builtin F.entry_set_update_loop ?_
    rw [Around.under_plainId F.plain_set_update_loop _]
    show wpAny _ A.in1 (pyNext (.ref I) >>= _) _ _ s
    refine wpAny_bind (W.done s _ _ st fun s' mv => ?_)
    show wpAny _ A.in1 (ret Value.none) _ _ s'
    rw [List.take_of_length_le (Nat.le_of_eq hn)] at sx
    exact wpAny_pure (q s' (mv.mono fun b hb => List.mem_cons_of_mem _ hb) (setX_at sx fun o e => mv.heap S o inS e))
  | succ left ih =>
    intro i s hi st sx q
    refine codeAny_builtin F.entry_set_update_loop ?_
    rw [Around.under_plainId F.plain_set_update_loop _]
    show wpAny _ A.in1 (pyNext (.ref I) >>= _) _ _ s
    refine wpAny_bind (W.item i s _ _ (by omega) st fun v s' hv st' mv => ?_)
    obtain ⟨x, t, hx, rfl⟩ := val i v hv
    have sx' := setX_at sx fun o e => mv.heap S o inS e
    show wpAny _ A.in1 (holding [Value.str x t] (setAdd S (.str x t)) >>= _) _ _ s'
    refine wpAny_bind (wpAny_holding ?_)
    unfold setAdd
    refine wpAny_holding (wpAny_bind ((strKind prog w).pyHash (k := x) (strKind_is _ _ _ _) ?_))
    have small : dcnt (xs.take i) ≤ n := Nat.le_trans (dcnt_le _) (by rw [List.length_take, hn]; exact Nat.min_le_right _ _)
    refine wpAny_setAddHashed_of (knd := strKind prog w) (s := { s' with toks := s'.toks + 1 }) (strKind_is _ _ _ _) rfl sx' (by omega) fun h' but new => ?_
    have sx2 : SetX prog w h' S (xs.take (i + 1)) := by
      rw [take_snoc hx]
      exact setX_snoc new
    have keep : ∀ b o, b ≠ S → s'.heap.get? b = some o → h'.get? b = some o := fun b o nb e => (but.2 b nb).trans e
    refine wpAny_pure ⟨plainId_quiet F.plain_set_update_loop _, ih (i + 1) _ (by omega) (W.frame _ s' _ _ st' (Nat.le_succ _) fun b hb o e => keep b o (fun z => out (by rw [← z]; exact hb)) e) sx2 fun s2 mv2 fin => q s2 ?_ fin⟩
    exact Moved.trans W.gtrans ((mv.mono fun b hb => List.mem_cons_of_mem _ hb).then_heap (Nat.le_succ _) fun b o hb e => keep b o (fun z => hb (by rw [z]; exact List.mem_cons_self)) e) mv2
end
end Pg
namespace Pg
open PySem PySem.Spec PyProof.Rows L2
section
variable {prog : Program} {w : World} {A : Around} {E : Value → Shared → Prop} {s : Shared} {l : Addr} {items : Array Value} {xs : List Str}
abbrev newSet (led : Bool) : Obj := { cls := .type "set", dict := none, data := .set #[] 0 (.fresh 0 0 led) }
theorem texts_val (hi : StrsAre items.toList xs) (i : Nat) (v : Value) (h : items[i]? = some v) : ∃ x t, xs[i]? = some x ∧ v = .str x t := by
  have go : ∀ {us : List Value} {ys : List Str}, StrsAre us ys → ∀ (i : Nat) (v : Value), us[i]? = some v → ∃ x t, ys[i]? = some x ∧ v = .str x t := by
    intro us ys h
    induction h with
    | nil => intro i v e; simp at e
    | cons y t _ ih =>
      intro i v e
      cases i with
      | zero => exact ⟨y, t, rfl, by simpa using e.symm⟩
      | succ i => exact ih i v (by simpa using e)
  exact go hi i v (by rw [Array.getElem?_toList]; exact h)
/-- the shared state after set's making -/
abbrev withSet (led : Bool) (s : Shared) : Shared := { s with heap := s.heap.push (newSet led) }
theorem withSet_get {led : Bool} : (withSet led s).heap.get? s.heap.objs.size = some (newSet led) := Heap.get?_push_size _ rfl
/-- what set's __init__ does with a list of texts -/
theorem init_texts {led : Bool} {R : Result → Shared → Prop} (calm : A.handled = none) (hl : s.heap.IsList l items) (hi : StrsAre items.toList xs) (room : xs.length + 1 < scanBound)
    (q : ∀ (h' : Heap) (tk : Nat), SetX prog w h' s.heap.objs.size xs → (∀ b o, b < s.heap.objs.size → s.heap.get? b = some o → h'.get? b = some o) → R (.ok (.ret .none)) { s with heap := h', toks := tk }) (stop : ∀ (e : Value) (s2 : Shared), E e s2 → R (.error e) s2) :
    codeAny (model prog w) A (.call (.builtin "set.__init__") ⟨[.ref s.heap.objs.size, .ref l], []⟩) R (withSet led s) := by
  have hT : Shared.TypeIs (withSet led s) (.ref s.heap.objs.size) "set" := ⟨_, withSet_get, rfl⟩
  refine codeAny_mono (codeAny_call_builtin (R := wants (fun r s₂ => r = .none ∧ ∃ h' tk, s₂ = { s with heap := h', toks := tk } ∧ SetX prog w h' s.heap.objs.size xs ∧ (∀ b o, b < s.heap.objs.size → s.heap.get? b = some o → h'.get? b = some o)) E) PySem.F.called_set.init.plain PySem.F.entry_set_init (check_set_init_1 hT ?_)) fun r s2 h => ?_
  · obtain ⟨ol, hol, hcl, nl, hdl⟩ := hl
    obtain ⟨ocls, odict, odata, oslots⟩ := ol
    simp only at hcl hdl
    subst hcl hdl
    have hol1 : (withSet led s).heap.get? l = some { cls := .type "list", dict := odict, data := .seq items nl, slots := oslots } := Heap.get?_push_of_some _ hol
    have hl1 : (withSet led s).heap.IsList l items := ⟨_, hol1, rfl, nl, rfl⟩
    have c1 := PySem.F.sub_list_set
    have c2 := PySem.F.sub_list_frozenset
    have c3 : (Value.type "list" == Value.type "dict") = false := by decide
    have small : l < s.heap.objs.size := Heap.lt_size hol
    have size1 : (withSet led s).heap.objs.size = s.heap.objs.size + 1 := Heap.size_push ..
    unfold Builtin.«set.__init__» noKeywords Builtin.Frozenset.updateFrom
    generalize hPI : pyIter = PI
    wp_walk
    subst hPI
    refine wpAny_pyIter_list hl1 (wpAny_bind (wpAny_runValue ?_))
    have calm3 : A.in1.in1.handled = none := by simp [calm]
    have apart : l ≠ (withSet led s).heap.objs.size := by rw [size1]; exact Nat.ne_of_lt (Nat.lt_succ_of_lt small)
    have hsz : xs.length = items.size := by rw [← StrsAre.len_eq hi, Array.length_toList]
    refine set_texts (xs := xs) ((Walks.list calm3 _ l apart items).toS) (fun h => ?_) hsz (by omega) (texts_val hi) (items.size - 0) 0 _ (by omega) ?_ ?_ fun s' mv fin => ?_
    · simp only [List.mem_cons, List.not_mem_nil, or_false] at h
      rcases h with h | h
      · rw [size1] at h
        exact absurd h (Nat.ne_of_lt (Nat.lt_succ_self _))
      · exact absurd h (Nat.ne_of_gt small)
    · exact ⟨⟨_, Heap.get?_push_size _ rfl, rfl, rfl⟩, hl1.push _⟩
    · have at2 : ((withSet led s).heap.push { cls := Value.type "list_iterator", data := Data.fields #[Value.ref l, Value.int 0 0] }).get? s.heap.objs.size = some (newSet led) := Heap.get?_push_of_some _ withSet_get
      exact SetOf_congr ((setObjOf_fresh (knd := strKind prog w) led).setOf at2 (by unfold scanBound; omega)) (fun k => by simp) rfl
    · obtain ⟨h', g', d', tk', os'⟩ := s'
      obtain rfl : g' = s.gens := mv.gens
      obtain rfl : d' = s.drawn := mv.drawn
      obtain rfl : os' = s.os := mv.os
      refine wpAny_pure ?_
      show wpAny _ _ (ret Value.none) _ _ _
      refine wpAny_pure ⟨rfl, h', tk', rfl, fin, fun b o hb e => mv.heap b o ?_ (Heap.get?_push_of_some _ (Heap.get?_push_of_some _ e))⟩
      simp only [List.mem_cons, List.not_mem_nil, or_false, not_or]
      exact ⟨Nat.ne_of_lt hb, by rw [size1]; exact Nat.ne_of_lt (Nat.lt_succ_of_lt hb)⟩
  · cases r with
    | error e => exact stop e s2 h
    | ok fl =>
      cases fl with
      | ret v =>
        obtain ⟨rfl, h', tk, rfl, h1, h2⟩ := h
        exact q h' tk h1 h2
      | _ => exact h.elim
end
end Pg
namespace Pg
open PySem PySem.Spec PyProof.Rows L2
section
variable {prog : Program} {w : World} {A : Around} {E : Value → Shared → Prop} {s : Shared} {l : Addr} {items : Array Value} {xs : List Str}
/-- set(texts) -/
theorem call_set_texts {Q : Value → Shared → Prop} (calm : A.handled = none) (hl : s.heap.IsList l items) (hi : StrsAre items.toList xs) (room : xs.length + 1 < scanBound)
    (q : ∀ (h' : Heap) (tk : Nat), SetX prog w h' s.heap.objs.size xs → (∀ b o, b < s.heap.objs.size → s.heap.get? b = some o → h'.get? b = some o) → Q (.ref s.heap.objs.size) { s with heap := h', toks := tk }) :
    wpAny (model prog w) A (call (.type "set") [.ref l]) Q E s := by
  obtain ⟨c, tl, e0⟩ := PySem.F.called_set.mro
  have e1 := PySem.F.called_set.made
  have e2 := PySem.F.called_set.sub
  have e3 := PySem.F.called_set.notType
  have e4 := PySem.F.called_set.canCreate
  have e5 := PySem.F.typeCall_set_1 (.ref l)
  refine wpAny_call (codeAny_of_tree ?_)
  show wpAny _ _ (callAny (.type "set") _) _ _ _
  refine wpAny_pure ⟨Code.quiet_builtin _ (by decide +kernel), codeAny_builtin PySem.F.entry_type_call ?_⟩
  rw [Around.under_plain (weight_type_call_type "set" [.ref l] []) rfl]
  repeat (any_goals (first | assumption | wp_step))
  refine codeAny_mono (code_set_new_1 (.ref l) (E := E) (Q₁ := fun v s1 => ∃ led, v = .ref s.heap.objs.size ∧ s1 = withSet led s) fun led => ⟨led, rfl, rfl⟩) fun r s1 h => ?_
  cases r with
  | error e => exact h
  | ok fl =>
    cases fl with
    | ret v =>
      obtain ⟨led, rfl, rfl⟩ := h
      have hT : Shared.TypeIs (withSet led s) (.ref s.heap.objs.size) "set" := ⟨_, withSet_get, rfl⟩
      have i1 := PySem.F.called_set.init.lookup
      have i2 := PySem.F.called_set.init.bind (.ref s.heap.objs.size)
      repeat (any_goals (first | assumption | wp_step))
      refine init_texts (E := E) (by simpa using calm) hl hi room (fun h' tk h1 h2 => ?_) fun e s2 h => ?_
      · repeat (any_goals (first | assumption | wp_step))
        exact q _ _ h1 h2
      · exact h
    | _ => exact h.elim
end
section
variable {X : Cx}
/-- set(texts): the new set at p, as an object of its own -/
def SetXO (P : Program) (w : World) (a : Addr) (l : List Str) : HO := .ext fun h => SetX P w h a l
/-- len(set(texts)) -/
def tLenSetN (K : PySem.W.Frag) (ta : TE) : TE := fun σ H Q => ta σ H fun x H1 => ∃ (p : Addr) (xs : List Str), x = .ref p ∧ SqL K H1 p (xs.map V.str) ∧ xs.length ≤ 1000 ∧ Q (.int (dcnt xs : Nat)) H1
theorem pe_lenSetN {a : Expr} {ta : TE} {p p2 q pos : Pos} (hc : X.calm = true) (hg : Gl X "len") (hm : X.mg "len" = none) (hg2 : Gl X "set") (hm2 : X.mg "set" = none) (ha : PE X a ta)
    (na : starEach [a] X.env = (false, eval a X.env) :: starEach [] X.env := by rfl) : PE X (.Call (.Name "len" p) [.Call (.Name "set" p2) [a] [] q] [] pos) (tLenSetN X.K ta) := by
  refine ⟨fun pins s σ H Q I h => ?_⟩
  refine Call_ (ld_blt I hg hm boot_len (PyProof.Rows.callWith_builtin1 (PyProof.Rows.args_cons ?_ rfl) rfl rfl))
  refine Call_ (ld_blt I hg2 hm2 boot_set (PyProof.Rows.callWith_type1 (PyProof.Rows.args_cons (thn (ha.run pins s σ H _ I h) fun v s1 ⟨x, H1, I1, r1, q1⟩ => PyProof.Rows.args_nil ?_) na) na rfl))
  obtain ⟨p, xs, rfl, hq, hl, q1⟩ := q1
  cases r1
  obtain ⟨its, r, pl, hz⟩ := I1.list hq
  refine call_set_texts (I1.ok.hd hc) pl.isList (by simpa using strsAre_of r) (by unfold scanBound; omega) fun h' tk hS hk => ?_
  refine PyProof.Rows.args_nil ?_
  obtain ⟨o, es, ep, t, ho, hex, hd, _, _, _, hf, hn⟩ := hS
  have I2 : Inv X pins σ H1 { s1 with heap := h', toks := tk } := I1.kept fun b o e => hk b o (Heap.lt_size e) e
  have hle := dcnt_le xs
  exact call_len_set ho hex hd hf (by rw [hn]; omega) ⟨.int (dcnt xs : Nat), H1, I2.tok _, ⟨_, by rw [hn]⟩, q1⟩
end
end Pg

set_option Elab.async false
set_option linter.all false
set_option maxRecDepth 100000
set_option maxHeartbeats 4000000
namespace Pg
open PySem PySem.Spec PyProof.Rows L2
/-! ### nests that are terms -/
def nodB (sg : Sg) : PyData → Bool
  | .str x => isW x && decide (numB sg x = -1)
  | .tuple (.str s :: ks) => decide (numB sg s = (ks.length : Nat))
  | _ => false
def shortD (d : PyData) : Prop := ∀ k ∈ preD d, ∀ x, k = .str x → x.length ≤ 100000
def spDif (K : PySem.W.Frag) : Sp := fun vs H Q _ => ∃ (p : Addr) (xs : List Str), vs = [.ref p] ∧ SqL K H p (xs.map V.str) ∧ xs.length ≤ 1000 ∧ (∀ x ∈ xs, x.length ≤ 100000) ∧ ∀ H', Same H H' → Q (.bl (decide xs.Nodup && xs.all isW)) H'
def spNod (K : PySem.W.Frag) : Sp := fun vs H Q _ => ∃ (g : Addr) (sg : Sg) (v : V) (d : PyData), vs = [.ref g, v] ∧ SgAt K H g sg ∧ sg.length ≤ 1000 ∧ Dp K H v d ∧ nest d = true ∧ (preD d).length ≤ 100000 ∧ (∀ x, d = .str x → x.length ≤ 100000) ∧ (∀ ks, d = .tuple ks → ks.length ≤ 100000) ∧ ∀ H', Same H H' → Q (.bl (nodB sg d)) H'
def spItm (K : PySem.W.Frag) : Sp := fun vs H Q _ => ∃ (g : Addr) (sg : Sg) (v : V) (d : PyData), vs = [.ref g, v] ∧ SgAt K H g sg ∧ sg.length ≤ 1000 ∧ Dp K H v d ∧ nest d = true ∧ (preD d).length ≤ 20000 ∧ shortD d ∧ ∀ H', Same H H' → Q (.bl ((preD d).all (nodB sg))) H'
def spItw (K : PySem.W.Frag) : Sp := fun vs H Q _ => ∃ (g : Addr) (sg : Sg) (v : V) (d : PyData) (m : Nat), vs = [.ref g, v, .int (m : Nat)] ∧ SgAt K H g sg ∧ sg.length ≤ 1000 ∧ Dp K H v d ∧ nest d = true ∧ (preD d).length ≤ 20000 ∧ shortD d ∧ ∀ H', Same H H' → Q (.bl (decide ((preD d).length ≤ m) && (preD d).all (nodB sg))) H'
end Pg
namespace Pg
open PySem PySem.Spec PyProof.Rows L2
theorem rd_pre {K : PySem.W.Frag} {tl : TE} {g : TG} {tt : TT} {te : TE} {own : List Nat} {σ : L2.St} {H : Hp} {Q : VK} (h : tl σ H fun x H1 => ∃ a, x = .ref a ∧ (∃ xs, SqL K H1 a xs) ∧ tLc (fun _ H' R => R (Itl K a) H') g tt te own σ H1 Q) : tLc (iList K tl) g tt te own σ H Q := h
/-- the length of a node's parts is bounded by the number of its nodes -/
theorem kids_len {ks : List PyData} : ks.length ≤ (preD (.tuple ks)).length := by
  rw [preD_tup, List.length_cons, flat_lenD]
  have := mul_len_le (ds := ks.drop 1)
  rw [List.length_drop] at this
  omega
mutual
theorem preD_sub : ∀ (d k : PyData), k ∈ preD d → (preD k).length ≤ (preD d).length
  | .tuple ds, k, h => by
    have h' : k = .tuple ds ∨ k ∈ preT ds := List.mem_cons.mp (show k ∈ PyData.tuple ds :: preT ds from h)
    rcases h' with e | e
    · rw [e]; exact Nat.le_refl _
    · have := preT_sub ds k e
      show _ ≤ (PyData.tuple ds :: preT ds).length
      rw [List.length_cons]
      omega
  | .str x, k, h => by rw [List.mem_singleton.mp (show k ∈ [PyData.str x] from h)]; exact Nat.le_refl _
  | .none, k, h => by rw [List.mem_singleton.mp (show k ∈ [PyData.none] from h)]; exact Nat.le_refl _
  | .bool b, k, h => by rw [List.mem_singleton.mp (show k ∈ [PyData.bool b] from h)]; exact Nat.le_refl _
  | .int b, k, h => by rw [List.mem_singleton.mp (show k ∈ [PyData.int b] from h)]; exact Nat.le_refl _
  | .list b, k, h => by rw [List.mem_singleton.mp (show k ∈ [PyData.list b] from h)]; exact Nat.le_refl _
  | .dict b, k, h => by rw [List.mem_singleton.mp (show k ∈ [PyData.dict b] from h)]; exact Nat.le_refl _
theorem preT_sub : ∀ (ds : List PyData) (k : PyData), k ∈ preT ds → (preD k).length ≤ (preT ds).length
  | [], k, h => absurd h List.not_mem_nil
  | d :: ds, k, h => preDs_sub ds k h
theorem preDs_sub : ∀ (ds : List PyData) (k : PyData), k ∈ preDs ds → (preD k).length ≤ (preDs ds).length
  | [], k, h => absurd h List.not_mem_nil
  | d :: ds, k, h => by
    have e : preDs (d :: ds) = preD d ++ preDs ds := rfl
    rw [e] at h ⊢
    rw [List.length_append]
    rcases List.mem_append.mp h with h | h
    · have := preD_sub d k h; omega
    · have := preDs_sub ds k h; omega
end
end Pg

set_option Elab.async false
set_option linter.all false
set_option maxRecDepth 100000
set_option maxHeartbeats 4000000
namespace Pg
open PySem PySem.Spec PyProof.Rows L2
/-- an error class of the program, that is raised -/
structure XCls (K : PySem.W.Frag) (mg : Str → Option Value) (x : Str) (N : Addr) : Prop where
  g : mg x = some (.ref N)
  x : PySem.W.excIn K N He.veBase "ValueError.__new__" = true
  k : PySem.W.keepIn K (.ref N) = true
  b : PySem.W.subIn K (.ref N) (.type "BaseException") = some true
  t : PySem.W.typeIn K (.ref N) = some (.type "type")
structure GCs (mg : Str → Option Value) : Prop where
  ms : ∃ u, mg "MAX_SIGNS" = some u ∧ RelV (.int 4) u
  ma : ∃ u, mg "MAX_ARITY" = some u ∧ RelV (.int 2) u
structure OkSg (sg : Sg) : Prop where
  l : 1 ≤ sg.length ∧ sg.length ≤ 4
  d : (sg.map (·.1)).Nodup
  w : ∀ s ∈ sg, isW s.1 = true
  a : ∀ s ∈ sg, 0 ≤ s.2 ∧ s.2 ≤ 2
  c : ∃ s ∈ sg, s.2 = 0
def spCsg (K : PySem.W.Frag) (N : Addr) : Sp := fun vs H Q E => ∃ (g : Addr) (sg : Sg), vs = [.ref g] ∧ SgAt K H g sg ∧ sg.length ≤ 1000 ∧ (∀ s ∈ sg, s.1.length ≤ 100000) ∧ (OkSg sg → ∀ H', Same H H' → Q .non H') ∧ (¬ OkSg sg → ∀ H', Same H H' → E (.ref N) none H')
end Pg
namespace Pg
open PySem PySem.Spec PyProof.Rows L2
theorem flat_ints (ts : List Int) : (ts.map V.int).all flatV = true := by
  induction ts with
  | nil => rfl
  | cons t ts ih => exact ih
theorem inV_ints (n : Int) (ts : List Int) : inV (.int n) (ts.map V.int) = decide (n ∈ ts) := by
  induction ts with
  | nil => rfl
  | cons t ts ih =>
    show ((t == n) || inV (.int n) (ts.map V.int)) = _
    rw [ih, Bool.eq_iff_iff, Bool.or_eq_true, decide_eq_true_iff, decide_eq_true_iff, beq_iff_eq, List.mem_cons]
    exact ⟨fun h => h.imp Eq.symm id, fun h => h.imp Eq.symm id⟩
end Pg

set_option Elab.async false
set_option linter.all false
set_option maxRecDepth 100000
set_option maxHeartbeats 4000000
namespace Pg
open PySem PySem.Spec PyProof.Rows L2 LamX
/-! ### the names of a term -/
def nmStep (acc : List Str) : Tr → List Str
  | .nm x => if x ∈ acc then acc else acc ++ [x]
  | _ => acc
def nmsT (t : Tr) : List Str := (pre t).foldl nmStep []
structure GTr (mg : Str → Option Value) : Prop where
  mt : ∃ u, mg "MAX_TREE" = some u ∧ RelV (.int 400) u
  md : ∃ u, mg "MAX_DEEP" = some u ∧ RelV (.int 100) u
def spNms (K : PySem.W.Frag) : Sp := fun vs H Q _ => ∃ (v : V) (t : Tr), vs = [v] ∧ TrAt K H t v ∧ t.size ≤ 10000 ∧ ∀ p H', H p = none → Same H H' → H' p = some (.lst ((nmsT t).map V.str)) → Q (.ref p) H'
def isTree (sg : Sg) (t : Tr) : Bool := (decide (t.size ≤ 400) && (preD (trD t)).all (nodB sg)) && (decide (t.dep ≤ 100) && (nmsT t).isEmpty)
/-- is_tree of what is a term or else no nest of nodes -/
def spItr (K : PySem.W.Frag) (P : Addr) (q : Str) : Sp := fun vs H Q _ => ∃ (g : Addr) (sg : Sg) (v : V) (d : PyData), vs = [.ref g, v] ∧ SgAt K H g sg ∧ sg.length ≤ 1000 ∧ Dp K H v d ∧ nest d = true ∧ (preD d).length ≤ 20000 ∧ shortD d ∧ TabS H P q ∧
  (((preD d).all (nodB sg) = false) ∨ ∃ t, d = trD t ∧ TrAt K H t v) ∧ ∀ H' b, ButP P H H' → TabS H' P q → (∀ t, d = trD t → b = isTree sg t) → ((preD d).all (nodB sg) = false → b = false) → Q (.bl b) H'
def nmD (l : List Str) : List (Key × V) := l.map fun x => (Sum.inr x, V.bl true)
theorem nmD_any {x : Str} {l : List Str} : ((nmD l).any fun kv => decide (kv.1 = Sum.inr x)) = decide (x ∈ l) := by
  rw [Bool.eq_iff_iff, List.any_eq_true, decide_eq_true_iff]
  constructor
  · rintro ⟨kv, h, e⟩
    obtain ⟨y, hy, rfl⟩ := List.mem_map.mp h
    have := Sum.inr.inj (of_decide_eq_true e)
    rw [← this]
    exact hy
  · intro h
    exact ⟨_, List.mem_map.mpr ⟨x, h, rfl⟩, decide_eq_true rfl⟩
theorem nmD_put {x : Str} {l : List Str} : putK (nmD l) (.inr x) (V.bl true) = nmD (nmStep l (.nm x)) := by
  show (if ((nmD l).any fun kv => decide (kv.1 = Sum.inr x)) = true then (nmD l).map fun kv => if kv.1 = Sum.inr x then (kv.1, V.bl true) else kv else nmD l ++ [(Sum.inr x, V.bl true)]) = _
  rw [nmD_any]
  show _ = nmD (if x ∈ l then l else l ++ [x])
  by_cases h : x ∈ l
  · rw [if_pos (decide_eq_true h), if_pos h]
    conv => rhs; rw [← List.map_id (nmD l)]
    refine List.map_congr_left fun kv hk => ?_
    obtain ⟨y, hy, rfl⟩ := List.mem_map.mp hk
    split <;> rfl
  · rw [if_neg (fun z => h (of_decide_eq_true z)), if_neg h]
    unfold nmD
    rw [List.map_append]
    rfl
theorem nmStep_len {acc : List Str} {t : Tr} : (nmStep acc t).length ≤ acc.length + 1 := by
  unfold nmStep
  split
  · split
    · omega
    · rw [List.length_append]; exact Nat.le_refl _
  · omega
end Pg
namespace Pg
open PySem PySem.Spec PyProof.Rows L2 LamX
theorem TK.frD {K : PySem.W.Frag} {H H' : Hp} {a : Addr} {kvs : List (Key × V)} (f : Fr a H H') (h : H a = some (.dK kvs)) : TK K H H' := by
  intro p ys q
  rcases q with (q | ⟨o, q⟩) | q
  · exact .inl (.inl (f _ _ (ne_of q h (by intro z; cases z)) q))
  · exact .inl (.inr ⟨o, f _ _ (ne_of q h (by intro z; cases z)) q⟩)
  · exact .inr q
end Pg
namespace Pg
open PySem PySem.Spec PyProof.Rows L2 LamX
theorem trD_inj : ∀ {t u : Tr}, trD t = trD u → t = u
  | .nm x, .nm y, h => by rw [show x = y from PyData.str.inj h]
  | .nm x, .c0 _, h => by cases h
  | .nm x, .c1 _ _, h => by cases h
  | .nm x, .c2 _ _ _, h => by cases h
  | .c0 _, .nm x, h => by cases h
  | .c0 s, .c0 s', h => by
    have h := PyData.tuple.inj h
    rw [PyData.str.inj (List.cons.inj h).1]
  | .c0 s, .c1 _ _, h => by cases PyData.tuple.inj h
  | .c0 s, .c2 _ _ _, h => by cases PyData.tuple.inj h
  | .c1 _ _, .nm x, h => by cases h
  | .c1 _ _, .c0 _, h => by cases PyData.tuple.inj h
  | .c1 s a, .c1 s' a', h => by
    have h := PyData.tuple.inj h
    have h1 := List.cons.inj h
    rw [PyData.str.inj h1.1, trD_inj (List.cons.inj h1.2).1]
  | .c1 _ _, .c2 _ _ _, h => by have := congrArg List.length (PyData.tuple.inj h); cases this
  | .c2 _ _ _, .nm x, h => by cases h
  | .c2 _ _ _, .c0 _, h => by cases PyData.tuple.inj h
  | .c2 _ _ _, .c1 _ _, h => by have := congrArg List.length (PyData.tuple.inj h); cases this
  | .c2 s a b, .c2 s' a' b', h => by
    have h := PyData.tuple.inj h
    have h1 := List.cons.inj h
    have h2 := List.cons.inj h1.2
    rw [PyData.str.inj h1.1, trD_inj h2.1, trD_inj (List.cons.inj h2.2).1]
end Pg

set_option Elab.async false
set_option linter.all false
set_option maxRecDepth 100000
set_option maxHeartbeats 4000000
namespace Pg
open PySem PySem.Spec PyProof.Rows L2 LamX
/-! ### terms filled -/
def Tr.sub (ρ : Str → Tr) : Tr → Tr
  | .nm x => ρ x
  | .c0 s => .c0 s
  | .c1 s t => .c1 s (t.sub ρ)
  | .c2 s t u => .c2 s (t.sub ρ) (u.sub ρ)
def FilX (K : PySem.W.Frag) (H : Hp) (kvs : List (Key × V)) (ρ : Str → Tr) (x : Str) : Prop := (valV kvs (.inr x) = none ∧ ρ x = .nm x) ∨ ∃ u, valV kvs (.inr x) = some u ∧ TrAt K H (ρ x) u
def spFil (K : PySem.W.Frag) (P : Addr) (q : Str) : Sp := fun vs H Q _ => ∃ (v : V) (fl : Addr) (t : Tr) (kvs : List (Key × V)) (ρ : Str → Tr), vs = [v, .ref fl] ∧ TrAt K H t v ∧ t.size ≤ 100000 ∧ H fl = some (.dK kvs) ∧ (∀ k ∈ pre t, ∀ x, k = .nm x → FilX K H kvs ρ x) ∧ TabS H P q ∧
  ∀ r H', ButP P H H' → TabS H' P q → TrAt K H' (t.sub ρ) r → Q r H'
theorem FilX.keep {K : PySem.W.Frag} {H H' : Hp} {kvs : List (Key × V)} {ρ : Str → Tr} {x : Str} (k : TK K H H') (h : FilX K H kvs ρ x) : FilX K H' kvs ρ x := by
  rcases h with h | ⟨u, h1, h2⟩
  · exact .inl h
  · exact .inr ⟨u, h1, TrAt.keep k h2⟩
theorem pre_kid : ∀ {t k k' : Tr}, k ∈ t.kids → k' ∈ pre k → k' ∈ pre t
  | .nm x, k, k', h, _ => absurd h List.not_mem_nil
  | .c0 x, k, k', h, _ => absurd h List.not_mem_nil
  | .c1 s t, k, k', h, h' => by
    have e : k = t := List.mem_singleton.mp h
    subst e
    exact List.mem_cons_of_mem _ h'
  | .c2 s t u, k, k', h, h' => by
    refine (List.mem_cons_of_mem _ ?_ : k' ∈ Tr.c2 s t u :: (pre t ++ pre u))
    rcases List.mem_cons.mp (show k ∈ [t, u] from h) with e | e
    · subst e
      exact List.mem_append_left _ h'
    · rw [List.mem_singleton.mp e] at h'
      exact List.mem_append_right _ h'
theorem Tr.size_kid2 {t k : Tr} (h : k ∈ t.kids) : k.size + 1 ≤ t.size := by
  cases t with
  | nm x => exact absurd h List.not_mem_nil
  | c0 x => exact absurd h List.not_mem_nil
  | c1 s t =>
    rw [List.mem_singleton.mp h]
    show t.size + 1 ≤ 1 + t.size
    omega
  | c2 s t u =>
    show k.size + 1 ≤ 1 + t.size + u.size
    rcases List.mem_cons.mp (show k ∈ [t, u] from h) with e | e
    · rw [e]; omega
    · rw [List.mem_singleton.mp e]; omega
end Pg

set_option Elab.async false
set_option linter.all false
set_option maxRecDepth 100000
set_option maxHeartbeats 4000000
namespace Pg
open PySem PySem.Spec PyProof.Rows L2
/-- [f(char) for char in text if b(char)] -/
theorem rd_strIf {σ : L2.St} {H : Hp} {Q : VK} {j : Nat} {tt : TT} {te : TE} {wi : TI} {x : Str} (f : Nat → V) (b : Nat → Bool) (hwi : ∀ R, R (Its x) H → wi σ H R) (hn : x.length ≤ 100000) (hw : ∀ x, wipe ((wipe σ [j]).set j (some x)) [j] = wipe σ [j])
    (htt : ∀ c H', c ∈ cs x → Same H H' → ∀ Q' : Bool → Hp → Prop, Q' (b c) H' → tt ((wipe σ [j]).set j (some (.str ⟨#[c]⟩))) H' Q')
    (ht : ∀ c H', c ∈ cs x → Same H H' → ∀ Q', (∀ H2, Same H' H2 → Q' (f c) H2) → te ((wipe σ [j]).set j (some (.str ⟨#[c]⟩))) H' Q')
    (h : ∀ D H', H D = none → Same H H' → H' D = some (.lst (((cs x).filter b).map f)) → Q (.ref D) H') : tLc wi (gName j) tt te [j] σ H Q := by
  have hsz : x.cps.size = (cs x).length := by simp [cs]
  have hxl : x.length = (cs x).length := cs_len x
  refine hwi _ (fun D nD => lc_it (walk_str (z := x)) (fun i H' => Same H H' ∧ H' D = some (.lst ((((cs x).take i).filter b).map f))) ⟨Same.new nD, upd_same⟩ (fun _ _ _ _ => True.intro) (fun i y H' H'' hi iv yv => ?_) (fun H' iv => ?_))
  · obtain ⟨rfl, c, hc, rfl⟩ := yv
    obtain ⟨sm, hd⟩ := iv
    have ec : (cs x)[i]? = some c := by rw [← hc]; simp [cs]
    refine ⟨hw _, htt c _ (List.mem_of_getElem? ec) sm _ (if_of (fun e1 => ?_) fun e1 => ?_)⟩
    · refine ht c _ (List.mem_of_getElem? ec) sm _ fun H2 s2 => ⟨_, s2 _ _ hd, ?_, Same.mut nD (sm.trans s2), ?_⟩
      · have := List.length_filter_le b ((cs x).take i)
        rw [List.length_take] at this
        rw [List.length_map]; exact smallN (by omega)
      · rw [upd_same, take_snoc ec, List.filter_append, List.map_append, List.filter_cons_of_pos e1]; rfl
    · refine ⟨sm, ?_⟩
      rw [take_snoc ec, List.filter_append, List.filter_cons_of_neg (by rw [e1]; decide), hd]
      simp
  · obtain ⟨sm, hd⟩ := iv
    rw [hsz, List.take_length] at hd
    exact h D H' nD sm hd
theorem filt_all {α : Type} {p : α → Bool} : ∀ {l : List α}, (l.filter p).length = l.length ↔ l.all p = true
  | [] => ⟨fun _ => rfl, fun _ => rfl⟩
  | a :: l => by
    have ih := filt_all (p := p) (l := l)
    have hle := List.length_filter_le p l
    rw [List.all_cons, Bool.and_eq_true, ← ih]
    cases e : p a with
    | true =>
      rw [List.filter_cons_of_pos e, List.length_cons, List.length_cons]
      exact ⟨fun z => ⟨rfl, by omega⟩, fun z => by rw [z.2]⟩
    | false =>
      rw [List.filter_cons_of_neg (by rw [e]; decide), List.length_cons]
      exact ⟨fun z => by omega, fun z => by cases z.1⟩
end Pg

set_option Elab.async false
set_option linter.all false
set_option maxRecDepth 100000
set_option maxHeartbeats 4000000
namespace Pg
open PySem PySem.Spec PyProof.Rows L2
/-! ### a dict of signs -/
def kvS (sg : Sg) : List (Key × V) := sg.map fun s => (Sum.inr s.1, V.int s.2)
theorem putK_app {l : List (Key × V)} {k : Key} {v : V} (h : ∀ q ∈ l, q.1 ≠ k) : putK l k v = l ++ [(k, v)] := by
  show (if (l.any fun kv => decide (kv.1 = k)) = true then l.map fun kv => if kv.1 = k then (kv.1, v) else kv else l ++ [(k, v)]) = _
  rw [if_neg]
  rw [List.any_eq_true]
  rintro ⟨q, hq, e⟩
  exact h q hq (of_decide_eq_true e)
theorem mergeK_nd : ∀ {sg : Sg} {acc : List (Key × V)}, (sg.map (·.1)).Nodup → (∀ q ∈ acc, ∀ s ∈ sg, q.1 ≠ Sum.inr s.1) → mergeK acc (kvS sg) = acc ++ kvS sg
  | [], acc, _, _ => by simp [kvS, mergeK]
  | s :: sg, acc, nd, h => by
    rw [List.map_cons, List.nodup_cons] at nd
    show mergeK (putK acc (Sum.inr s.1) (V.int s.2)) (kvS sg) = _
    rw [putK_app fun q hq => h q hq s (List.mem_cons_self ..), mergeK_nd nd.2 fun q hq r hr => ?_]
    · rw [List.append_assoc]; rfl
    · rcases List.mem_append.mp hq with e | e
      · exact h q e r (List.mem_cons_of_mem _ hr)
      · rw [List.mem_singleton] at e
        subst e
        intro z
        exact nd.1 (List.mem_map.mpr ⟨r, hr, (Sum.inr.inj z).symm⟩)
theorem valV_kvS {x : Str} : ∀ {sg : Sg}, valV (kvS sg) (.inr x) = if x ∈ sg.map (·.1) then some (.int (numB sg x)) else none
  | [] => rfl
  | s :: sg => by
    show valV ((Sum.inr s.1, V.int s.2) :: kvS sg) (.inr x) = _
    by_cases e : s.1 = x
    · rw [valV_pos (p := (Sum.inr s.1, V.int s.2)) (by rw [e]), if_pos (by rw [List.map_cons, e]; exact List.mem_cons_self ..), numB_cons, if_pos e]
    · rw [valV_neg (p := (Sum.inr s.1, V.int s.2)) (fun z => e (Sum.inr.inj z)), valV_kvS (sg := sg), numB_cons, if_neg e]
      by_cases m : x ∈ sg.map (·.1)
      · rw [if_pos m, if_pos (by rw [List.map_cons]; exact List.mem_cons_of_mem _ m)]
      · rw [if_neg m, if_neg]
        rw [List.map_cons, List.mem_cons, not_or]
        exact ⟨fun z => e z.symm, m⟩
theorem kvS_get {x : Str} {sg : Sg} : (valV (kvS sg) (.inr x)).getD (.int (-1)) = .int (numB sg x) := by
  rw [valV_kvS]
  by_cases m : x ∈ sg.map (·.1)
  · rw [if_pos m]; rfl
  · rw [if_neg m]
    have : numB sg x = -1 := numB_not m
    rw [this]
    rfl
theorem numB_pos {x : Str} : ∀ {sg : Sg}, (∀ s ∈ sg, 0 ≤ s.2) → x ∈ sg.map (·.1) → 0 ≤ numB sg x
  | [], _, m => absurd m List.not_mem_nil
  | s :: sg, h, m => by
    rw [numB_cons]
    split
    · exact h s (List.mem_cons_self ..)
    · rename_i e
      refine numB_pos (fun r hr => h r (List.mem_cons_of_mem _ hr)) ?_
      rw [List.map_cons] at m
      rcases List.mem_cons.mp m with z | z
      · exact absurd z.symm e
      · exact z
theorem kvS_in {x : Str} {sg : Sg} (h : ∀ s ∈ sg, 0 ≤ s.2) : (!(valV (kvS sg) (.inr x)).isSome) = decide (numB sg x = -1) := by
  have hg := kvS_get (x := x) (sg := sg)
  rw [valV_kvS] at hg ⊢
  by_cases m : x ∈ sg.map (·.1)
  · rw [if_pos m]
    have := numB_pos h m
    rw [decide_eq_false (by omega)]
    rfl
  · rw [if_neg m] at hg ⊢
    have e : numB sg x = -1 := (V.int.inj hg).symm
    rw [decide_eq_true e]
    rfl
end Pg
namespace Pg
open PySem PySem.Spec PyProof.Rows L2
/-- [f(x, y) for x, y in pairs], each result told by a relation -/
theorem rd_prsR {K : PySem.W.Frag} {σ : L2.St} {H : Hp} {Q : VK} {p : Addr} {sg : Sg} {j1 j2 : Nat} {te : TE} {i : Nat} (R : Hp → V → Str × Int → Prop) (mono : ∀ H H' v s, TK K H H' → R H v s → R H' v s) (hi : σ[i]? = some (some (.ref p))) (hS : SgAt K H p sg) (h4 : sg.length ≤ 1000) (hw : ∀ x y, wipe (((wipe σ [j1, j2]).set j1 (some x)).set j2 (some y)) [j1, j2] = wipe σ [j1, j2])
    (ht : ∀ s H', s ∈ sg → Same H H' → ∀ Q', (∀ v H2, Same H' H2 → R H2 v s → Q' v H2) → te (((wipe σ [j1, j2]).set j1 (some (.str s.1))).set j2 (some (.int s.2))) H' Q')
    (h : ∀ D H' ws, H D = none → Same H H' → H' D = some (.lst ws) → Paired (R H') ws sg → Q (.ref D) H') :
    tLc (iTup K (tVar i)) (gTup K 2 (gCons (gName j1) (gCons (gName j2) gNil))) tYes te [j1, j2] σ H Q := by
  obtain ⟨rs, hT, pr⟩ := hS.ex
  have up : ∀ {H1 H2 : Hp} {ws : List V} {l : Sg}, TK K H1 H2 → Paired (R H1) ws l → Paired (R H2) ws l := fun s q => Paired.imp2 (fun _ _ z => mono _ _ _ _ s z) q
  refine ⟨_, hi, p, rfl, ⟨_, hT⟩, fun D nD => lc_tup (K := K) (xs := rs.map V.ref) (fun i H' => Same H H' ∧ ∃ ws, H' D = some (.lst ws) ∧ Paired (R H') ws (sg.take i)) ⟨Same.new nD, [], upd_same, .nil⟩ (fun i H' _ iv => TK.same iv.1 _ _ hT) (fun i x H' hx iv => ?_) (fun H' iv => ?_)⟩
  · rw [List.getElem?_map] at hx
    obtain ⟨r, e, rfl⟩ : ∃ r, rs[i]? = some r ∧ V.ref r = x := by
      cases e : rs[i]? with
      | none => rw [e] at hx; cases hx
      | some z => rw [e] at hx; exact ⟨z, rfl, Option.some.inj hx⟩
    obtain ⟨s, es, hr⟩ := Pg.paired_get pr e
    obtain ⟨sm, ws, hd, hpr⟩ := iv
    have hlen := paired_len hpr
    have hil := (List.getElem?_eq_some_iff.mp es).1
    rw [List.length_take] at hlen
    refine ⟨r, _, rfl, TK.same sm _ _ hr, rfl, _, _, rfl, _, _, rfl, rfl, hw _ _, yes_turn ?_⟩
    refine ht s H' (List.mem_of_getElem? es) sm _ fun v H2 s2 hv => ⟨_, s2 _ _ hd, smallN (by omega), Same.mut nD (sm.trans s2), _, upd_same, ?_⟩
    rw [take_snoc es]
    have kp : TK K H2 (upd H2 D (.lst (ws ++ [v]))) := TK.put (s2 _ _ hd)
    exact paired_app (up ((TK.same s2).trans kp) hpr) (.cons (mono _ _ _ _ kp hv) .nil)
  · obtain ⟨sm, ws, hd, hpr⟩ := iv
    rw [List.length_map, paired_len pr, List.take_length] at hpr
    exact h D H' ws nD sm hd hpr
end Pg
namespace Pg
open PySem PySem.Spec PyProof.Rows L2
theorem pairs_refs {K : PySem.W.Frag} {H : Hp} : ∀ {ws : List V} {sg : Sg}, Paired (fun v (s : Str × Int) => ∃ r, v = .ref r ∧ SqT K H r [.str s.1, .int s.2]) ws sg → ∃ ps : List Addr, ws = ps.map V.ref ∧ Paired (fun r (s : Str × Int) => SqT K H r [.str s.1, .int s.2]) ps sg
  | _, _, .nil => ⟨[], rfl, .nil⟩
  | _, _, .cons ⟨r, h1, h2⟩ t => by
    obtain ⟨ps, h3, h4⟩ := pairs_refs t
    exact ⟨r :: ps, by rw [h1, h3]; rfl, .cons h2 h4⟩
theorem pairs_kv {K : PySem.W.Frag} {H : Hp} : ∀ {ps : List Addr} {sg : Sg}, Paired (fun r (s : Str × Int) => SqT K H r [.str s.1, .int s.2]) ps sg → Paired (fun p (kv : Key × V) => SqT K H p [kV kv.1, kv.2]) ps (kvS sg)
  | _, _, .nil => .nil
  | _, _, .cons a t => .cons a (pairs_kv t)
/-- [f(part) for part in value[1:]], the parts told by any relation -/
theorem rd_tail {K : PySem.W.Frag} {σ : L2.St} {H : Hp} {Q : VK} {j : Nat} {te : TE} {us : List V} {α : Type} {ks : List α} {wi : TI} (hwi : ∀ R, (∀ q H1, Same H H1 → SqT K H1 q us → R (Itt K q) H1) → wi σ H R) (F : V → α → Prop) (f : α → V) (pr : Paired F us ks) (hlen : ks.length ≤ 100000)
    (hw : ∀ x, wipe ((wipe σ [j]).set j (some x)) [j] = wipe σ [j])
    (ht : ∀ u k H', k ∈ ks → F u k → Same H H' → ∀ Q', (∀ H2, Same H' H2 → Q' (f k) H2) → te ((wipe σ [j]).set j (some u)) H' Q')
    (h : ∀ D H', H D = none → Same H H' → H' D = some (.lst (ks.map f)) → Q (.ref D) H') : tLc wi (gName j) tYes te [j] σ H Q := by
  refine hwi _ (fun q H1 s1 hS D nD => ?_)
  have nD0 : H D = none := same_free s1 nD
  refine lc_tup (K := K) (xs := us) (fun i H' => Same H1 H' ∧ H' D = some (.lst ((ks.take i).map f))) ⟨Same.new nD, upd_same⟩ (fun i H' _ iv => TK.same iv.1 _ _ hS) (fun i x H' hx iv => ?_) (fun H' iv => ?_)
  · obtain ⟨sm, hd⟩ := iv
    obtain ⟨k, ek, hk⟩ := Pg.paired_get pr hx
    refine ⟨hw _, yes_turn (ht x k H' (List.mem_of_getElem? ek) hk (s1.trans sm) _ fun H2 s2 => ⟨_, s2 _ _ hd, ?_, Same.mut nD (sm.trans s2), ?_⟩)⟩
    · have := (List.getElem?_eq_some_iff.mp ek).1
      rw [List.length_map, List.length_take]; exact smallN (by omega)
    · rw [upd_same, take_snoc ek, List.map_append]; rfl
  · obtain ⟨sm, hd⟩ := iv
    rw [paired_len pr, List.take_length] at hd
    exact h D H' nD0 (s1.trans sm) hd
end Pg
namespace Pg
open PySem PySem.Spec PyProof.Rows L2
theorem depth_mem : ∀ {ds : List PyData} {k : PyData}, k ∈ ds → k.depth ≤ PyData.depthAll ds
  | [], k, h => absurd h List.not_mem_nil
  | d :: ds, k, h => by
    rw [PyData.depthAll]
    rcases List.mem_cons.mp h with e | e
    · rw [e]; omega
    · have := depth_mem e; omega
theorem depth_part {ds : List PyData} {k : PyData} (h : k ∈ ds) : k.depth + 1 ≤ (PyData.tuple ds).depth := by
  have := depth_mem h
  rw [PyData.depth]
  omega
theorem preD_part {d0 k : PyData} {ks : List PyData} (h : k ∈ ks) : ∀ x ∈ preD k, x ∈ preD (.tuple (d0 :: ks)) := fun x hx => by
  rw [preD_tup, List.drop_succ_cons, List.drop_zero]
  exact List.mem_cons_of_mem _ (List.mem_flatMap.mpr ⟨k, h, hx⟩)
theorem preD_self (d : PyData) : d ∈ preD d := by
  cases d <;> first | exact List.mem_singleton.mpr rfl | (rw [preD_tup]; exact List.mem_cons_self ..)
end Pg

set_option Elab.async false
set_option linter.all false
set_option maxRecDepth 100000
set_option maxHeartbeats 4000000
namespace Pg
open PySem PySem.Spec PyProof.Rows L2
/-! ### a nest put into a nest -/
/-- the path leads somewhere; what is there -/
def PathAt : PyData → List Nat → Prop
  | _, [] => True
  | .tuple ds, k :: ks => ∃ d, 1 ≤ k ∧ ds[k]? = some d ∧ PathAt d ks
  | _, _ :: _ => False
def putD : PyData → List Nat → PyData → PyData
  | _, [], o => o
  | .tuple ds, k :: ks, o => .tuple (ds.take k ++ putD (ds.getD k (.str Str.empty)) ks o :: ds.drop (k + 1))
  | d, _ :: _, _ => d
def spPut (K : PySem.W.Frag) (n : Nat) : Sp := fun vs H Q _ => ∃ (v w : V) (pl : Addr) (d o : PyData) (ks : List Nat), vs = [v, .ref pl, w] ∧ Dp K H v d ∧ nest d = true ∧ Dp K H w o ∧ nest o = true ∧ SqL K H pl ((ks.map fun k => ((k : Nat) : Int)).map V.int) ∧ PathAt d ks ∧ ks.length + 1 ≤ n ∧ ks.length ≤ 1000 ∧ (preD d).length ≤ 20000 ∧
  ∀ r H', Same H H' → Dp K H' r (putD d ks o) → Q r H'
theorem nestAll_app : ∀ {a b : List PyData}, nestAll (a ++ b) = (nestAll a && nestAll b)
  | [], b => by simp [nestAll]
  | x :: a, b => by
    show (nest x && nestAll (a ++ b)) = ((nest x && nestAll a) && nestAll b)
    rw [nestAll_app, Bool.and_assoc]
theorem nestAll_take {a : List PyData} (h : nestAll a = true) (n : Nat) : nestAll (a.take n) = true := by
  rw [← List.take_append_drop n a, nestAll_app, Bool.and_eq_true] at h
  exact h.1
theorem nestAll_drop {a : List PyData} (h : nestAll a = true) (n : Nat) : nestAll (a.drop n) = true := by
  rw [← List.take_append_drop n a, nestAll_app, Bool.and_eq_true] at h
  exact h.2
theorem nest_put : ∀ {ks : List Nat} {d o : PyData}, nest d = true → nest o = true → PathAt d ks → nest (putD d ks o) = true
  | [], d, o, _, ho, _ => by cases d <;> exact ho
  | k :: ks, d, o, hd, ho, hp => by
    cases d with
    | tuple ds =>
      obtain ⟨e, _, he, hp'⟩ := hp
      have hn : nestAll ds = true := hd
      have hg : ds.getD k (.str Str.empty) = e := by rw [List.getD_eq_getElem?_getD, he]; rfl
      show nestAll (ds.take k ++ putD (ds.getD k (.str Str.empty)) ks o :: ds.drop (k + 1)) = true
      rw [hg, nestAll_app, Bool.and_eq_true]
      refine ⟨nestAll_take hn k, ?_⟩
      show (nest (putD e ks o) && nestAll (ds.drop (k + 1))) = true
      rw [Bool.and_eq_true]
      exact ⟨nest_put (nestAll_mem hn e (List.mem_of_getElem? he)) ho hp', nestAll_drop hn _⟩
    | str x => exact hp.elim
    | none => exact hp.elim
    | bool _ => exact hp.elim
    | int _ => exact hp.elim
    | list _ => exact hp.elim
    | dict _ => exact hp.elim
end Pg
namespace Pg
open PySem PySem.Spec PyProof.Rows L2
section
variable {K : PySem.W.Frag} {H : Hp} {a b : Addr} {xs ys : List V} {Q : VK}
/-- t[:k], t[k:], t + u of tuples, told by what stands there alone -/
theorem sl_take (k : Nat) (h : SqT K H a xs) (q : ∀ p H', Same H H' → SqT K H' p (xs.take k) → Q (.ref p) H') : rSlA K (.ref a) none (some (k : Int)) H Q := by
  refine ⟨a, xs, rfl, h, fun z => q a H (Same.refl H) ?_, fun _ p np => q p _ (Same.new np) ?_⟩
  · have z2 := z.2
    rw [HT.sIx_nat] at z2
    rw [List.take_of_length_le (by omega)]
    exact h
  · rw [cutV_take]
    exact SqT.mk upd_same
theorem sl_drop (k : Nat) (h : SqT K H a xs) (q : ∀ p H', Same H H' → SqT K H' p (xs.drop k) → Q (.ref p) H') : rSlA K (.ref a) (some (k : Int)) none H Q := by
  refine ⟨a, xs, rfl, h, fun z => q a H (Same.refl H) ?_, fun _ p np => q p _ (Same.new np) ?_⟩
  · have z1 := z.1
    rw [HT.sIx_nat] at z1
    have : xs.drop k = xs := by
      rcases (by omega : k = 0 ∨ xs.length = 0) with e | e
      · rw [e]; rfl
      · rw [List.eq_nil_of_length_eq_zero e]; simp
    rw [this]
    exact h
  · rw [cutV_drop]
    exact SqT.mk upd_same
theorem cat_tup (h : SqT K H a xs) (h2 : SqT K H b ys) (hz : xs.length + ys.length ≤ sizeLine) (q : ∀ p H', Same H H' → SqT K H' p (xs ++ ys) → Q (.ref p) H') : rCatA K (.ref a) (.ref b) H Q := by
  refine ⟨a, b, xs, ys, rfl, rfl, h, h2, hz, fun e => q b H (Same.refl H) (by rw [e]; exact h2), fun _ e => q a H (Same.refl H) (by rw [e, List.append_nil]; exact h), fun _ _ p np => q p _ (Same.new np) (SqT.mk upd_same)⟩
end
theorem dpAll_app {K : PySem.W.Frag} {H : Hp} : ∀ {vs ws : List V} {ds es : List PyData}, DpAll K H vs ds → DpAll K H ws es → DpAll K H (vs ++ ws) (ds ++ es)
  | _, _, [], _, h, h' => by cases h; exact h'
  | _, _, d :: ds, _, h, h' => by cases h with | cons a b => exact .cons a (dpAll_app b h')
theorem dpAll_take {K : PySem.W.Frag} {H : Hp} : ∀ {vs : List V} {ds : List PyData} (n : Nat), DpAll K H vs ds → DpAll K H (vs.take n) (ds.take n)
  | _, _, 0, _ => by rw [List.take_zero, List.take_zero]; exact .nil
  | _, [], n + 1, h => by cases h; exact .nil
  | _, d :: ds, n + 1, h => by cases h with | cons a b => exact .cons a (dpAll_take n b)
theorem dpAll_drop {K : PySem.W.Frag} {H : Hp} : ∀ {vs : List V} {ds : List PyData} (n : Nat), DpAll K H vs ds → DpAll K H (vs.drop n) (ds.drop n)
  | _, _, 0, h => h
  | _, [], n + 1, h => by cases h; exact .nil
  | _, d :: ds, n + 1, h => by cases h with | cons a b => exact dpAll_drop n b
end Pg

set_option Elab.async false
set_option linter.all false
set_option maxRecDepth 100000
set_option maxHeartbeats 4000000
namespace Pg
open PySem PySem.Spec PyProof.Rows L2
/-! ### books as data -/
def addS (acc : List Str) (x : Str) : List Str := if x ∈ acc then acc else acc ++ [x]
def nmStepD (acc : List Str) : PyData → List Str
  | .str x => addS acc x
  | _ => acc
/-- the names of a nest, each once, in order -/
def nmsD (d : PyData) : List Str := (preD d).foldl nmStepD []
theorem addS_len {acc : List Str} {x : Str} : (addS acc x).length ≤ acc.length + 1 := by
  unfold addS
  split
  · omega
  · rw [List.length_append]; exact Nat.le_refl _
theorem addS_put {x : Str} {l : List Str} : putK (nmD l) (.inr x) (V.bl true) = nmD (addS l x) := nmD_put
theorem nmFold_len : ∀ (ds : List PyData) (acc : List Str), (ds.foldl nmStepD acc).length ≤ acc.length + ds.length
  | [], acc => Nat.le_refl _
  | d :: ds, acc => by
    have h1 := nmFold_len ds (nmStepD acc d)
    have h2 : (nmStepD acc d).length ≤ acc.length + 1 := by
      unfold nmStepD
      split
      · exact addS_len
      · omega
    rw [List.foldl_cons, List.length_cons]
    omega
theorem nmsD_len (d : PyData) : (nmsD d).length ≤ (preD d).length := by
  have := nmFold_len (preD d) []
  unfold nmsD
  simpa using this
def spNmsD (K : PySem.W.Frag) : Sp := fun vs H Q _ => ∃ (v : V) (d : PyData), vs = [v] ∧ Dp K H v d ∧ nest d = true ∧ (preD d).length ≤ 10000 ∧ ∀ p H', H p = none → Same H H' → H' p = some (.lst ((nmsD d).map V.str)) → Q (.ref p) H'
structure Lit where
  yes : Bool
  mw : Str
  t : PyData
structure Rul where
  mw : Str
  hd : PyData
  bd : List Lit
abbrev litD (l : Lit) : PyData := .tuple [.bool l.yes, .str l.mw, l.t]
abbrev rulD (r : Rul) : PyData := .tuple [.str r.mw, r.hd, .tuple (r.bd.map litD)]
structure NsS (d : PyData) : Prop where
  n : nest d = true
  z : (preD d).length ≤ 1000
  s : shortD d
structure LitS (l : Lit) : Prop where
  w : l.mw.length ≤ 100000
  t : NsS l.t
structure RulS (r : Rul) : Prop where
  w : r.mw.length ≤ 100000
  h : NsS r.hd
  b : r.bd.length ≤ 1000
  l : ∀ l ∈ r.bd, LitS l
def litB (sg mk : Sg) (fl : Int) (l : Lit) : Bool := (decide (0 ≤ numB mk l.mw) && decide (numB mk l.mw ≤ if l.yes then fl else fl - 1)) && (decide ((preD l.t).length ≤ 6) && (preD l.t).all (nodB sg))
def isnB (sg : Sg) (x : Str) : Bool := isW x && decide (numB sg x = -1)
/-- a part of a head that is a name -/
def nmPart (sg : Sg) : PyData → Bool
  | .str x => isnB sg x
  | _ => false
def toStr : PyData → Str
  | .str x => x
  | _ => ""
def hdNs (sg : Sg) (ks : List PyData) : List Str := ((ks.drop 1).filter (nmPart sg)).map toStr
def headB (sg : Sg) : PyData → Bool
  | .str x => isnB sg x
  | .tuple ks => nodB sg (.tuple ks) && decide ((dcnt (hdNs sg ks) : Int) = (ks.length : Int) - 1)
  | _ => false
def furStep (known acc : List Str) (x : Str) : List Str := if x ∈ known then acc else addS acc x
def furD (hd : PyData) (bd : List Lit) : List Str := bd.foldl (fun acc l => (nmsD l.t).foldl (furStep (nmsD hd)) acc) []
def rulB (sg mk : Sg) (r : Rul) : Bool := decide (0 ≤ numB mk r.mw) && (headB sg r.hd && (decide (r.bd.length ≤ 4) && (r.bd.all (litB sg mk (numB mk r.mw)) && decide ((furD r.hd r.bd).length ≤ 1))))
structure OkMk (sg mk : Sg) : Prop where
  l : 1 ≤ mk.length ∧ mk.length ≤ 6
  d : (mk.map (·.1)).Nodup
  w : ∀ s ∈ mk, isW s.1 = true
  n : ∀ s ∈ mk, numB sg s.1 < 0
  a : ∀ s ∈ mk, 0 ≤ s.2 ∧ s.2 ≤ 2
structure BkAt (K : PySem.W.Frag) (H : Hp) (b : Addr) (sg mk : Sg) (rs : List Rul) : Prop where
  ex : ∃ g m r, SqT K H b [.ref g, .ref m, .ref r] ∧ SgAt K H g sg ∧ SgAt K H m mk ∧ Dp K H (.ref r) (.tuple (rs.map rulD))
structure GBk (mg : Str → Option Value) : Prop where
  mm : ∃ u, mg "MAX_MARKS" = some u ∧ RelV (.int 6) u
  mf : ∃ u, mg "MAX_FLOOR" = some u ∧ RelV (.int 2) u
  mr : ∃ u, mg "MAX_RULES" = some u ∧ RelV (.int 24) u
  mb : ∃ u, mg "MAX_BODY" = some u ∧ RelV (.int 4) u
  mt : ∃ u, mg "MAX_TERM" = some u ∧ RelV (.int 6) u
def spCmk (K : PySem.W.Frag) (N : Addr) : Sp := fun vs H Q E => ∃ (g m : Addr) (sg mk : Sg), vs = [.ref g, .ref m] ∧ SgAt K H g sg ∧ sg.length ≤ 1000 ∧ SgAt K H m mk ∧ mk.length ≤ 1000 ∧ (∀ s ∈ mk, s.1.length ≤ 100000) ∧ (OkMk sg mk → ∀ H', Same H H' → Q .non H') ∧ (¬ OkMk sg mk → ∀ H', Same H H' → E (.ref N) none H')
def spCli (K : PySem.W.Frag) (N : Addr) : Sp := fun vs H Q E => ∃ (g m : Addr) (v : V) (sg mk : Sg) (l : Lit) (fl : Int), vs = [.ref g, .ref m, v, .int fl] ∧ SgAt K H g sg ∧ sg.length ≤ 1000 ∧ SgAt K H m mk ∧ mk.length ≤ 1000 ∧ Dp K H v (litD l) ∧ LitS l ∧ (litB sg mk fl l = true → ∀ H', Same H H' → Q .non H') ∧ (litB sg mk fl l = false → ∀ H', Same H H' → E (.ref N) none H')
def spIhd (K : PySem.W.Frag) : Sp := fun vs H Q _ => ∃ (g : Addr) (v : V) (sg : Sg) (d : PyData), vs = [.ref g, v] ∧ SgAt K H g sg ∧ sg.length ≤ 1000 ∧ Dp K H v d ∧ NsS d ∧ ∀ H', Same H H' → Q (.bl (headB sg d)) H'
def spFur (K : PySem.W.Frag) : Sp := fun vs H Q _ => ∃ (v : V) (r : Rul), vs = [v] ∧ Dp K H v (rulD r) ∧ RulS r ∧ r.bd.length ≤ 4 ∧ (∀ l ∈ r.bd, (preD l.t).length ≤ 6) ∧ ∀ p H', H p = none → Same H H' → H' p = some (.lst ((furD r.hd r.bd).map V.str)) → Q (.ref p) H'
def spCrl (K : PySem.W.Frag) (N : Addr) : Sp := fun vs H Q E => ∃ (g m : Addr) (v : V) (sg mk : Sg) (r : Rul), vs = [.ref g, .ref m, v] ∧ SgAt K H g sg ∧ sg.length ≤ 1000 ∧ SgAt K H m mk ∧ mk.length ≤ 1000 ∧ Dp K H v (rulD r) ∧ RulS r ∧ (rulB sg mk r = true → ∀ H', Same H H' → Q .non H') ∧ (rulB sg mk r = false → ∀ H', Same H H' → E (.ref N) none H')
def OkBk (sg mk : Sg) (rs : List Rul) : Prop := OkSg sg ∧ OkMk sg mk ∧ rs.length ≤ 24 ∧ rs.all (rulB sg mk) = true
def spCbk (K : PySem.W.Frag) (N : Addr) : Sp := fun vs H Q E => ∃ (b : Addr) (sg mk : Sg) (rs : List Rul), vs = [.ref b] ∧ BkAt K H b sg mk rs ∧ sg.length ≤ 1000 ∧ (∀ s ∈ sg, s.1.length ≤ 100000) ∧ mk.length ≤ 1000 ∧ (∀ s ∈ mk, s.1.length ≤ 100000) ∧ rs.length ≤ 1000 ∧ (∀ r ∈ rs, RulS r) ∧ (OkBk sg mk rs → ∀ H', Same H H' → Q .non H') ∧ (¬ OkBk sg mk rs → ∀ H', Same H H' → E (.ref N) none H')
mutual
theorem nest_solid : ∀ {d : PyData}, nest d = true → solid d = true
  | .str _, _ => by rw [solid]
  | .tuple ds, h => by rw [solid]; exact nests_solid (ds := ds) h
  | .none, h => by cases h
  | .bool _, h => by cases h
  | .int _, h => by cases h
  | .list _, h => by cases h
  | .dict _, h => by cases h
theorem nests_solid : ∀ {ds : List PyData}, nestAll ds = true → solid.solidAll ds = true
  | [], _ => rfl
  | d :: ds, h => by
    rw [nestAll, Bool.and_eq_true] at h
    rw [solid.solidAll, nest_solid h.1, nests_solid h.2]
    rfl
end
theorem LitS.so {l : Lit} (h : LitS l) : solid (litD l) = true := by
  rw [solid, solid.solidAll, solid.solidAll, solid.solidAll, solid.solidAll, solid, solid, nest_solid h.t.n]; rfl
theorem RulS.so {r : Rul} (h : RulS r) : solid (rulD r) = true := by
  have hb : solid.solidAll (r.bd.map litD) = true := solidAll_of fun d hd => by
    obtain ⟨l, hl, rfl⟩ := List.mem_map.mp hd
    exact (h.l l hl).so
  rw [solid, solid.solidAll, solid.solidAll, solid.solidAll, solid.solidAll, solid, solid, nest_solid h.h.n, hb]; rfl
end Pg

set_option Elab.async false
set_option linter.all false
set_option maxRecDepth 100000
set_option maxHeartbeats 4000000
namespace Pg
open PySem PySem.Spec PyProof.Rows L2
/-- t[1:] of any tuple as an iterable -/
theorem it_drop1 {K : PySem.W.Frag} {σ : L2.St} {H : Hp} {p : Addr} {xs : List V} {i : Nat} (hi : σ[i]? = some (some (.ref p))) (hS : SqT K H p xs) : ∀ R, (∀ q H1, Same H H1 → SqT K H1 q (xs.drop 1) → R (Itt K q) H1) → iTup K (tSl (rSlA K) (tVar i) (tPart (tC (.int 1))) tNoPart) σ H R := fun R h => by
  refine ⟨_, hi, 1, rfl, ?_⟩
  dsimp only [tNoPart]
  exact sl_drop 1 hS fun q H1 s1 h1 => ⟨q, rfl, ⟨_, h1⟩, h q H1 s1 h1⟩
/-- a comprehension with a condition over what a tuple holds -/
theorem rd_tailIf {K : PySem.W.Frag} {σ : L2.St} {H : Hp} {Q : VK} {j : Nat} {tt : TT} {te : TE} {us : List V} {α : Type} {ks : List α} {wi : TI} (hwi : ∀ R, (∀ q H1, Same H H1 → SqT K H1 q us → R (Itt K q) H1) → wi σ H R) (F : V → α → Prop) (f : α → V) (b : α → Bool) (pr : Paired F us ks) (hlen : ks.length ≤ 100000)
    (hw : ∀ x, wipe ((wipe σ [j]).set j (some x)) [j] = wipe σ [j])
    (htt : ∀ u k H', k ∈ ks → F u k → Same H H' → ∀ Q' : Bool → Hp → Prop, (∀ H2, Same H' H2 → Q' (b k) H2) → tt ((wipe σ [j]).set j (some u)) H' Q')
    (ht : ∀ u k H', k ∈ ks → b k = true → F u k → Same H H' → ∀ Q', (∀ H2, Same H' H2 → Q' (f k) H2) → te ((wipe σ [j]).set j (some u)) H' Q')
    (h : ∀ D H', H D = none → Same H H' → H' D = some (.lst ((ks.filter b).map f)) → Q (.ref D) H') : tLc wi (gName j) tt te [j] σ H Q := by
  refine hwi _ (fun q H1 s1 hS D nD => ?_)
  have nD0 : H D = none := same_free s1 nD
  refine lc_tup (K := K) (xs := us) (fun i H' => Same H1 H' ∧ H' D = some (.lst (((ks.take i).filter b).map f))) ⟨Same.new nD, upd_same⟩ (fun i H' _ iv => TK.same iv.1 _ _ hS) (fun i x H' hx iv => ?_) (fun H' iv => ?_)
  · obtain ⟨sm, hd⟩ := iv
    obtain ⟨k, ek, hk⟩ := Pg.paired_get pr hx
    have hkm := List.mem_of_getElem? ek
    refine ⟨hw _, htt x k H' hkm hk (s1.trans sm) _ fun H2 s2 => if_of (fun e1 => ?_) fun e1 => ?_⟩
    · refine ht x k H2 hkm e1 hk (s1.trans (sm.trans s2)) _ fun H3 s3 => ⟨_, s3 _ _ (s2 _ _ hd), ?_, Same.mut nD (sm.trans (s2.trans s3)), ?_⟩
      · have := List.length_filter_le b (ks.take i)
        have := (List.getElem?_eq_some_iff.mp ek).1
        rw [List.length_take] at *
        rw [List.length_map]; exact smallN (by omega)
      · rw [upd_same, take_snoc ek, List.filter_append, List.map_append, List.filter_cons_of_pos e1]; rfl
    · refine ⟨sm.trans s2, ?_⟩
      rw [take_snoc ek, List.filter_append, List.filter_cons_of_neg (by rw [e1]; decide), s2 _ _ hd]
      simp
  · obtain ⟨sm, hd⟩ := iv
    rw [paired_len pr, List.take_length] at hd
    exact h D H' nD0 (s1.trans sm) hd
end Pg

set_option Elab.async false
set_option linter.all false
set_option maxRecDepth 100000
set_option maxHeartbeats 4000000
namespace Pg
open PySem PySem.Spec PyProof.Rows L2
/-! ### a tuple of which it is known that it has no dict of its own -/
def PlTup (o : Obj) : Prop := o.cls = .type "tuple" ∧ o.dict = none
def PlT (H : Hp) (g : Addr) : Prop := ∃ o xs, H g = some (.frz o (.tup xs)) ∧ PlTup o
theorem PlT.same {H H' : Hp} {g : Addr} (s : Same H H') (h : PlT H g) : PlT H' g := let ⟨o, xs, h1, h2⟩ := h; ⟨o, xs, s _ _ h1, h2⟩
theorem PlT.fr {H H' : Hp} {g a : Addr} {ys : List V} (f : Fr a H H') (ha : H a = some (.lst ys)) (h : PlT H g) : PlT H' g := let ⟨o, xs, h1, h2⟩ := h; ⟨o, xs, f _ _ (ne_of h1 ha (by intro z; cases z)) h1, h2⟩
theorem PlT.st {K : PySem.W.Frag} {H H' : Hp} {g a n : Addr} {m : Int} (f : Fr a H H') (st : StA H a n m) (h : PlT H g) : PlT H' g := let ⟨_, ha⟩ := st.at; h.fr f ha
/-- signs whose tuple has no dict of its own -/
def SgF (K : PySem.W.Frag) (H : Hp) (g : Addr) (sg : Sg) : Prop := ∃ (o : Obj) (rs : List Addr), H g = some (.frz o (.tup (rs.map V.ref))) ∧ PlTup o ∧ Paired (fun r (s : Str × Int) => SqT K H r [.str s.1, .int s.2]) rs sg
theorem SgF.at_ {K : PySem.W.Frag} {H : Hp} {g : Addr} {sg : Sg} (h : SgF K H g sg) : SgAt K H g sg := let ⟨o, rs, h1, _, h3⟩ := h; ⟨rs, .inl (.inr ⟨o, h1⟩), h3⟩
theorem SgF.keep {K : PySem.W.Frag} {H H' : Hp} {g a : Addr} {sg : Sg} {ys : List V} (f : Fr a H H') (ha : H a = some (.lst ys)) (h : SgF K H g sg) : SgF K H' g sg := let ⟨o, rs, h1, h2, h3⟩ := h; ⟨o, rs, f _ _ (ne_of h1 ha (by intro z; cases z)) h1, h2, Paired.imp2 (fun _ _ q => TK.fr f ha _ _ q) h3⟩
theorem SgF.same {K : PySem.W.Frag} {H H' : Hp} {g : Addr} {sg : Sg} (s : Same H H') (h : SgF K H g sg) : SgF K H' g sg := let ⟨o, rs, h1, h2, h3⟩ := h; ⟨o, rs, s _ _ h1, h2, Paired.imp2 (fun _ _ q => TK.same s _ _ q) h3⟩
theorem SgF.st {K : PySem.W.Frag} {H H' : Hp} {g a n : Addr} {m : Int} {sg : Sg} (f : Fr a H H') (st : StA H a n m) (h : SgF K H g sg) : SgF K H' g sg := let ⟨_, ha⟩ := st.at; h.keep f ha
section
variable {X : Cx}
/-- tuple(list) -/
theorem call_tuple_ofF : CallR X (.type "tuple") (fun xs H Q => ∃ p ys, xs = [.ref p] ∧ SqL X.K H p ys ∧ ∀ l o, H l = none → PlTup o → Q (.ref l) (upd H l (.frz o (.tup ys)))) := by
  intro pins s σ H xs us Q I r h
  obtain ⟨p, ys, rfl, hq, q⟩ := h
  obtain ⟨u, rfl, rx⟩ := vals1 r
  cases rx
  obtain ⟨its, r', pl, hz⟩ := I.list hq
  have hlen := r'.length
  refine call_tuple_list pl.isList (fun h' kp => ?_) (by simp only [List.size_toArray] <;> omega)
  have I1 : Inv X pins σ H { s with heap := h' } := I.kept (t' := s.toks) kp
  have I2 : Inv X pins σ (upd H h'.objs.size (.frz { cls := .type "tuple", data := .seq its.toArray } (.tup ys))) { s with heap := h'.push { cls := .type "tuple", data := .seq its.toArray } } :=
    I1.laid (t' := s.toks) (fun b o e => Heap.get?_push_of_some _ e) (Nat.le_refl _) (show ObjOk X.prog X.w _ _ _ (.frz _ (.tup ys)) from ⟨Heap.get?_push_size _ rfl, hz, its, r', IsTup.new _ _⟩)
  exact ⟨.ref h'.objs.size, _, I2, rfl, q _ _ (I1.hok.fresh (Nat.le_refl _)) ⟨rfl, rfl⟩⟩
theorem pairs_of2 {pins : List (Addr × Obj)} {σ : L2.St} {H : Hp} {s : Shared} (I : Inv X pins σ H s) : ∀ {ps : List Addr} {kvs : List (Key × V)}, Paired (fun p kv => SqT X.K H p [kV kv.1, kv.2]) ps kvs →
    ∃ (prs : List (Key × Value)) (pv : List (Value × Value)), KV kvs prs ∧ prs.length = ps.length ∧ pv.length = ps.length ∧ ∀ (j : Nat) (k v : Value), pv[j]? = some (k, v) → ∃ (b : Addr) (q : Key), ps[j]? = some b ∧ IsTup s.heap b #[k, v] ∧ prs[j]? = some (q, v) ∧ keyIs q k = true
  | _, _, .nil => ⟨[], [], .nil, rfl, rfl, fun j k v e => by simp at e⟩
  | _, _, .cons (a := p) (b := kv) h t => by
    obtain ⟨prs, pv, r, hl, hl2, hp⟩ := pairs_of2 I t
    obtain ⟨its, rv, ht, _⟩ := I.tuple h
    obtain ⟨u, y, ei, ru, ry⟩ := vals2 rv
    subst ei
    refine ⟨(kv.1, y) :: prs, (u, y) :: pv, .cons ⟨rfl, ry⟩ r, by rw [List.length_cons, List.length_cons, hl], by rw [List.length_cons, List.length_cons, hl2], fun j k v e => ?_⟩
    cases j with
    | zero =>
      have e' : (u, y) = (k, v) := Option.some.inj e
      cases e'
      exact ⟨p, kv.1, rfl, ht, rfl, kV_is (P := X.prog) (w := X.w) ru⟩
    | succ j =>
      obtain ⟨b, q, e1, e2, e3, e4⟩ := hp j k v (by simpa using e)
      exact ⟨b, q, by simpa using e1, e2, by simpa using e3, e4⟩
/-- dict(tuple of pairs) -/
theorem call_dictT (hcalm : X.calm = true) : CallR X (.type "dict") (fun xs H Q => ∃ (a : Addr) (o : Obj) (ps : List Addr) (kvs : List (Key × V)), xs = [.ref a] ∧ H a = some (.frz o (.tup (ps.map V.ref))) ∧ PlTup o ∧ Paired (fun p kv => SqT X.K H p [kV kv.1, kv.2]) ps kvs ∧
    ∀ p, H p = none → Q (.ref p) (upd H p (.dK (mergeK [] kvs)))) := by
  intro pins s σ H xs us Q I r q
  obtain ⟨a, o, ps, kvs, ex, hq, ho, hp, q⟩ := q
  subst ex
  obtain ⟨u, eu, rx⟩ := vals1 r
  subst eu
  cases rx
  obtain ⟨hget, hz, its, rv, pl⟩ := (show ObjOk X.prog X.w H s.heap a (.frz o (.tup (ps.map V.ref))) from I.hok a _ hq)
  have ei := refs_at rv
  subst ei
  rw [List.length_map] at hz
  obtain ⟨prs, pv, rel, hl, hl2, hpr⟩ := pairs_of2 I hp
  obtain ⟨o2, ho2, hc, n, hdat⟩ := pl
  have e2 : o2 = o := by rw [hget] at ho2; exact (Option.some.inj ho2).symm
  subst e2
  have ok1 : PlainSeq "tuple" s.heap a ((ps.map Value.ref).toArray) := ⟨o2, n, hget, hc, ho.2, hdat⟩
  have ok2 : PairItems s.heap ((ps.map Value.ref).toArray) (fun j => ps.getD j 0) pv := by
    refine ⟨by simp [hl2], fun j k v e => ?_⟩
    obtain ⟨b, q', e1, e2, _, _⟩ := hpr j k v e
    have eb : ps.getD j 0 = b := by rw [List.getD_eq_getElem?_getD, e1]; rfl
    refine ⟨?_, .inl ?_⟩
    · simp [e1, eb]
    · show s.heap.IsTuple (ps.getD j 0) #[k, v]
      rw [eb]
      exact e2
  have hc' : PairsHave (mixKind X.prog X.w) pv.length (PairRel pv) prs := by
    refine ⟨by rw [hl, hl2], fun i k v e => ?_⟩
    obtain ⟨b, q', _, _, e3, e4⟩ := hpr i k v e
    exact ⟨q', e3, e4⟩
  refine PySem.call_dict_pairs (knd := mixKind X.prog X.w) (kvs := prs) (PairArg.tuple a _ _ pv) (I.ok.hd hcalm) ⟨ok1, ok2⟩ hc' (by rw [hl2]; exact hz) fun h' tk hd' k => ?_
  have hm : (s.heap.objs.size == sysModules) = false := beq_eq_false_iff_ne.mpr (Nat.ne_of_gt I.big)
  have hlen : (mergeK [] kvs).length ≤ sizeLine := by
    refine Nat.le_trans (length_mergeK kvs []) ?_
    rw [List.length_nil, Nat.zero_add, rel.length, hl]
    exact hz
  exact ⟨.ref s.heap.objs.size, upd H s.heap.objs.size (.dK (mergeK [] kvs)), I.laid (t' := tk) (fun b o e => k b o (by simp) e) (Nat.le_refl _) (show ObjOk X.prog X.w _ _ _ (.dK (mergeK [] kvs)) from ⟨hlen, hm, merged [] prs, KV.merge rel .nil, hd'⟩), rfl, q _ (I.hok.fresh (Nat.le_refl _))⟩
end
end Pg

set_option Elab.async false
set_option linter.all false
set_option maxRecDepth 100000
set_option maxHeartbeats 4000000
namespace Pg
open PySem PySem.Spec PyProof.Rows L2
/-! ### a nest all of whose nodes are nodes is a term -/
theorem numB_le {sg : Sg} (h : ∀ s ∈ sg, s.2 ≤ 2) (x : Str) : numB sg x ≤ 2 := by
  induction sg with
  | nil => show (-1 : Int) ≤ 2; omega
  | cons s sg ih =>
    rw [numB_cons]
    split
    · exact h s (List.mem_cons_self ..)
    · exact ih fun r hr => h r (List.mem_cons_of_mem _ hr)
theorem nod_part {sg : Sg} {d0 k : PyData} {ks : List PyData} (h : (preD (.tuple (d0 :: ks))).all (nodB sg) = true) (hk : k ∈ ks) : (preD k).all (nodB sg) = true := by
  rw [List.all_eq_true] at h ⊢
  exact fun x hx => h x (preD_part hk x hx)
theorem tr_of_nod {sg : Sg} (h2 : ∀ s ∈ sg, s.2 ≤ 2) : ∀ (n : Nat) (d : PyData), (preD d).length ≤ n → nest d = true → (preD d).all (nodB sg) = true → ∃ t, d = trD t
  | 0, d, hz, _, _ => by have := preD_pos d; omega
  | n + 1, .str x, _, _, _ => ⟨.nm x, rfl⟩
  | n + 1, .tuple [], _, _, h => by cases (List.all_eq_true.mp h _ (preD_self _))
  | n + 1, .tuple (d0 :: ks), hz, hn, h => by
    have hn' : (nest d0 && nestAll ks) = true := hn
    rw [Bool.and_eq_true] at hn'
    have h0 := List.all_eq_true.mp h _ (preD_self _)
    cases d0 with
    | str s =>
      have hlen : numB sg s = (ks.length : Nat) := of_decide_eq_true h0
      have hle := numB_le h2 s
      have part : ∀ k ∈ ks, ∃ t, k = trD t := fun k hk => by
        refine tr_of_nod h2 n k ?_ (nestAll_mem hn'.2 k hk) (nod_part h hk)
        rw [preD_tup, List.length_cons, List.drop_succ_cons, List.drop_zero, flat_lenD] at hz
        have : (preD k).length ≤ (ks.map fun d => (preD d).length).sum := by
          clear hz h h0 hlen hn hn'
          induction ks with
          | nil => exact absurd hk List.not_mem_nil
          | cons a b ih =>
            rw [List.map_cons, List.sum_cons]
            rcases List.mem_cons.mp hk with e | e
            · rw [e]; omega
            · have := ih e; omega
        omega
      match ks, hlen, part with
      | [], _, _ => exact ⟨.c0 s, rfl⟩
      | [a], _, part =>
        obtain ⟨t, e⟩ := part a (List.mem_cons_self ..)
        exact ⟨.c1 s t, by rw [e]; rfl⟩
      | [a, b], _, part =>
        obtain ⟨t, e⟩ := part a (List.mem_cons_self ..)
        obtain ⟨u, e2⟩ := part b (List.mem_cons_of_mem _ (List.mem_cons_self ..))
        exact ⟨.c2 s t u, by rw [e, e2]; rfl⟩
      | a :: b :: c :: l, hlen, _ =>
        simp only [List.length_cons] at hlen
        omega
    | tuple _ => cases h0
    | none => cases h0
    | bool _ => cases h0
    | int _ => cases h0
    | list _ => cases h0
    | dict _ => cases h0
  | n + 1, .none, _, hn, _ => by cases hn
  | n + 1, .bool _, _, hn, _ => by cases hn
  | n + 1, .int _, _, hn, _ => by cases hn
  | n + 1, .list _, _, hn, _ => by cases hn
  | n + 1, .dict _, _, hn, _ => by cases hn
end Pg

set_option Elab.async false
set_option linter.all false
set_option maxRecDepth 100000
set_option maxHeartbeats 4000000
namespace Pg
open PySem PySem.Spec PyProof.Rows L2
/-! ### a nest level by level -/
def sgnB (sg : Sg) : PyData → Bool
  | .tuple (.str s :: ks) => decide (numB sg s = (ks.length : Nat))
  | _ => false
def kidsD : PyData → List PyData
  | .tuple ds => ds.drop 1
  | _ => []
mutual
def depD : PyData → Nat
  | .tuple ds => 1 + depT ds
  | _ => 1
def depT : List PyData → Nat
  | [] => 0
  | _ :: ds => depDs ds
def depDs : List PyData → Nat
  | [] => 0
  | d :: ds => max (depD d) (depDs ds)
end
theorem preD_kids (d : PyData) : preD d = d :: (kidsD d).flatMap preD := by
  cases d <;> first | rfl | (rw [preD_tup]; rfl)
theorem depD_kids (d : PyData) : depD d = 1 + depDs (kidsD d) := by
  cases d with
  | tuple ds => cases ds <;> rfl
  | _ => rfl
theorem depDs_app : ∀ a b : List PyData, depDs (a ++ b) = max (depDs a) (depDs b)
  | [], b => by show depDs b = max 0 (depDs b); omega
  | x :: a, b => by show max (depD x) (depDs (a ++ b)) = max (max (depD x) (depDs a)) (depDs b); rw [depDs_app a b]; omega
def totD (ls : List PyData) : Nat := (ls.map fun d => (preD d).length).sum
def nextD (ls : List PyData) : List PyData := ls.flatMap kidsD
theorem totD_app (a b : List PyData) : totD (a ++ b) = totD a + totD b := by unfold totD; rw [List.map_append, List.sum_append]
theorem totD_le : ∀ ls : List PyData, ls.length ≤ totD ls
  | [] => Nat.le_refl _
  | d :: ls => by
    have h1 := totD_le ls
    have h2 := preD_pos d
    have : totD (d :: ls) = (preD d).length + totD ls := by unfold totD; rw [List.map_cons, List.sum_cons]
    rw [List.length_cons, this]
    omega
theorem totD_next : ∀ ls : List PyData, totD ls = ls.length + totD (nextD ls)
  | [] => rfl
  | d :: ls => by
    have ih := totD_next ls
    have e1 : totD (d :: ls) = (preD d).length + totD ls := by unfold totD; rw [List.map_cons, List.sum_cons]
    have e2 : (preD d).length = 1 + totD (kidsD d) := by rw [preD_kids, List.length_cons, flat_lenD]; unfold totD; omega
    have e3 : nextD (d :: ls) = kidsD d ++ nextD ls := by unfold nextD; rw [List.flatMap_cons]
    rw [e1, e2, e3, totD_app, List.length_cons, ih]
    omega
theorem totD_take (ls : List PyData) (k : Nat) : totD (ls.take k) ≤ totD ls := by
  have h := totD_app (ls.take k) (ls.drop k)
  rw [List.take_append_drop] at h
  omega
theorem nextD_snoc {ls : List PyData} {i : Nat} {k : PyData} (e : ls[i]? = some k) : nextD (ls.take (i + 1)) = nextD (ls.take i) ++ kidsD k := by
  unfold nextD
  rw [take_snoc e, List.flatMap_append, List.flatMap_cons, List.flatMap_nil, List.append_nil]
theorem depDs_next : ∀ {ls : List PyData}, ls ≠ [] → depDs ls = 1 + depDs (nextD ls)
  | [], h => absurd rfl h
  | [d], _ => by
    show max (depD d) 0 = _
    rw [depD_kids]
    unfold nextD
    rw [List.flatMap_cons, List.flatMap_nil, List.append_nil]
    omega
  | d :: e :: ls, _ => by
    have ih := depDs_next (ls := e :: ls) (by simp)
    show max (depD d) (depDs (e :: ls)) = _
    rw [ih, depD_kids]
    have : nextD (d :: e :: ls) = kidsD d ++ nextD (e :: ls) := by unfold nextD; rw [List.flatMap_cons]
    rw [this, depDs_app]
    omega
theorem all_next (p : PyData → Bool) : ∀ ls : List PyData, (ls.flatMap preD).all p = (ls.all p && ((nextD ls).flatMap preD).all p)
  | [] => rfl
  | d :: ls => by
    have ih := all_next p ls
    have e3 : nextD (d :: ls) = kidsD d ++ nextD ls := by unfold nextD; rw [List.flatMap_cons]
    rw [List.flatMap_cons, List.all_append, ih, e3, List.flatMap_append, List.all_append, preD_kids, List.all_cons, List.all_cons]
    cases p d <;> cases (ls.all p) <;> cases (((kidsD d).flatMap preD).all p) <;> rfl
theorem nest_kids {d : PyData} (h : nest d = true) : nestAll (kidsD d) = true := by
  cases d with
  | tuple ds => exact nestAll_drop (show nestAll ds = true from h) 1
  | _ => rfl
/-- the size and the depth of a tree, or that it is none -/
def treeB (sg : Sg) (d : PyData) : Bool := (decide ((preD d).length ≤ 400) && decide (depD d ≤ 100)) && (preD d).all (sgnB sg)
def meaV (sg : Sg) (d : PyData) : List V := if treeB sg d = true then [.int ((preD d).length : Nat), .int (depD d : Nat)] else [.int 0, .int 0]
def spSgo (K : PySem.W.Frag) : Sp := fun vs H Q _ => ∃ (a : Addr) (sg : Sg) (v : V) (d : PyData), vs = [.ref a, v] ∧ H a = some (.dK (kvS sg)) ∧ Dp K H v d ∧ nest d = true ∧ Q (.bl (sgnB sg d)) H
def spMea (K : PySem.W.Frag) : Sp := fun vs H Q _ => ∃ (a : Addr) (sg : Sg) (v : V) (d : PyData), vs = [.ref a, v] ∧ H a = some (.dK (kvS sg)) ∧ Dp K H v d ∧ nest d = true ∧ (preD d).length ≤ 20000 ∧ ∀ p H', Same H H' → SqT K H' p (meaV sg d) → Q (.ref p) H'
def spIsTree (K : PySem.W.Frag) : Sp := fun vs H Q _ => ∃ (g : Addr) (sg : Sg) (v : V) (d : PyData), vs = [.ref g, v] ∧ SgF K H g sg ∧ GSg sg ∧ Dp K H v d ∧ nest d = true ∧ (preD d).length ≤ 20000 ∧ ∀ H', Same H H' → Q (.bl (treeB sg d)) H'
structure Mea (K : PySem.W.Frag) (mg : Str → Option Value) (nta : Addr) : Prop where
  mt : ∃ u, mg "MAX_TREE" = some u ∧ RelV (.int 400) u
  md : ∃ u, mg "MAX_DEEP" = some u ∧ RelV (.int 100) u
  nt : mg "NO_TREE" = some (.ref nta)
  nv : ∀ H, SqT K H nta [.int 0, .int 0]
/-- what the levels ahead of this one leave of the question -/
structure LvInv (sg : Sg) (d : PyData) (S D : Nat) (ls : List PyData) : Prop where
  sz : S + totD ls = (preD d).length
  dp : D + depDs ls = depD d
  al : (preD d).all (sgnB sg) = (ls.flatMap preD).all (sgnB sg)
  s4 : S ≤ 400
  d1 : D ≤ 100
theorem LvInv.start (sg : Sg) (d : PyData) : LvInv sg d 0 0 [d] := by
  refine ⟨?_, ?_, ?_, by omega, by omega⟩
  · unfold totD; simp
  · show 0 + max (depD d) 0 = depD d; omega
  · rw [List.flatMap_cons, List.flatMap_nil, List.append_nil]
section
variable {sg : Sg} {d : PyData} {S D : Nat} {ls : List PyData}
theorem LvInv.big (h : LvInv sg d S D ls) (hne : ls ≠ []) (hb : 400 < S + ls.length ∨ 100 < D + 1) : treeB sg d = false := by
  have h1 := totD_le ls
  have h2 := depDs_next hne
  have h3 := h.sz
  have h4 := h.dp
  unfold treeB
  rcases hb with e | e
  · rw [decide_eq_false (show ¬ (preD d).length ≤ 400 by omega)]; rfl
  · rw [decide_eq_false (show ¬ depD d ≤ 100 by omega), Bool.and_false]; rfl
theorem LvInv.bad (h : LvInv sg d S D ls) {k : PyData} (hk : k ∈ ls) (hb : sgnB sg k = false) : treeB sg d = false := by
  have : (preD d).all (sgnB sg) = false := by
    rw [h.al, all_next]
    have : ls.all (sgnB sg) = false := by
      rw [List.all_eq_false]
      exact ⟨k, hk, by rw [hb]; simp⟩
    rw [this]; rfl
  unfold treeB
  rw [this, Bool.and_false]
theorem LvInv.next (h : LvInv sg d S D ls) (hne : ls ≠ []) (h1 : S + ls.length ≤ 400) (h2 : D + 1 ≤ 100) (hall : ls.all (sgnB sg) = true) : LvInv sg d (S + ls.length) (D + 1) (nextD ls) := by
  have e1 := totD_next ls
  have e2 := depDs_next hne
  have e3 := h.sz
  have e4 := h.dp
  refine ⟨by omega, by omega, ?_, h1, h2⟩
  rw [h.al, all_next, hall, Bool.true_and]
theorem LvInv.done (h : LvInv sg d S D []) : treeB sg d = true ∧ (preD d).length = S ∧ depD d = D := by
  have e1 : S = (preD d).length := by have := h.sz; unfold totD at this; simpa using this
  have e2 : D = depD d := by have := h.dp; show _; simpa [depDs] using this
  have h4 := h.s4
  have h1 := h.d1
  refine ⟨?_, e1.symm, e2.symm⟩
  unfold treeB
  rw [decide_eq_true (show (preD d).length ≤ 400 by omega), decide_eq_true (show depD d ≤ 100 by omega), h.al]
  rfl
end
end Pg

set_option Elab.async false
set_option linter.all false
set_option maxRecDepth 100000
set_option maxHeartbeats 4000000
namespace Pg
open PySem PySem.Spec PyProof.Rows L2
/-! ### values put together by displays -/
def OkO (n : Nat) (d : PyData) : Prop := nest d = true ∧ (preD d).length ≤ n ∧ d.depth ≤ n ∧ shortD d
def OAt (K : PySem.W.Frag) (n : Nat) (H : Hp) (v : V) : Prop := ∃ d, Dp K H v d ∧ OkO n d
theorem OAt.keep {K : PySem.W.Frag} {n : Nat} {H H' : Hp} {v : V} (k : TK K H H') (h : OAt K n H v) : OAt K n H' v := let ⟨d, h1, h2⟩ := h; ⟨d, dp_tk k _ _ h2.1 h1, h2⟩
def TeOk (K : PySem.W.Frag) (n : Nat) (te : TE) (σ : L2.St) (H : Hp) : Prop := ∀ H', Same H H' → ∀ Q' : VK, (∀ v H2, Same H' H2 → OAt K n H2 v → Q' v H2) → te σ H' Q'
def TaOk (K : PySem.W.Frag) (n : Nat) (ta : TA) (σ : L2.St) (H : Hp) (k : Nat) : Prop := ∀ H', Same H H' → ∀ Q' : List V → Hp → Prop, (∀ vs H2, Same H' H2 → vs.length = k → (∀ x ∈ vs, OAt K n H2 x) → Q' vs H2) → ta σ H' Q'
section
variable {K : PySem.W.Frag} {n k : Nat} {te : TE} {ta : TA} {σ : L2.St} {H : Hp}
theorem TaOk.nil : TaOk K n tNil σ H 0 := fun H' _ Q' q => q [] H' (Same.refl H') rfl (fun _ h => absurd h List.not_mem_nil)
theorem TaOk.cons (h : TeOk K n te σ H) (t : TaOk K n ta σ H k) : TaOk K n (tCons te ta) σ H (k + 1) := fun H' s Q' q =>
  h H' s _ fun v H2 s2 hv => t H2 (s.trans s2) _ fun vs H3 s3 hl hvs => q (v :: vs) H3 (s2.trans s3) (by rw [List.length_cons, hl]) fun x hx => by
    rcases List.mem_cons.mp hx with e | e
    · rw [e]; exact hv.keep (TK.same s3)
    · exact hvs x e
theorem TeOk.str {x : Str} (hn : 1 ≤ n) (hx : x.length ≤ 100000) : TeOk K n (tC (.str x)) σ H := fun H' _ Q' q =>
  q _ H' (Same.refl H') ⟨.str x, .str x, rfl, hn, by show 0 ≤ n; omega, fun k hk y e => by rw [List.mem_singleton.mp (show k ∈ [PyData.str x] from hk)] at e; cases e; exact hx⟩
/-- what was told of its data -/
theorem TeOk.dat {v : V} {d : PyData} {H2 : Hp} (h : Dp K H2 v d) (g : OkO n d) : OAt K n H2 v := ⟨d, h, g⟩
end
/-! ### a path of a term's walk -/
theorem shortD_sub {d k : PyData} (h : shortD d) (hk : ∀ x ∈ preD k, x ∈ preD d) : shortD k := fun y hy x e => h y (hk y hy) x e
theorem depth_trD : ∀ t : Tr, (trD t).depth ≤ t.dep
  | .nm x => by show 0 ≤ _; omega
  | .c0 s => by show (PyData.tuple [.str s]).depth ≤ 1; simp [PyData.depth, PyData.depthAll]
  | .c1 s t => by
    have := depth_trD t
    show (PyData.tuple [.str s, trD t]).depth ≤ 1 + t.dep
    simp only [PyData.depth, PyData.depthAll]
    omega
  | .c2 s t u => by
    have := depth_trD t
    have := depth_trD u
    show (PyData.tuple [.str s, trD t, trD u]).depth ≤ 1 + max t.dep u.dep
    simp only [PyData.depth, PyData.depthAll]
    omega
/-! ### what is put in -/
theorem depthAll_app : ∀ a b : List PyData, PyData.depthAll (a ++ b) = max (PyData.depthAll a) (PyData.depthAll b)
  | [], b => by show PyData.depthAll b = max (PyData.depthAll []) _; rw [show PyData.depthAll [] = 0 from rfl]; omega
  | x :: a, b => by rw [List.cons_append, PyData.depthAll, PyData.depthAll, depthAll_app a b]; omega
theorem depthAll_le {a : List PyData} (n : Nat) : PyData.depthAll (a.take n) ≤ PyData.depthAll a ∧ PyData.depthAll (a.drop n) ≤ PyData.depthAll a := by
  have h := depthAll_app (a.take n) (a.drop n)
  rw [List.take_append_drop] at h
  omega
theorem put_depth : ∀ {ks : List Nat} {d o : PyData}, PathAt d ks → (putD d ks o).depth ≤ d.depth + o.depth
  | [], d, o, _ => by
    have : putD d [] o = o := by cases d <;> rfl
    rw [this]; omega
  | k :: ks, d, o, hp => by
    cases d with
    | tuple ds =>
      obtain ⟨e, _, he, hp'⟩ := hp
      have hg : ds.getD k (.str Str.empty) = e := by rw [List.getD_eq_getElem?_getD, he]; rfl
      have ih := put_depth (o := o) hp'
      have hm := depth_mem (List.mem_of_getElem? he)
      show (PyData.tuple (ds.take k ++ putD (ds.getD k (.str Str.empty)) ks o :: ds.drop (k + 1))).depth ≤ _
      rw [hg, PyData.depth, PyData.depth, depthAll_app, PyData.depthAll]
      have h1 := (depthAll_le (a := ds) k).1
      have h2 := (depthAll_le (a := ds) (k + 1)).2
      omega
    | str x => exact hp.elim
    | none => exact hp.elim
    | bool _ => exact hp.elim
    | int _ => exact hp.elim
    | list _ => exact hp.elim
    | dict _ => exact hp.elim
theorem put_kids {ds : List PyData} {k : Nat} (h : 1 ≤ k) (x : PyData) : (ds.take k ++ x :: ds.drop (k + 1)).drop 1 = (ds.take k).drop 1 ++ x :: ds.drop (k + 1) ∨ ds = [] := by
  cases ds with
  | nil => exact .inr rfl
  | cons d ds =>
    obtain ⟨j, rfl⟩ : ∃ j, k = j + 1 := ⟨k - 1, by omega⟩
    exact .inl rfl
theorem put_mem : ∀ {ks : List Nat} {d o : PyData}, PathAt d ks → ∀ y ∈ preD (putD d ks o), ∀ x, y = .str x → y ∈ preD d ∨ y ∈ preD o
  | [], d, o, _, y, hy, x, e => by
    have : putD d [] o = o := by cases d <;> rfl
    rw [this] at hy
    exact .inr hy
  | k :: ks, d, o, hp, y, hy, x, e => by
    cases d with
    | tuple ds =>
      obtain ⟨e1, hk, he, hp'⟩ := hp
      have hg : ds.getD k (.str Str.empty) = e1 := by rw [List.getD_eq_getElem?_getD, he]; rfl
      have hy : y ∈ preD (PyData.tuple (ds.take k ++ putD (ds.getD k (.str Str.empty)) ks o :: ds.drop (k + 1))) := hy
      rw [hg, preD_tup] at hy
      rcases List.mem_cons.mp hy with z | z
      · rw [z] at e; cases e
      rcases put_kids (ds := ds) hk (putD e1 ks o) with q | q
      · rw [q, List.flatMap_append, List.flatMap_cons] at z
        rw [preD_tup]
        have up : ∀ l : List PyData, (∀ a ∈ l, a ∈ ds.drop 1) → y ∈ l.flatMap preD → y ∈ PyData.tuple ds :: (ds.drop 1).flatMap preD := fun l hl hm => by
          obtain ⟨a, ha, hya⟩ := List.mem_flatMap.mp hm
          exact List.mem_cons_of_mem _ (List.mem_flatMap.mpr ⟨a, hl a ha, hya⟩)
        rcases List.mem_append.mp z with z | z
        · refine .inl (up _ (fun a ha => ?_) z)
          rw [List.drop_take] at ha
          exact List.mem_of_mem_take ha
        · rcases List.mem_append.mp z with z | z
          · rcases put_mem hp' y z x e with w | w
            · refine .inl (up [e1] (fun a ha => ?_) (by rw [List.flatMap_cons, List.flatMap_nil, List.append_nil]; exact w))
              rw [List.mem_singleton] at ha
              rw [ha]
              have : (ds.drop 1)[k - 1]? = some e1 := by rw [List.getElem?_drop, show 1 + (k - 1) = k by omega]; exact he
              exact List.mem_of_getElem? this
            · exact .inr w
          · refine .inl (up _ (fun a ha => ?_) z)
            have : ds.drop (k + 1) = (ds.drop 1).drop k := by rw [List.drop_drop]; congr 1; omega
            rw [this] at ha
            exact List.mem_of_mem_drop ha
      · rw [q] at he; simp at he
    | str x => exact hp.elim
    | none => exact hp.elim
    | bool _ => exact hp.elim
    | int _ => exact hp.elim
    | list _ => exact hp.elim
    | dict _ => exact hp.elim
theorem put_size : ∀ {ks : List Nat} {d o : PyData}, PathAt d ks → (preD (putD d ks o)).length ≤ (preD d).length + (preD o).length
  | [], d, o, _ => by
    have : putD d [] o = o := by cases d <;> rfl
    rw [this]; omega
  | k :: ks, d, o, hp => by
    cases d with
    | tuple ds =>
      obtain ⟨e1, hk, he, hp'⟩ := hp
      have hg : ds.getD k (.str Str.empty) = e1 := by rw [List.getD_eq_getElem?_getD, he]; rfl
      have ih := put_size (o := o) hp'
      show (preD (PyData.tuple (ds.take k ++ putD (ds.getD k (.str Str.empty)) ks o :: ds.drop (k + 1)))).length ≤ _
      rw [hg, preD_tup, preD_tup, List.length_cons, List.length_cons]
      rcases put_kids (ds := ds) hk (putD e1 ks o) with q | q
      · have hsp : ds.drop 1 = (ds.take k).drop 1 ++ e1 :: ds.drop (k + 1) := by
          have hlt := (List.getElem?_eq_some_iff.mp he).1
          have e2 : ds.drop k = e1 :: ds.drop (k + 1) := by
            rw [List.drop_eq_getElem_cons hlt]
            congr 1
            exact (List.getElem?_eq_some_iff.mp he).2
          obtain ⟨j, rfl⟩ : ∃ j, k = j + 1 := ⟨k - 1, by omega⟩
          cases ds with
          | nil => simp at he
          | cons d ds =>
            show ds = (ds.take j) ++ e1 :: ds.drop (j + 1)
            have e3 : ds.drop j = e1 :: ds.drop (j + 1) := e2
            rw [← e3, List.take_append_drop]
        rw [q, hsp, List.flatMap_append, List.flatMap_append, List.flatMap_cons, List.flatMap_cons]
        simp only [List.length_append]
        omega
      · rw [q] at he; simp at he
    | str x => exact hp.elim
    | none => exact hp.elim
    | bool _ => exact hp.elim
    | int _ => exact hp.elim
    | list _ => exact hp.elim
    | dict _ => exact hp.elim
end Pg
namespace Pg
open PySem PySem.Spec PyProof.Rows L2
theorem nestAll_of : ∀ {ds : List PyData}, (∀ d ∈ ds, nest d = true) → nestAll ds = true
  | [], _ => rfl
  | d :: ds, h => by
    show (nest d && nestAll ds) = true
    rw [h d (List.mem_cons_self ..), nestAll_of fun e he => h e (List.mem_cons_of_mem _ he)]
    rfl
theorem depthAll_of {m : Nat} : ∀ {ds : List PyData}, (∀ d ∈ ds, d.depth ≤ m) → PyData.depthAll ds ≤ m
  | [], _ => by rw [show PyData.depthAll [] = 0 from rfl]; omega
  | d :: ds, h => by
    rw [PyData.depthAll]
    have h1 := h d (List.mem_cons_self ..)
    have h2 := depthAll_of fun e he => h e (List.mem_cons_of_mem _ he)
    omega
theorem sum_of {m : Nat} : ∀ {ds : List PyData}, (∀ d ∈ ds, (preD d).length ≤ m) → (ds.map fun d => (preD d).length).sum ≤ ds.length * m
  | [], _ => by simp
  | d :: ds, h => by
    rw [List.map_cons, List.sum_cons, List.length_cons, Nat.add_mul, Nat.one_mul]
    have h1 := h d (List.mem_cons_self ..)
    have h2 := sum_of fun e he => h e (List.mem_cons_of_mem _ he)
    omega
theorem okTu {m n : Nat} {ds : List PyData} (h : ∀ d ∈ ds, OkO m d) (h1 : 1 + ds.length * m ≤ n) (h2 : m + 1 ≤ n) : OkO n (.tuple ds) := by
  refine ⟨nestAll_of fun d hd => (h d hd).1, ?_, ?_, ?_⟩
  · rw [preD_tup, List.length_cons, flat_lenD]
    have := sum_of (m := m) (ds := ds.drop 1) fun d hd => (h d (List.mem_of_mem_drop hd)).2.1
    have h3 : (ds.drop 1).length * m ≤ ds.length * m := Nat.mul_le_mul_right _ (by rw [List.length_drop]; omega)
    omega
  · rw [PyData.depth]
    have := depthAll_of (m := m) (ds := ds) fun d hd => (h d hd).2.2.1
    omega
  · intro k hk x e
    rw [preD_tup] at hk
    rcases List.mem_cons.mp hk with z | z
    · rw [z] at e; cases e
    · obtain ⟨d, hd, hk'⟩ := List.mem_flatMap.mp z
      exact (h d (List.mem_of_mem_drop hd)).2.2.2 k hk' x e
theorem okS {n : Nat} {x : Str} (hn : 1 ≤ n) (hx : x.length ≤ 100000) : OkO n (.str x) :=
  ⟨rfl, hn, by show 0 ≤ n; omega, fun k hk y e => by rw [List.mem_singleton.mp (show k ∈ [PyData.str x] from hk)] at e; cases e; exact hx⟩
theorem OkO.mono {m n : Nat} {d : PyData} (h : OkO m d) (hn : m ≤ n) : OkO n d := ⟨h.1, Nat.le_trans h.2.1 hn, Nat.le_trans h.2.2.1 hn, h.2.2.2⟩
theorem okTr {n : Nat} {t : Tr} (h1 : t.size ≤ n) (h2 : shortD (trD t)) : OkO n (trD t) :=
  ⟨nest_tr t, by rw [preD_tr, List.length_map, pre_len]; exact h1, Nat.le_trans (depth_trD t) (Nat.le_trans t.dep_le h1), h2⟩
theorem trD_node {t : Tr} (nk : ∀ x, t ≠ .nm x) : trD t = .tuple (.str t.sym :: t.kids.map trD) := by
  cases t with
  | nm x => exact absurd rfl (nk x)
  | c0 s => rfl
  | c1 s t => rfl
  | c2 s t u => rfl
section
variable {K : PySem.W.Frag} {n : Nat} {σ : L2.St} {H : Hp} {i : Nat} {p : Addr} {xs : List V} {ds : List PyData}
theorem TeOk.te {te : TE} (h : ∀ H', Same H H' → ∀ Q' : VK, (∀ v H2, Same H' H2 → OAt K n H2 v → Q' v H2) → te σ H' Q') : TeOk K n te σ H := h
/-- () -/
theorem TeOk.tup0 (hn : 2 ≤ n) : TeOk K n (tTup tNil) σ H := fun H' _ Q' q => ⟨by decide, fun p np => q _ _ (Same.new np) ⟨.tuple [], .tup (SqT.mk upd_same) .nil, okTu (m := 1) (fun _ h => absurd h List.not_mem_nil) (by simp; omega) (by omega)⟩⟩
/-- ((),) -/
theorem TeOk.tup00 (hn : 10 ≤ n) : TeOk K n (tTup (tCons (tTup tNil) tNil)) σ H := fun H' _ Q' q => ⟨by decide, fun p np => ⟨(by show 1 ≤ sizeLine; decide), fun p2 np2 => q _ _ ((Same.new np).trans (Same.new np2))
  ⟨.tuple [.tuple []], .tup (SqT.mk upd_same) (.cons (.tup (TK.new np2 _ _ (SqT.mk upd_same)) .nil) .nil), okTu (m := 3) (fun d hd => by rw [List.mem_singleton] at hd; rw [hd]; exact okTu (m := 1) (fun _ h => absurd h List.not_mem_nil) (by simp) (by omega)) (by simp; omega) (by omega)⟩⟩⟩
/-- a row of texts -/
theorem okStrs {ys : List Str} (h : ∀ y ∈ ys, y.length ≤ 100000) (hn : ys.length + 2 ≤ n) : OkO n (.tuple (ys.map PyData.str)) :=
  okTu (m := 1) (fun d hd => by obtain ⟨y, hy, rfl⟩ := List.mem_map.mp hd; exact okS (Nat.le_refl _) (h y hy)) (by rw [List.length_map]; omega) (by omega)
theorem dp_strs : ∀ {ys : List Str} {H : Hp}, DpAll K H (ys.map V.str) (ys.map PyData.str)
  | [], _ => .nil
  | y :: ys, _ => .cons (.str y) dp_strs
/-- t[0][0] and the like: a text at a place of a tuple -/
theorem TeOk.of_str {te : TE} {x : Str} (hn : 1 ≤ n) (hx : x.length ≤ 100000) (h : ∀ H', Same H H' → ∀ Q' : VK, (∀ H2, Same H' H2 → Q' (.str x) H2) → te σ H' Q') : TeOk K n te σ H := fun H' s Q' q =>
  h H' s Q' fun H2 s2 => q _ H2 s2 ⟨.str x, .str x, okS hn hx⟩
/-- a tuple made of known parts -/
theorem OAt.tup {H2 : Hp} {us : List V} {m : Nat} (hS : SqT K H2 p us) (hA : DpAll K H2 us ds) (h : ∀ d ∈ ds, OkO m d) (h1 : 1 + ds.length * m ≤ n) (h2 : m + 1 ≤ n) : OAt K n H2 (.ref p) := ⟨.tuple ds, .tup hS hA, okTu h h1 h2⟩
end
end Pg
namespace Pg
open PySem PySem.Spec PyProof.Rows L2
/-- a store, then the rest: only the value is asked -/
theorem seq_asg {te : TE} {g : TG} {u : TS} {D : Ends} {σ : L2.St} {H : Hp} (h : te σ H fun x H1 => g x σ H1 (u D)) : tSeq (tAsg te g) u D σ H := h
/-- t[:-1] -/
theorem sl_init {K : PySem.W.Frag} {H : Hp} {a : Addr} {x : V} {us : List V} {Q : VK} (h : SqT K H a (x :: us)) (q : ∀ p H', Same H H' → SqT K H' p ((x :: us).take us.length) → Q (.ref p) H') : rSlA K (.ref a) none (some (-1)) H Q := by
  have e : HT.sIx (x :: us).length (x :: us).length (some (-1)) = us.length := by
    show (if (-1 : Int) < 0 then ((-1 : Int) + (((x :: us).length : Nat) : Int)).toNat else min (-1 : Int).toNat (x :: us).length) = us.length
    rw [if_pos (by decide), List.length_cons]
    omega
  refine ⟨a, _, rfl, h, fun z => ?_, fun _ p np => q p _ (Same.new np) ?_⟩
  · have z2 := z.2
    rw [e, List.length_cons] at z2
    omega
  · rw [show cutV (x :: us) none (some (-1)) = (x :: us).take us.length from by
      show List.take (HT.sIx (x :: us).length (x :: us).length (some (-1)) - 0) (x :: us) = _
      rw [e, Nat.sub_zero]]
    exact SqT.mk upd_same
theorem nestAll_kids (ks : List Tr) : nestAll (ks.map trD) = true := nestAll_of fun d hd => by
  obtain ⟨k, _, rfl⟩ := List.mem_map.mp hd
  exact nest_tr k
end Pg
namespace Pg
open PySem PySem.Spec PyProof.Rows L2
/-- a list display of such values -/
theorem TaOk.lst {K : PySem.W.Frag} {n k : Nat} {ta : TA} {σ : L2.St} {H : Hp} {Q : VK} (h : TaOk K n ta σ H k) (hk : k ≤ 1000) (q : ∀ (lo : Addr) (vs : List V) (H' : Hp), H lo = none → Same H H' → H' lo = some (.lst vs) → vs.length = k → (∀ x ∈ vs, OAt K n H' x) → Q (.ref lo) H') : tLst ta σ H Q :=
  h H (Same.refl H) _ fun vs H2 s2 hl hv => ⟨Nat.le_of_lt (smallN (by omega)), fun lo nlo => q lo vs _ (same_free s2 nlo) (s2.trans (Same.new nlo)) upd_same hl fun x hx => (hv x hx).keep (TK.new nlo)⟩
end Pg
namespace Pg
open PySem PySem.Spec PyProof.Rows L2
theorem Tr.size_kid3 {t k : Tr} (m : k ∈ t.kids) : k.size + 1 ≤ t.size := by
  cases t with
  | nm x => exact absurd m List.not_mem_nil
  | c0 s => exact absurd m List.not_mem_nil
  | c1 s t => rw [show (Tr.c1 s t).kids = [t] from rfl, List.mem_singleton] at m; rw [m]; show t.size + 1 ≤ 1 + t.size; omega
  | c2 s t u =>
    show k.size + 1 ≤ 1 + t.size + u.size
    rcases List.mem_cons.mp (show k ∈ [t, u] from m) with e | e
    · rw [e]; omega
    · rw [List.mem_singleton] at e; rw [e]; omega
theorem Wf.symG {sg : Sg} {nms : List Str} {t : Tr} (h : Wf sg nms t) (nk : ∀ x, t ≠ .nm x) : (t.sym, (t.kids.length : Int)) ∈ sg := by
  cases t with
  | nm x => exact absurd rfl (nk x)
  | c0 s => exact h
  | c1 s t => exact h.1
  | c2 s t u => exact h.1
end Pg

set_option Elab.async false
set_option linter.all false
set_option maxRecDepth 100000
set_option maxHeartbeats 4000000
namespace Pg
open PySem PySem.Spec PyProof.Rows L2
/-! ### readers -/
mutual
def inD : PyData → Bool
  | .int _ => true
  | .tuple ds => decide (ds.length ≤ 100) && inAll ds
  | _ => false
def inAll : List PyData → Bool
  | [] => true
  | d :: ds => inD d && inAll ds
end
theorem inAll_mem : ∀ {ds : List PyData}, inAll ds = true → ∀ d ∈ ds, inD d = true
  | [], _, d, h => absurd h List.not_mem_nil
  | e :: ds, h, d, m => by
    rw [inAll, Bool.and_eq_true] at h
    rcases List.mem_cons.mp m with z | z
    · rw [z]; exact h.1
    · exact inAll_mem h.2 d z
theorem inAll_of : ∀ {ds : List PyData}, (∀ d ∈ ds, inD d = true) → inAll ds = true
  | [], _ => rfl
  | d :: ds, h => by
    rw [inAll, h d (List.mem_cons_self ..), inAll_of fun e he => h e (List.mem_cons_of_mem _ he)]
    rfl
mutual
theorem inD_solid : ∀ {d : PyData}, inD d = true → solid d = true
  | .int _, _ => by rw [solid]
  | .tuple ds, h => by
    rw [inD, Bool.and_eq_true] at h
    rw [solid]
    exact inAll_solid h.2
  | .none, h => by cases h
  | .bool _, h => by cases h
  | .str _, h => by cases h
  | .list _, h => by cases h
  | .dict _, h => by cases h
theorem inAll_solid : ∀ {ds : List PyData}, inAll ds = true → solid.solidAll ds = true
  | [], _ => rfl
  | d :: ds, h => by
    rw [inAll, Bool.and_eq_true] at h
    rw [solid.solidAll, inD_solid h.1, inAll_solid h.2]
    rfl
end
def entryB (m : Nat) : Nat → PyData → Bool
  | 0, .int n => decide (0 ≤ n) && decide (n < (m : Int))
  | a + 1, .tuple ds => decide (ds.length = m) && ds.all (entryB m a)
  | _, _ => false
theorem entryB_ent {m : Nat} : ∀ {a : Nat} {d : PyData}, Ent m a d → entryB m a d = true
  | 0, d, ⟨n, e, h0, h1⟩ => by subst e; rw [entryB, decide_eq_true h0, decide_eq_true h1]; rfl
  | a + 1, d, ⟨ds, e, hl, hall⟩ => by
    subst e
    rw [entryB, decide_eq_true hl, List.all_eq_true.mpr fun x hx => entryB_ent (hall x hx)]
    rfl
theorem ent_inD {m : Nat} (hm : m ≤ 100) : ∀ {a : Nat} {d : PyData}, Ent m a d → inD d = true
  | 0, d, ⟨n, e, _, _⟩ => by subst e; rw [inD]
  | a + 1, d, ⟨ds, e, hl, hall⟩ => by
    subst e
    rw [inD, decide_eq_true (by omega), inAll_of fun x hx => ent_inD hm (hall x hx)]
    rfl
def labB (l : List Str) : Bool := decide (l.length ≤ 6) && (decide l.Nodup && l.all isW)
def LbAt (K : PySem.W.Frag) (H : Hp) (v : V) (l : List Str) : Prop := ∃ p, v = .ref p ∧ SqT K H p (l.map V.str)
theorem LbAt.keep {K : PySem.W.Frag} {H H' : Hp} {v : V} {l : List Str} (k : TK K H H') (h : LbAt K H v l) : LbAt K H' v l := let ⟨p, e, q⟩ := h; ⟨p, e, k _ _ q⟩
def rdrB (sg : Sg) (labels : List (List Str)) (md : List PyData) : Bool :=
  (decide (1 ≤ labels.length) && decide (labels.length ≤ 24)) && (labels.all labB && (decide (md.length = sg.length) && (md.zip sg).all fun p => entryB labels.length p.2.2.toNat p.1))
structure GRe (mg : Str → Option Value) : Prop where
  ml : ∃ u, mg "MAX_LABEL" = some u ∧ RelV (.int 6) u
  ms : ∃ u, mg "MAX_STATES" = some u ∧ RelV (.int 24) u
def ShortL (labels : List (List Str)) : Prop := ∀ l ∈ labels, l.length ≤ 1000 ∧ ∀ x ∈ l, x.length ≤ 100000
/-- the reader at r -/
structure RdAt (K : PySem.W.Frag) (H : Hp) (r : Addr) (labels : List (List Str)) (md : List PyData) : Prop where
  ex : ∃ (lb mv : Addr) (lvs : List V), SqT K H r [.ref lb, .ref mv] ∧ SqT K H lb lvs ∧ Paired (LbAt K H) lvs labels ∧ Dp K H (.ref mv) (.tuple md)
theorem RdAt.keep {K : PySem.W.Frag} {H H' : Hp} {r : Addr} {labels : List (List Str)} {md : List PyData} (k : TK K H H') (hi : inAll md = true) (h : RdAt K H r labels md) : RdAt K H' r labels md := by
  obtain ⟨lb, mv, lvs, h1, h2, h3, h4⟩ := h.ex
  exact ⟨lb, mv, lvs, k _ _ h1, k _ _ h2, Paired.imp2 (fun _ _ q => q.keep k) h3, dp_so k _ _ (by rw [solid]; exact inAll_solid hi) h4⟩
def spIen (K : PySem.W.Frag) (n : Nat) : Sp := fun vs H Q _ => ∃ (v : V) (d : PyData) (ar many : Nat), vs = [v, .int (ar : Nat), .int (many : Nat)] ∧ ar < n ∧ Dp K H v d ∧ inD d = true ∧ ∀ H', Same H H' → Q (.bl (entryB many ar d)) H'
def spIla (K : PySem.W.Frag) : Sp := fun vs H Q _ => ∃ (v : V) (l : List Str), vs = [v] ∧ LbAt K H v l ∧ l.length ≤ 1000 ∧ (∀ x ∈ l, x.length ≤ 100000) ∧ ∀ H', Same H H' → Q (.bl (labB l)) H'
def spCrd (K : PySem.W.Frag) (N : Addr) : Sp := fun vs H Q E => ∃ (g r : Addr) (sg : Sg) (labels : List (List Str)) (md : List PyData), vs = [.ref g, .ref r] ∧ SgAt K H g sg ∧ GSg sg ∧ RdAt K H r labels md ∧ labels.length ≤ 1000 ∧ ShortL labels ∧ inAll md = true ∧ md.length ≤ 1000 ∧
  (rdrB sg labels md = true → ∀ H', Same H H' → Q .non H') ∧ (rdrB sg labels md = false → ∀ H', Same H H' → E (.ref N) none H')
theorem walk_zipT {K : PySem.W.Frag} {a b : Addr} {xs ys : List V} {n : Nat} (hn : n = min xs.length ys.length) : Walk (RZ.ItzT K a b) n (fun H => SqT K H a xs ∧ SqT K H b ys) (YPair (fun i => xs[i]?) (fun i => ys[i]?)) := by
  subst hn
  refine ⟨fun i _ hi q => ?_, fun _ q => ⟨xs, ys, q.1, q.2, by omega⟩, fun i H v H' _ q y => ?_⟩
  · have h1 : i < xs.length := by omega
    have h2 : i < ys.length := by omega
    exact ⟨xs, ys, xs[i], ys[i], q.1, q.2, by simp [h1], by simp [h2]⟩
  · obtain ⟨T, x, z, h1, h2, h3, h4, h5⟩ := y
    exact ⟨T, x, z, h1, h2, h3, h4 xs q.1, h5 ys q.2⟩
theorem dpAll_len {K : PySem.W.Frag} {H : Hp} : ∀ {vs : List V} {ds : List PyData}, DpAll K H vs ds → vs.length = ds.length
  | _, [], h => by cases h; rfl
  | _, d :: ds, h => by cases h with | cons a b => rw [List.length_cons, List.length_cons, dpAll_len b]
theorem dpAll_at {K : PySem.W.Frag} {H : Hp} : ∀ {vs : List V} {ds : List PyData} {i : Nat} {v : V}, DpAll K H vs ds → vs[i]? = some v → ∃ d, ds[i]? = some d ∧ Dp K H v d
  | _, [], i, v, h, e => by cases h; simp at e
  | _, d0 :: ds, 0, v, h, e => by
    cases h with
    | cons a b => simp at e; subst e; exact ⟨_, rfl, a⟩
  | _, d0 :: ds, i + 1, v, h, e => by
    cases h with
    | cons a b =>
      obtain ⟨u, h1, h2⟩ := dpAll_at (i := i) b (by simpa using e)
      exact ⟨u, by simpa using h1, h2⟩
end Pg
namespace Pg
open PySem PySem.Spec PyProof.Rows L2
/-! ### displays of labels -/
def TaL (K : PySem.W.Frag) (ta : TA) (σ : L2.St) (H : Hp) (ls : List (List Str)) : Prop := ∀ H', Same H H' → ∀ Q' : List V → Hp → Prop, (∀ vs H2, Same H' H2 → Paired (LbAt K H2) vs ls → Q' vs H2) → ta σ H' Q'
section
variable {K : PySem.W.Frag} {te : TE} {ta : TA} {σ : L2.St} {H : Hp} {l : List Str} {ls : List (List Str)}
theorem TaL.nil : TaL K tNil σ H [] := fun H' _ Q' q => q [] H' (Same.refl H') .nil
theorem TaL.cons (h : ∀ H' : Hp, ∀ Q' : VK, (∀ p, H' p = none → Q' (.ref p) (upd H' p (.tup (l.map V.str)))) → te σ H' Q') (t : TaL K ta σ H ls) : TaL K (tCons te ta) σ H (l :: ls) := fun H' s Q' q =>
  h H' _ fun p np => t _ (s.trans (Same.new np)) _ fun vs H3 s3 hvs => q (.ref p :: vs) H3 ((Same.new np).trans s3) (.cons ⟨p, rfl, TK.same s3 _ _ (SqT.mk upd_same)⟩ hvs)
theorem TaL.lst {Q : VK} (h : TaL K ta σ H ls) (hk : ls.length ≤ 1000) (q : ∀ (lo : Addr) (vs : List V) (H' : Hp), H lo = none → Same H H' → H' lo = some (.lst vs) → Paired (LbAt K H') vs ls → Q (.ref lo) H') : tLst ta σ H Q :=
  h H (Same.refl H) _ fun vs H2 s2 hv => ⟨Nat.le_of_lt (smallN (by rw [paired_len hv]; omega)), fun lo nlo => q lo vs _ (same_free s2 nlo) (s2.trans (Same.new nlo)) upd_same (Paired.imp2 (fun _ _ z => z.keep (TK.new nlo)) hv)⟩
end
def six : List (List Str) := [[], ["x"], ["v"], ["x", "v"], ["v", "x"], ["xv"]]
def spLla (K : PySem.W.Frag) : Sp := fun vs H Q _ => ∃ (a n : Addr) (m : Int), vs = [.ref a] ∧ StA H a n m ∧ m < 900000 ∧ ∀ (v : V) (l : List Str) (H' : Hp), LbAt K H' v l → l ∈ six → Fr a H H' → StA H' a n (m + 1) → Q v H'
def spLrd (K : PySem.W.Frag) : Sp := fun vs H Q _ => ∃ (a n g : Addr) (sg : Sg) (many : Nat) (m : Int), vs = [.ref a, .ref g, .int (many : Nat)] ∧ StA H a n m ∧ m ≤ 300000 ∧ SgAt K H g sg ∧ GSg sg ∧ 1 ≤ many ∧ many ≤ 25 ∧
  ∀ (r : Addr) (labels : List (List Str)) (md : List PyData) (H' : Hp), RdAt K H' r labels md → labels.length = many → (∀ l ∈ labels, l ∈ six) → MvOk many sg md → Fr a H H' → StA H' a n (m + 3000) → Q (.ref r) H'
def spPutR (K : PySem.W.Frag) : Sp := fun vs H Q _ => ∃ (p : Addr) (xs : List V) (k : Nat) (o : V), vs = [.ref p, .int (k : Nat), o] ∧ SqT K H p xs ∧ k < xs.length ∧ xs.length ≤ 1000 ∧ ∀ q H', Same H H' → SqT K H' q (xs.take k ++ o :: xs.drop (k + 1)) → Q (.ref q) H'
end Pg

set_option Elab.async false
set_option linter.all false
set_option maxRecDepth 100000
set_option maxHeartbeats 4000000
namespace Pg
open PySem PySem.Spec PyProof.Rows L2 LamX
/-- what a list of pairs tells of a text -/
def rho : List (Str × Int) → Str → Int
  | [], _ => 0
  | p :: l, x => if p.1 = x then p.2 else rho l x
theorem valV_none {x : Str} : ∀ {l : List (Str × Int)}, x ∉ l.map (·.1) → valV (kvL l) (.inr x) = none
  | [], _ => rfl
  | p :: l, h => by
    have h1 : ¬ (Sum.inr p.1 : Key) = Sum.inr x := fun e => h (by rw [List.map_cons, Sum.inr.inj e]; exact List.mem_cons_self ..)
    show valV ((Sum.inr p.1, V.int p.2) :: kvL l) (.inr x) = none
    rw [valV_neg h1]
    exact valV_none fun e => h (by rw [List.map_cons]; exact List.mem_cons_of_mem _ e)
theorem valV_rho {x : Str} : ∀ {l : List (Str × Int)}, x ∈ l.map (·.1) → valV (kvL l) (.inr x) = some (.int (rho l x)) ∧ ∃ p ∈ l, p.2 = rho l x
  | [], h => absurd h List.not_mem_nil
  | p :: l, h => by
    show valV ((Sum.inr p.1, V.int p.2) :: kvL l) (.inr x) = _ ∧ _
    by_cases e : p.1 = x
    · have e1 : (Sum.inr p.1 : Key) = Sum.inr x := by rw [e]
      rw [valV_pos (p := (Sum.inr p.1, V.int p.2)) e1]
      have : rho (p :: l) x = p.2 := if_pos e
      rw [this]
      exact ⟨rfl, p, List.mem_cons_self .., rfl⟩
    · have e1 : ¬ (Sum.inr p.1 : Key) = Sum.inr x := fun z => e (Sum.inr.inj z)
      rw [valV_neg (p := (Sum.inr p.1, V.int p.2)) e1]
      have : rho (p :: l) x = rho l x := if_neg e
      rw [this]
      have hm : x ∈ l.map (·.1) := by
        rw [List.map_cons] at h
        rcases List.mem_cons.mp h with z | z
        · exact absurd z.symm e
        · exact z
      obtain ⟨h1, p', h2, h3⟩ := valV_rho hm
      exact ⟨h1, p', List.mem_cons_of_mem _ h2, h3⟩
abbrev vvL : List Str := ["vv"]
def Goods (K : PySem.W.Frag) (sg : Sg) (nms : List Str) (H : Hp) (ws : List V) : Prop := ∀ v ∈ ws, ∃ t, TrAt K H t v ∧ Wf sg nms t ∧ t.size ≤ 401 ∧ t.dep ≤ 103
theorem Goods.keep {K : PySem.W.Frag} {sg : Sg} {nms : List Str} {H H' : Hp} {ws : List V} (k : TK K H H') (h : Goods K sg nms H ws) : Goods K sg nms H' ws := fun v hv => let ⟨t, h1, h2⟩ := h v hv; ⟨t, TrAt.keep k h1, h2⟩
theorem wf_okr {m : Nat} {sg : Sg} {nms : List Str} {ρ : Str → Int} {D : Str → Prop} (hn : ∀ x ∈ nms, D x ∧ 0 ≤ ρ x ∧ ρ x < m) : ∀ {t : Tr}, Wf sg nms t → ∀ k ∈ pre t, OkR m sg ρ D k
  | .nm x, h, k, hk => by
    rw [pre_eq] at hk
    have : k = .nm x := by simpa [Tr.kids] using hk
    subst this
    exact ⟨fun y e => by cases e; exact hn x h, fun z => absurd rfl (z x)⟩
  | .c0 s, h, k, hk => by
    rw [pre_eq] at hk
    have : k = .c0 s := by simpa [Tr.kids] using hk
    subst this
    exact ⟨fun y e => (by cases e), fun _ => h⟩
  | .c1 s t, h, k, hk => by
    rcases List.mem_cons.mp (show k ∈ Tr.c1 s t :: pre t from hk) with e | e
    · subst e
      exact ⟨fun y e => (by cases e), fun _ => h.1⟩
    · exact wf_okr hn h.2 k e
  | .c2 s t u, h, k, hk => by
    rcases List.mem_cons.mp (show k ∈ Tr.c2 s t u :: (pre t ++ pre u) from hk) with e | e
    · subst e
      exact ⟨fun y e => (by cases e), fun _ => h.1⟩
    · rcases List.mem_append.mp e with e1 | e1
      · exact wf_okr hn h.2.1 k e1
      · exact wf_okr hn h.2.2 k e1
theorem ev_bnd {m : Nat} {sg : Sg} {md : List PyData} {ρ : Str → Int} {D : Str → Prop} (gs : GSg sg) (mo : MvOk m sg md) : ∀ {t : Tr}, (∀ k ∈ pre t, OkR m sg ρ D k) → 0 ≤ t.ev ρ (Wm sg md) ∧ t.ev ρ (Wm sg md) < (m : Int)
  | .nm x, h => (h (.nm x) (List.mem_cons_self ..)).1 x rfl |>.2
  | .c0 s, h => by
    have hin := (h (.c0 s) (List.mem_cons_self ..)).2 (fun x z => by cases z)
    obtain ⟨d, _, _, _, h0, h1⟩ := wm_of (a := 0) (rs := []) gs mo hin rfl (fun r hr => absurd hr List.not_mem_nil)
    exact ⟨h0, h1⟩
  | .c1 s t, h => by
    have hin := (h (.c1 s t) (List.mem_cons_self ..)).2 (fun x z => by cases z)
    have ih := ev_bnd gs mo (t := t) fun k hk => h k (show k ∈ Tr.c1 s t :: pre t from List.mem_cons_of_mem _ hk)
    obtain ⟨d, _, _, _, h0, h1⟩ := wm_of (a := 1) (rs := [t.ev ρ (Wm sg md)]) gs mo hin rfl (fun r hr => by rw [List.mem_singleton] at hr; rw [hr]; exact ih)
    exact ⟨h0, h1⟩
  | .c2 s t u, h => by
    have hin := (h (.c2 s t u) (List.mem_cons_self ..)).2 (fun x z => by cases z)
    have ih := ev_bnd gs mo (t := t) fun k hk => h k (show k ∈ Tr.c2 s t u :: (pre t ++ pre u) from List.mem_cons_of_mem _ (List.mem_append_left _ hk))
    have ih2 := ev_bnd gs mo (t := u) fun k hk => h k (show k ∈ Tr.c2 s t u :: (pre t ++ pre u) from List.mem_cons_of_mem _ (List.mem_append_right _ hk))
    obtain ⟨d, _, _, _, h0, h1⟩ := wm_of (a := 2) (rs := [t.ev ρ (Wm sg md), u.ev ρ (Wm sg md)]) gs mo hin rfl (fun r hr => by
      rcases List.mem_cons.mp hr with e | e
      · rw [e]; exact ih
      · rw [List.mem_singleton] at e; rw [e]; exact ih2)
    exact ⟨h0, h1⟩
theorem small24_log {n : Int} (h0 : 0 ≤ n) (h1 : n < 1000) : n.natAbs.log2 < 1920 := by
  have := (Sh.int h0 h1).ok
  rw [PyData.showable] at this
  exact of_decide_eq_true this
end Pg

set_option Elab.async false
set_option linter.all false
set_option maxRecDepth 100000
set_option maxHeartbeats 4000000
namespace Pg
open PySem PySem.Spec PyProof.Rows L2
/-! ### rules that the law draws -/
def NmB (sg : Sg) (nms : List Str) : Prop := ∀ x ∈ nms, isnB sg x = true
theorem isW_len {x : Str} (h : isW x = true) : x.length ≤ 8 := by
  unfold isW at h
  rw [Bool.and_eq_true, Bool.and_eq_true] at h
  exact of_decide_eq_true h.1.2
theorem NmB.w {sg : Sg} {nms : List Str} (h : NmB sg nms) {x : Str} (hx : x ∈ nms) : isW x = true := by
  have := h x hx
  unfold isnB at this
  rw [Bool.and_eq_true] at this
  exact this.1
theorem out_sg {sg : Sg} (g : GSg sg) {x : Str} (h : ∃ c ∈ cs x, c ≠ 97 ∧ c ≠ 98 ∧ c ≠ 121 ∧ c ≠ 122) (h2 : (cs x).head? ≠ some 99) : x ∉ sg.map (·.1) := fun hm => by
  obtain ⟨s, hs, rfl⟩ := List.mem_map.mp hm
  obtain ⟨i, hw⟩ := g.wd s hs
  rcases hw with ⟨_, _, hw⟩ | ⟨_, hw⟩
  · obtain ⟨c, hc, hn⟩ := h
    have := hw c hc
    omega
  · rw [hw] at h2
    exact h2 rfl
theorem isn_out {sg : Sg} (g : GSg sg) {x : Str} (hW : isW x = true) (h : ∃ c ∈ cs x, c ≠ 97 ∧ c ≠ 98 ∧ c ≠ 121 ∧ c ≠ 122) (h2 : (cs x).head? ≠ some 99) : isnB sg x = true := by
  unfold isnB
  rw [hW, numB_not (out_sg g h h2)]
  rfl
theorem wf_ok {sg : Sg} {nms : List Str} {t : Tr} (hw : Wf sg nms t) : ∀ k ∈ pre t, OkR 1 sg (fun _ => 0) (fun x => x ∈ nms) k := wf_okr (m := 1) (sg := sg) (ρ := fun _ => 0) (D := fun x => x ∈ nms) (fun x hx => ⟨hx, by decide, by decide⟩) hw
theorem wf_nod {sg : Sg} {nms : List Str} {t : Tr} (gs : GSg sg) (hn : NmB sg nms) (hw : Wf sg nms t) : (preD (trD t)).all (nodB sg) = true := by
  rw [List.all_eq_true, preD_tr]
  intro d hd
  obtain ⟨k, hk, rfl⟩ := List.mem_map.mp hd
  have ok := wf_ok hw k hk
  by_cases z : ∃ x, k = .nm x
  · obtain ⟨x, rfl⟩ := z
    exact hn x (ok.1 x rfl).1
  · have nk : ∀ x, k ≠ .nm x := fun x e => z ⟨x, e⟩
    rw [trD_node nk]
    show decide (numB sg k.sym = ((k.kids.map trD).length : Nat)) = true
    rw [List.length_map, numB_in gs.nd (ok.2 nk)]
    exact decide_eq_true rfl
theorem wf_names {sg : Sg} {nms : List Str} {t : Tr} (hw : Wf sg nms t) : ∀ x, PyData.str x ∈ preD (trD t) → x ∈ nms := by
  intro x hd
  rw [preD_tr] at hd
  obtain ⟨k, hk, e⟩ := List.mem_map.mp hd
  have ok := wf_ok hw k hk
  by_cases z : ∃ y, k = .nm y
  · obtain ⟨y, rfl⟩ := z
    have e2 : y = x := PyData.str.inj e
    rw [← e2]
    exact (ok.1 y rfl).1
  · have nk : ∀ y, k ≠ .nm y := fun y e => z ⟨y, e⟩
    rw [trD_node nk] at e
    cases e
theorem fold_names : ∀ (ds : List PyData) (acc : List Str) (x : Str), x ∈ ds.foldl nmStepD acc → x ∈ acc ∨ PyData.str x ∈ ds
  | [], acc, x, h => .inl h
  | d :: ds, acc, x, h => by
    rw [List.foldl_cons] at h
    rcases fold_names ds _ x h with z | z
    · unfold nmStepD at z
      split at z
      · rename_i y
        unfold addS at z
        split at z
        · exact .inl z
        · rcases List.mem_append.mp z with z | z
          · exact .inl z
          · rw [List.mem_singleton] at z
            rw [z]
            exact .inr (List.mem_cons_self ..)
      · exact .inl z
    · exact .inr (List.mem_cons_of_mem _ z)
theorem nmsD_mem {d : PyData} {x : Str} (h : x ∈ nmsD d) : PyData.str x ∈ preD d := by
  rcases fold_names (preD d) [] x h with z | z
  · exact absurd z List.not_mem_nil
  · exact z
theorem wf_nsS {sg : Sg} {nms : List Str} {t : Tr} (hn : NmB sg nms) (gs : GSg sg) (hw : Wf sg nms t) (hz : t.size ≤ 1000) : NsS (trD t) where
  n := nest_tr t
  z := by rw [preD_tr, List.length_map, pre_len]; exact hz
  s := by
    intro k hk x e
    subst e
    have := isW_len (hn.w (wf_names hw x hk))
    omega
structure GLit (sg mk : Sg) (nms : List Str) (fl : Int) (l : Lit) : Prop where
  b : litB sg mk fl l = true
  s : LitS l
  n : ∀ x ∈ nmsD l.t, x ∈ nms
def spSizeN (K : PySem.W.Frag) (d : Nat) : Sp := fun vs H Q _ => ∃ (v : V) (t : Tr), vs = [v] ∧ TrAt K H t v ∧ t.dep ≤ d ∧ ∀ H', Same H H' → Q (.int t.size) H'
def spLli (K : PySem.W.Frag) : Sp := fun vs H Q _ => ∃ (a n g mm l : Addr) (sg mk : Sg) (fl : Int) (nms : List Str) (m : Int), vs = [.ref a, .ref g, .ref mm, .int fl, .ref l] ∧ StA H a n m ∧ m ≤ 500000 ∧ SgAt K H g sg ∧ GSg sg ∧ SgAt K H mm mk ∧ GMk sg mk ∧ (∃ s ∈ mk, s.2 = fl) ∧ H l = some (.lst (nms.map V.str)) ∧ l ≠ a ∧ nms ≠ [] ∧ nms.length ≤ 10 ∧ NmB sg nms ∧
  ∀ (v : V) (li : Lit) (H' : Hp), Dp K H' v (litD li) → GLit sg mk nms fl li → Fr a H H' → StA H' a n (m + 30) → Q v H'
structure GRul (sg mk : Sg) (r : Rul) : Prop where
  b : rulB sg mk r = true
  s : RulS r
def spLru (K : PySem.W.Frag) : Sp := fun vs H Q _ => ∃ (a n g mm : Addr) (sg mk : Sg) (m : Int), vs = [.ref a, .ref g, .ref mm] ∧ StA H a n m ∧ m ≤ 400000 ∧ SgAt K H g sg ∧ GSg sg ∧ SgAt K H mm mk ∧ GMk sg mk ∧
  ∀ (v : V) (r : Rul) (H' : Hp), Dp K H' v (rulD r) → GRul sg mk r → Fr a H H' → StA H' a n (m + 150) → Q v H'
end Pg

set_option Elab.async false
set_option linter.all false
set_option maxRecDepth 100000
set_option maxHeartbeats 4000000
namespace Pg
open PySem PySem.Spec PyProof.Rows L2
/-! ### the further names of a rule -/
theorem fur_inner {known : List Str} : ∀ (xs acc : List Str), acc.Nodup → (∀ x ∈ acc, x ∉ known) → (xs.foldl (furStep known) acc).Nodup ∧ ∀ x ∈ xs.foldl (furStep known) acc, x ∉ known ∧ (x ∈ acc ∨ x ∈ xs)
  | [], acc, h1, h2 => ⟨h1, fun x hx => ⟨h2 x hx, .inl hx⟩⟩
  | y :: xs, acc, h1, h2 => by
    rw [List.foldl_cons]
    have hs : (furStep known acc y).Nodup ∧ ∀ x ∈ furStep known acc y, x ∉ known ∧ (x ∈ acc ∨ x = y) := by
      unfold furStep addS
      split
      · exact ⟨h1, fun x hx => ⟨h2 x hx, .inl hx⟩⟩
      · rename_i hk
        split
        · exact ⟨h1, fun x hx => ⟨h2 x hx, .inl hx⟩⟩
        · rename_i ha
          refine ⟨List.nodup_append.mpr ⟨h1, by simp, fun a ha' b hb e => ?_⟩, fun x hx => ?_⟩
          · rw [List.mem_singleton] at hb
            rw [e, hb] at ha'
            exact ha ha'
          · rcases List.mem_append.mp hx with z | z
            · exact ⟨h2 x z, .inl z⟩
            · rw [List.mem_singleton] at z
              rw [z]
              exact ⟨hk, .inr rfl⟩
    obtain ⟨i1, i2⟩ := fur_inner xs (furStep known acc y) hs.1 (fun x hx => (hs.2 x hx).1)
    refine ⟨i1, fun x hx => ?_⟩
    obtain ⟨j1, j2⟩ := i2 x hx
    refine ⟨j1, ?_⟩
    rcases j2 with z | z
    · rcases (hs.2 x z).2 with y' | y'
      · exact .inl y'
      · rw [y']; exact .inr (List.mem_cons_self ..)
    · exact .inr (List.mem_cons_of_mem _ z)
theorem fur_outer {hd : PyData} : ∀ (bd : List Lit) (acc : List Str), acc.Nodup → (∀ x ∈ acc, x ∉ nmsD hd) → (bd.foldl (fun acc l => (nmsD l.t).foldl (furStep (nmsD hd)) acc) acc).Nodup ∧ ∀ x ∈ bd.foldl (fun acc l => (nmsD l.t).foldl (furStep (nmsD hd)) acc) acc, x ∉ nmsD hd ∧ (x ∈ acc ∨ ∃ l ∈ bd, x ∈ nmsD l.t)
  | [], acc, h1, h2 => ⟨h1, fun x hx => ⟨h2 x hx, .inl hx⟩⟩
  | l :: bd, acc, h1, h2 => by
    rw [List.foldl_cons]
    obtain ⟨s1, s2⟩ := fur_inner (nmsD l.t) acc h1 h2
    obtain ⟨i1, i2⟩ := fur_outer bd _ s1 (fun x hx => (s2 x hx).1)
    refine ⟨i1, fun x hx => ?_⟩
    obtain ⟨j1, j2⟩ := i2 x hx
    refine ⟨j1, ?_⟩
    rcases j2 with z | ⟨l', hl, z⟩
    · rcases (s2 x z).2 with y | y
      · exact .inl y
      · exact .inr ⟨l, List.mem_cons_self .., y⟩
    · exact .inr ⟨l', List.mem_cons_of_mem _ hl, z⟩
theorem nodup_one {xs : List Str} {w : Str} (h : xs.Nodup) (hw : ∀ x ∈ xs, x = w) : xs.length ≤ 1 := by
  cases xs with
  | nil => exact Nat.zero_le _
  | cons a xs =>
    cases xs with
    | nil => exact Nat.le_refl _
    | cons b xs =>
      have h1 := hw a (List.mem_cons_self ..)
      have h2 := hw b (List.mem_cons_of_mem _ (List.mem_cons_self ..))
      rw [List.nodup_cons] at h
      exact absurd (by rw [h1, ← h2]; exact List.mem_cons_self ..) h.1
theorem fur_one {hd : PyData} {bd : List Lit} {known : List Str} (h1 : ∀ l ∈ bd, ∀ x ∈ nmsD l.t, x ∈ known) (h2 : ∀ x ∈ known, x ∈ nmsD hd ∨ x = "w") : (furD hd bd).length ≤ 1 := by
  obtain ⟨i1, i2⟩ := fur_outer (hd := hd) bd [] List.nodup_nil (fun x hx => absurd hx List.not_mem_nil)
  refine nodup_one (w := "w") i1 fun x hx => ?_
  obtain ⟨j1, j2⟩ := i2 x hx
  rcases j2 with z | ⟨l, hl, z⟩
  · exact absurd z List.not_mem_nil
  · rcases h2 x (h1 l hl x z) with y | y
    · exact absurd y j1
    · exact y
/-- a head of a sign with different names -/
theorem head_sg {sg : Sg} {s : Str} {ns : List Str} (gs : GSg sg) (hs : (s, (ns.length : Int)) ∈ sg) (hn : NmB sg ns) (hd : ns.Nodup) : headB sg (.tuple (.str s :: ns.map .str)) = true := by
  show (nodB sg (.tuple (.str s :: ns.map .str)) && decide ((dcnt (hdNs sg (.str s :: ns.map .str)) : Int) = ((PyData.str s :: ns.map PyData.str).length : Int) - 1)) = true
  have e1 : hdNs sg (.str s :: ns.map .str) = ns := by
    unfold hdNs
    rw [List.drop_one, List.tail_cons, List.filter_eq_self.mpr (fun d hd => by
      obtain ⟨x, hx, rfl⟩ := List.mem_map.mp hd
      exact hn x hx), List.map_map]
    exact List.map_id ns
  rw [e1, dcnt_nd.mpr hd, show nodB sg (.tuple (.str s :: ns.map .str)) = true by
    show decide (numB sg s = ((ns.map PyData.str).length : Nat)) = true
    rw [List.length_map, numB_in gs.nd hs]
    exact decide_eq_true rfl, List.length_cons, List.length_map, Bool.true_and]
  exact decide_eq_true (by omega)
theorem nest_hd {s : Str} {ns : List Str} : nest (.tuple (.str s :: ns.map .str)) = true := by
  show nestAll (.str s :: ns.map .str) = true
  rw [nestAll, nest, Bool.true_and]
  induction ns with
  | nil => rfl
  | cons x ns ih => rw [List.map_cons, nestAll, nest, Bool.true_and]; exact ih
theorem pre_hd {s : Str} {ns : List Str} : preD (.tuple (.str s :: ns.map .str)) = .tuple (.str s :: ns.map .str) :: ns.map .str := by
  rw [preD_tup, List.drop_one, List.tail_cons]
  congr 1
  induction ns with
  | nil => rfl
  | cons x ns ih => rw [List.map_cons, List.flatMap_cons, ih]; rfl
theorem mem_addS {acc : List Str} {x y : Str} (h : y ∈ acc ∨ y = x) : y ∈ addS acc x := by
  unfold addS
  split
  · rename_i hx
    rcases h with h | h
    · exact h
    · rw [h]; exact hx
  · rcases h with h | h
    · exact List.mem_append_left _ h
    · rw [h]; exact List.mem_append_right _ (List.mem_singleton.mpr rfl)
theorem fold_in : ∀ (ds : List PyData) (acc : List Str) (x : Str), (x ∈ acc ∨ PyData.str x ∈ ds) → x ∈ ds.foldl nmStepD acc
  | [], acc, x, h => h.elim id fun z => absurd z List.not_mem_nil
  | d :: ds, acc, x, h => by
    rw [List.foldl_cons]
    refine fold_in ds _ x ?_
    rcases h with h | h
    · refine .inl ?_
      unfold nmStepD
      split
      · exact mem_addS (.inl h)
      · exact h
    · rcases List.mem_cons.mp h with z | z
      · rw [← z]
        exact .inl (mem_addS (.inr rfl))
      · exact .inr z
theorem in_nmsD {d : PyData} {x : Str} (h : PyData.str x ∈ preD d) : x ∈ nmsD d := fold_in _ [] x (.inr h)
end Pg
namespace Pg
open PySem PySem.Spec PyProof.Rows L2
def spLbk (K : PySem.W.Frag) : Sp := fun vs H Q _ => ∃ (a n : Addr) (mr m : Int), vs = [.ref a, .int 4, .int 6, .int mr] ∧ StA H a n m ∧ m ≤ 100000 ∧ 1 ≤ mr ∧ mr ≤ 24 ∧
  ∀ (b : Addr) (sg mk : Sg) (rs : List Rul) (H' : Hp), BkAt K H' b sg mk rs → GSg sg → GSgB sg → GMk sg mk → 1 ≤ rs.length → rs.length ≤ 24 → (∀ r ∈ rs, GRul sg mk r) → Fr a H H' → StA H' a n (m + 5000) → Q (.ref b) H'
theorem so_rul {rs : List Rul} (h : ∀ r ∈ rs, RulS r) : solid.solidAll (rs.map rulD) = true := solidAll_of fun d hd => by
  obtain ⟨r, hr, rfl⟩ := List.mem_map.mp hd
  exact (h r hr).so
end Pg

set_option Elab.async false
set_option linter.all false
set_option maxRecDepth 100000
set_option maxHeartbeats 4000000
namespace Pg
open PySem PySem.Spec PyProof.Rows L2
/-! ### enumerate(tuple) -/
set_option maxHeartbeats 4000000 in
theorem meets_enumerate_newT (l : Addr) (items : Array Value) (n : Nat) (dct : Option Addr) (sl : Array (Option Value)) :
    Meets (Builtin.«enumerate.__new__» ⟨[.type "enumerate", .ref l], []⟩) (fun _ R s => s.heap.get? l = some { cls := .type "tuple", dict := dct, data := .seq items n, slots := sl } ∧
      R (.ok (.ret (.ref (s.heap.push { cls := .type "tuple_iterator", data := .fields #[.ref l, .int 0 0] }).objs.size)))
        { s with heap := (s.heap.push { cls := .type "tuple_iterator", data := .fields #[.ref l, .int 0 0] }).push { cls := .type "enumerate", data := .fields #[.none, .bool false, .ref s.heap.objs.size, rawInt 0, .none, .none] } }) :=
  .of_wp fun prog w A R s h => by
    obtain ⟨hp, g, d, tk, os⟩ := s; obtain ⟨hl, h⟩ := h
    have hsub := sub_enumerate
    have hL : Heap.IsTuple (Shared.heap ⟨hp, g, d, tk, os⟩) l items := ⟨_, hl, rfl, n, rfl⟩
    wp_walk using AutoSeq1.wpAny_loadPart' hl
    refine wpAny_stack_any fun st => wpAny_pure ?_
    split
    · rename_i c _ _ _ _ _
      cases (c == Value.type "enumerate")
      · wp_walk using AutoSeq1.wpAny_loadPart' hl, wpAny_pyIter_tuple hL
        exact ⟨_, rfl, h⟩
      · wp_walk using AutoSeq1.wpAny_loadPart' hl, wpAny_pyIter_tuple hL
        exact ⟨_, rfl, h⟩
    · wp_walk using AutoSeq1.wpAny_loadPart' hl, wpAny_pyIter_tuple hL
      exact ⟨_, rfl, h⟩
theorem call_enumerate_tup {prog : Program} {w : World} {A : Around} {E : Value → Shared → Prop} {s : Shared} {l : Addr} {items : Array Value} {Q : Value → Shared → Prop} (hL : s.heap.IsTuple l items)
    (h : ∀ h', IsEnum h' (s.heap.objs.size + 1) s.heap.objs.size 0 .none → h'.IsTupleIter s.heap.objs.size l 0 → h'.objs.size = s.heap.objs.size + 2 →
      (∀ b o, s.heap.get? b = some o → h'.get? b = some o) → Q (.ref (s.heap.objs.size + 1)) { s with heap := h' }) :
    wpAny (model prog w) A (call (.type "enumerate") [.ref l]) Q E s := by
  obtain ⟨⟨c, dct, dt, sl⟩, hl, hc, n, hd⟩ := hL
  replace hc : c = .type "tuple" := hc
  replace hd : dt = .seq items n := hd
  subst hc hd
  refine callType_new F.called_enumerate (by decide) (F.typeCall_enumerate_1 _) (F.newCall_enumerate_1 _) (fun obj => F.args_object_init_2 obj _) F.entry_enumerate_new
    (meets_enumerate_newT l items n dct sl) ⟨hl, ?_⟩
  have hz : (s.heap.push { cls := .type "tuple_iterator", data := .fields #[.ref l, .int 0 0] }).objs.size = s.heap.objs.size + 1 := Heap.size_push ..
  show _ ∧ _
  rw [hz]
  have he : IsEnum ((s.heap.push { cls := .type "tuple_iterator", data := .fields #[.ref l, .int 0 0] }).push
      { cls := .type "enumerate", data := .fields #[.none, .bool false, .ref s.heap.objs.size, rawInt 0, .none, .none] }) (s.heap.objs.size + 1) s.heap.objs.size 0 .none := by
    have := Heap.get?_push_size (s.heap.push { cls := .type "tuple_iterator", data := .fields #[.ref l, .int 0 0] })
      (o := { cls := .type "enumerate", data := .fields #[.none, .bool false, .ref s.heap.objs.size, rawInt 0, .none, .none] }) rfl
    rw [hz] at this; exact this
  refine ⟨⟨_, he, rfl⟩, h _ he ⟨_, Heap.get?_push_of_some _ (Heap.get?_push_size _ rfl), rfl, rfl⟩ (by rw [Heap.size_push, hz]) fun b o x => Heap.get?_push_of_some _ (Heap.get?_push_of_some _ x)⟩
/-- the tuple at a, each item in a new pair -/
def IteT (K : PySem.W.Frag) (a : Addr) : It :=
  ⟨fun i H => ∃ (xs : List V) (x : V), SqT K H a xs ∧ xs[i]? = some x, fun i H v H' => ∃ T x, v = .ref T ∧ H T = none ∧ H' = upd H T (.tup [.int (i : Nat), x]) ∧ ∀ xs, SqT K H a xs → xs[i]? = some x, fun i H => ∃ xs : List V, SqT K H a xs ∧ xs.length = i⟩
theorem turn_enumT {P : Program} {w : World} {K : PySem.W.Frag} {elts : List Expr} {kk : Nat} {tpos : Pos} (a e it : Addr) :
    Turn P w K (.Tuple elts kk tpos) (IteT K a) [e, it] e (fun i h => (∃ old, IsEnum h e it ((i : Nat) : Int) old) ∧ h.IsTupleIter it a i ∧ e ≠ it ∧ a ≠ e ∧ a ≠ it) where
  mem := by simp
  obj := fun i h st b hb => by
    obtain ⟨⟨old, he⟩, ⟨o, ho, hc, hd⟩, _⟩ := st
    have e' : b = e ∨ b = it := by simpa using hb
    rcases e' with z | z
    · rw [z]; exact ⟨_, he, fun v q => nomatch q⟩
    · rw [z]; exact ⟨o, ho, fun v q => by rw [hd] at q; cases q⟩
  keep := fun i h h' st k => let ⟨⟨old, he⟩, hi, hne⟩ := st; ⟨⟨old, k e (by simp) _ he⟩, hi.at fun o q => k it (by simp) o q, hne⟩
  item := by
    intro X hP hw hK hc i pins s σ H E I hf st hg
    subst hP hw hK
    obtain ⟨⟨old, he⟩, hit, hne, hae, hai⟩ := st
    obtain ⟨xs, x, hq, hx⟩ := hg
    obtain ⟨its, rv, p, hz⟩ := I.tuple hq
    obtain ⟨u, hu, ru⟩ := rv.get hx
    have hel : e < s.heap.objs.size := Heap.lt_size he
    have hil : it < s.heap.objs.size := by obtain ⟨_, q, _⟩ := hit; exact Heap.lt_size q
    have hlt : i < its.toArray.size := by
      have := (List.getElem?_eq_some_iff.mp hu).1
      simpa using this
    have D := Draws.tuple (prog := X.prog) (w := X.w) (A := X.A.in1) (I.ok.hd hc) it a hai its.toArray
    refine wpAny_pyNext_enum_itemD D he ⟨hit, p⟩ hlt hne (by simp [hne, Ne.symm hae]) fun x' h' tk hPx ho hst' hT hsz hk => ?_
    have ex' : x' = u := by
      have h1 : its[i]? = some x' := by simpa using hPx
      rw [hu] at h1
      exact (Option.some.inj h1).symm
    subst ex'
    have hit' := hst'.1
    refine ⟨_, rfl, wpAny_letOwnedTupleGo_enum (s := { s with heap := h', toks := tk + 1 }) ho fun h'' he' sb => ?_⟩
    have hT2 : h''.get? s.heap.objs.size = some { cls := .type "tuple", data := .seq #[.int i tk, x'] } := (sb.2 _ (Nat.ne_of_gt hel)).trans hT
    have new : ObjOk X.prog X.w (upd H s.heap.objs.size (.tup [.int (i : Nat), x])) h'' s.heap.objs.size (.tup [.int (i : Nat), x]) :=
      ⟨by show 2 ≤ sizeLine; decide, [.int i tk, x'], .cons ⟨_, rfl⟩ (.cons ru .nil), ⟨_, hT2, rfl, _, rfl⟩⟩
    have I1 : Inv X pins σ (upd H s.heap.objs.size (.tup [.int (i : Nat), x])) { s with heap := h'', toks := tk + 1 } :=
      I.turnedNew (ch := [e, it]) (fun b ob hb q => (sb.2 b (fun z => hb (by simp [z]))).trans (hk b ob (fun z => hb (by simp [z])) (fun z => hb (by simp [z])) q)) hf (Nat.le_refl _) new
    refine ⟨.ref s.heap.objs.size, _, I1, rfl, ⟨_, x, rfl, I.hok.fresh (Nat.le_refl _), rfl, fun ys hy => by rw [I.tuple_inj hy hq]; exact hx⟩, ⟨⟨x', ?_⟩, hit'.at fun o q => (sb.2 it (Ne.symm hne)).trans q, hne, hae, hai⟩, fun b hb => ?_⟩
    · have e1 : ((i + 1 : Nat) : Int) = (i : Int) + 1 := by omega
      rw [e1]; exact he'
    · have hb' : b < s.heap.objs.size := by
        have e' : b = e ∨ b = it := by simpa using hb
        rcases e' with z | z
        · rw [z]; exact hel
        · rw [z]; exact hil
      rw [upd_ne (Nat.ne_of_lt hb')]
      exact (hf b hb).1
  done := by
    intro X hP hw hK hc i pins s σ H E I hf st hg
    subst hP hw hK
    obtain ⟨⟨old, he⟩, hit, hne, hae, hai⟩ := st
    obtain ⟨xs, hq, hx⟩ := hg
    obtain ⟨its, rv, p, hz⟩ := I.tuple hq
    obtain ⟨f0, f1, f2, f3, f4, f5⟩ := hf it (by simp)
    have hl := rv.length
    have D := Draws.tuple (prog := X.prog) (w := X.w) (A := X.A.in1) (I.ok.hd hc) it a hai its.toArray
    have hi : i = its.toArray.size := by simp; omega
    exact wpAny_pyNext_enum_endD D he (by rw [← hi]; exact ⟨hit, p⟩) fun h' eb => ⟨rfl, I.turned (t' := s.toks) (fun b o hb q => eb b o hb q) f0 f1 f3 f4 f5⟩
  self := fun A i s Q E st h => let ⟨⟨_, he⟩, _⟩ := st; wpAny_pyIter_enum he h
def iEnumT (K : PySem.W.Frag) (ta : TA) : TI := fun σ H R => ta σ H fun vs H1 => ∃ a xs, vs = [.ref a] ∧ SqT K H1 a xs ∧ R (IteT K a) H1
theorem pi_enumT {X : Cx} {e : Expr} {ta : TA} {p pos tpos : Pos} {elts : List Expr} {kk : Nat} (hg : Gl X "enumerate") (hm : X.mg "enumerate" = none) (ha : PA X [e] ta) (hs : starEach [e] X.env = [(false, eval e X.env)] := by rfl) :
    PI X (.Tuple elts kk tpos) (.Call (.Name "enumerate" p) [e] [] pos) (iEnumT X.K ta) := by
  refine ⟨fun pins s σ H R I h => ?_⟩
  refine Call_ (ld_blt I hg hm boot_enumerate (PyProof.Rows.callWith_type1 (thn (ha.run pos pins s σ H _ I h) fun us s1 ⟨vs, H1, I1, r1, q1⟩ => ?_) hs rfl))
  obtain ⟨a, xs, ex, hq, q⟩ := q1
  subst ex
  cases r1 with
  | cons r rr =>
    cases rr
    cases r
    obtain ⟨its, rv, p', hz⟩ := I1.tuple hq
    have hal : a < s1.heap.objs.size := by obtain ⟨_, q, _⟩ := p'; exact Heap.lt_size q
    refine call_enumerate_tup p' fun h' he hit hsz hk => wpAny_pyIter_enum he ?_
    have I2 : Inv X pins σ H1 { s1 with heap := h' } := I1.kept (t' := s1.toks) hk
    refine ⟨s1.heap.objs.size + 1, [s1.heap.objs.size + 1, s1.heap.objs.size], _, _, H1, rfl, I2, turn_enumT a (s1.heap.objs.size + 1) s1.heap.objs.size, ⟨⟨.none, he⟩, hit, Nat.succ_ne_self _, Nat.ne_of_lt (Nat.lt_succ_of_lt hal), Nat.ne_of_lt hal⟩, fun b hb => ?_, q⟩
    have e' : b = s1.heap.objs.size + 1 ∨ b = s1.heap.objs.size := by simpa using hb
    have hle : s1.heap.objs.size ≤ b := by
      rcases e' with z | z
      · rw [z]; exact Nat.le_add_right _ _
      · rw [z]; exact Nat.le_refl _
    exact I1.fpOk hle (I1.hok.fresh hle)
section
variable {X : Cx}
/-- name = {..} on one line, the name a local -/
theorem ps_setDc {i : Nat} {y : Str} {py : Pos} {kx vx tg iter : Expr} {ifs : List Expr} {scope : Scope} {own : List (Str × Nat)} {pos spos : Pos} {wi : TI} {g : TG} {tt : TT} {tk tv : TE} (hc : X.calm = true) (hN : X.N.Nodup) (hy : X.N[i]? = some y) (hyl : X.env.scope.names.lookup y = some .local)
    (hsw : swapsWith (.DictComp kx vx [⟨tg, iter, ifs, 0⟩] scope pos) (some (.Name y py)) spos.line X.env = pure true) (hi : PI X tg iter wi) (ok : BlkOk X.N X.env.scope scope own)
    (hg : ∀ (s : Shared) (H : Hp) (C : Addr) (cl : List (Str × Addr)) (fp : List Addr), PG (X.blk s H scope (compEnvC scope cl C X.env) fp) tg g) (ht : ∀ (s : Shared) (H : Hp) (C : Addr) (cl : List (Str × Addr)) (fp : List Addr), PTs (X.blk s H scope (compEnvC scope cl C X.env) fp) ifs tt)
    (hk : ∀ (s : Shared) (H : Hp) (C : Addr) (cl : List (Str × Addr)) (fp : List Addr), PE (X.blk s H scope (compEnvC scope cl C X.env) fp) kx tk)
    (he : ∀ (s : Shared) (H : Hp) (C : Addr) (cl : List (Str × Addr)) (fp : List Addr), PE (X.blk s H scope (compEnvC scope cl C X.env) fp) vx tv) (hs : ∀ x, foldedSetIterable iter X.env x = pure x := by intro _; rfl) :
    PS X (.Assign [.Name y py] (.DictComp kx vx [⟨tg, iter, ifs, 0⟩] scope pos) spos) (tAsg (tDc wi g tt tk tv (own.map (·.2))) (gName i)) := by
  refine ⟨fun pins s σ H D I h => ?_⟩
  rw [exec_Assign_Name_used _ _ _ _ hsw]
  refine wpAny_bind (wpAny_standAt (wpAny_bind ?_))
  show wpAny _ X.A (do let _ ← comprehension (.DictComp kx vx [⟨tg, iter, ifs, 0⟩] scope pos) scope X.env (firstIterPos [⟨tg, iter, ifs, 0⟩] pos) newDict false (eval iter X.env) (some (assign (.Name y py) X.env))) _ _ s
  have h : tDc wi g tt tk tv (own.map (·.2)) σ H (fun x H1 => gName i x σ H1 D.nx) := h
  refine wpAny_bind (thn (dc_core (Qf := fun _ s' => SP X pins D .next s') hc hN I hi ok hg ht hk he hs h fun L C s' m H' I' q hn f => ?_) fun _ s' hq => wpAny_pure (wpAny_pure hq))
  show wpAny _ _ (assign (.Name y py) X.env (.ref L)) _ _ _
  refine wpAny_assign_Name (store_ok2 (v := V.ref L) I' hN hy (.inl hyl) rfl (fun s2 I2 ⟨a, sb, ha⟩ => ?_) (.inr hyl))
  obtain ⟨f0, f1, f2, f3, f4, f5⟩ := f
  have haC : C ≠ a := by
    rcases ha with z | z
    · rw [z]; exact f1
    · exact fun e => f4 y a z e.symm
  refine ⟨m, hn.sameBut sb haC, fun h3 sb3 => ?_⟩
  exact ⟨_, H', I2.turned (t' := s2.toks) (fun b o hb e => (sb3.2 b hb).trans e) f0 f1 f3 f4 f5, q⟩
theorem swD_true {kx vx : Expr} {gs : List Comprehension} {scope : Scope} {pos py : Pos} {y : Str} {l : Nat} {env : Env} (hk : env.scope.kind = .function) (hy : env.scope.names.lookup y = some .local) (hl : (py.line == pos.line) = true)
    (ha : (scope.names.any fun (n, k) => n == y && (k == .local || k == .cell)) = false) : swapsWith (.DictComp kx vx gs scope pos) (some (.Name y py)) l env = pure true := by
  have ky : env.kindOf y = some .local := hy
  have hb : env.blockKind = .function := by unfold Env.blockKind; rw [hk]; rfl
  unfold swapsWith
  simp only [hb, ky, ha, Expr.pos, hl]
  rfl
end
/-! ### dict comprehensions over any walk -/
/-- a dict comprehension over a walk: Pv by the turn and the heap (the new dict at D within) -/
theorem dc_any {J : It} {n : Nat} {g : TG} {tt : TT} {tk tv : TE} {vs : List Nat} {σ : L2.St} {H1 : Hp} {D : Addr} {Qd : Hp → Prop} (Pv : Nat → Hp → Prop) (h0 : Pv 0 (upd H1 D (.dK [])))
    (hgo : ∀ i H, i < n → Pv i H → J.go i H) (hstop : ∀ H, Pv n H → J.stop n H)
    (hs : ∀ i x H H', i < n → Pv i H → J.yld i H x H' → g x (wipe σ vs) H' fun σ2 H2 => wipe σ2 vs = wipe σ vs ∧ tt σ2 H2 fun b H3 =>
      if b = true then tk σ2 H3 fun y H4 => tv σ2 H4 fun z H5 => ∃ kvs k, y = kV k ∧ H5 D = some (.dK kvs) ∧ kvs.length < sizeLine ∧ Pv (i + 1) (upd H5 D (.dK (putK kvs k z))) else Pv (i + 1) H3) (hd : ∀ H, Pv n H → Qd H) :
    ∃ W : Nat → Nat → Hp → Prop, (∃ m, W 0 m (upd H1 D (.dK []))) ∧ ∀ i m H, W i m H →
      (J.stop i H ∧ Qd H) ∨ (J.go i H ∧ ∃ Nx : Hp → Prop, (∀ H', Nx H' → ∃ m', m' < m ∧ W (i + 1) m' H') ∧ ∀ x H', J.yld i H x H' → g x (wipe σ vs) H' fun σ2 H2 => wipe σ2 vs = wipe σ vs ∧ tt σ2 H2 fun b H3 =>
        if b = true then tk σ2 H3 fun y H4 => tv σ2 H4 fun z H5 => ∃ kvs k, y = kV k ∧ H5 D = some (.dK kvs) ∧ kvs.length < sizeLine ∧ Nx (upd H5 D (.dK (putK kvs k z))) else Nx H3) := by
  refine ⟨fun i m H => m = n - i ∧ i ≤ n ∧ Pv i H, ⟨n, by simp, Nat.zero_le _, h0⟩, ?_⟩
  rintro i m H ⟨rfl, hi, p⟩
  by_cases hlt : i < n
  · exact .inr ⟨hgo i H hlt p, Pv (i + 1), fun H' p' => ⟨n - (i + 1), by omega, rfl, hlt, p'⟩, fun x H' y => hs i x H H' hlt p y⟩
  · have e : i = n := by omega
    subst e
    exact .inl ⟨hstop H p, hd H p⟩
/-- pairs of keys that are all different, put one after the other -/
theorem putK_new {kvs : List (Key × V)} {k : Key} {v : V} (h : k ∉ kvs.map (·.1)) : putK kvs k v = kvs ++ [(k, v)] := by
  unfold putK
  rw [if_neg]
  intro e
  obtain ⟨p, hp, e2⟩ := List.any_eq_true.mp e
  exact h (List.mem_map.mpr ⟨p, hp, of_decide_eq_true e2⟩)
end Pg

set_option Elab.async false
set_option linter.all false
set_option maxRecDepth 100000
set_option maxHeartbeats 4000000
namespace Pg
open PySem PySem.Spec PyProof.Rows L2
theorem walk_enT {K : PySem.W.Frag} {a : Addr} {xs : List V} {n : Nat} (hn : n = xs.length) : Walk (IteT K a) n (fun H => SqT K H a xs) (fun i H v H' => ∃ (T : Addr) (y : V), v = .ref T ∧ H T = none ∧ H' = upd H T (.tup [.int (i : Nat), y]) ∧ xs[i]? = some y) := by
  subst hn
  refine ⟨fun i _ hi q => ?_, fun _ q => ⟨xs, q, rfl⟩, fun i H v H' _ q y => ?_⟩
  · exact ⟨xs, xs[i], q, List.getElem?_eq_getElem hi⟩
  · obtain ⟨T, x, h1, h2, h3, h4⟩ := y
    exact ⟨T, x, h1, h2, h3, h4 xs q⟩
/-- the numbers of those of ks for which b -/
def idxs {α : Type} (b : α → Bool) (ks : List α) : List Nat := (List.range ks.length).filter fun i => match ks[i]? with
  | some k => b k
  | none => false
theorem rd_enIf {K : PySem.W.Frag} {σ : L2.St} {H : Hp} {Q : VK} {p : Addr} {us : List V} {α : Type} {ks : List α} {i j1 j2 : Nat} {tt : TT} (F : V → α → Prop) (b : α → Bool) (hi : σ[i]? = some (some (.ref p))) (hS : SqT K H p us) (pr : Paired F us ks) (hlen : ks.length ≤ 1000)
    (hw : ∀ x y, wipe (((wipe σ [j1, j2]).set j1 (some x)).set j2 (some y)) [j1, j2] = wipe σ [j1, j2]) (hj : ∀ x y, (((wipe σ [j1, j2]).set j1 (some x)).set j2 (some y))[j1]? = some (some x))
    (htt : ∀ (x y : V) k H', k ∈ ks → F y k → Same H H' → ∀ Q' : Bool → Hp → Prop, (∀ H2, Same H' H2 → Q' (b k) H2) → tt (((wipe σ [j1, j2]).set j1 (some x)).set j2 (some y)) H' Q')
    (h : ∀ D H', H D = none → Same H H' → H' D = some (.lst ((idxs b ks).map fun n => V.int (n : Nat))) → Q (.ref D) H') :
    tLc (iEnumT K (tCons (tVar i) tNil)) (gTup K 2 (gCons (gName j1) (gCons (gName j2) gNil))) tt (tVar j1) [j1, j2] σ H Q := by
  refine ⟨_, hi, p, _, rfl, hS, fun D nD => ?_⟩
  have hul := paired_len pr
  refine lc_it (walk_enT (K := K) (a := p) (xs := us) (n := ks.length) hul.symm) (fun i H' => Same H H' ∧ H' D = some (.lst (((List.range i).filter fun i => match ks[i]? with | some k => b k | none => false).map fun n => V.int (n : Nat)))) ⟨Same.new nD, upd_same⟩ (fun i H' _ iv => TK.same iv.1 _ _ hS) (fun i y H' H'' hi' iv yv => ?_) (fun H' iv => ?_)
  · obtain ⟨T, y', rfl, nT, rfl, hy⟩ := yv
    obtain ⟨sm, hd⟩ := iv
    obtain ⟨k, ek, hk⟩ := Pg.paired_get pr hy
    have hd2 : (upd H' T (.tup [.int (i : Nat), y'])) D = some (.lst (((List.range i).filter fun i => match ks[i]? with | some k => b k | none => false).map fun n => V.int (n : Nat))) := by rw [upd_ne (ne_of_none hd nT)]; exact hd
    have sm2 := sm.trans (Same.new (o := .tup [.int (i : Nat), y']) nT)
    refine ⟨T, _, rfl, SqT.mk upd_same, rfl, _, _, rfl, _, _, rfl, rfl, hw _ _, ?_⟩
    refine htt _ _ k _ (List.mem_of_getElem? ek) hk sm2 _ fun H2 s2 => if_of (fun e1 => ?_) (fun e1 => ?_)
    · refine ⟨_, hj _ _, _, s2 _ _ hd2, ?_, Same.mut nD (sm2.trans s2), ?_⟩
      · have := List.length_filter_le (fun i => match ks[i]? with | some k => b k | none => false) (List.range i)
        rw [List.length_range] at this
        rw [List.length_map]
        exact smallN (by omega)
      · rw [upd_same, List.range_succ, List.filter_append, List.filter_cons_of_pos (by rw [ek]; exact e1), List.map_append]
        rfl
    · refine ⟨sm2.trans s2, ?_⟩
      rw [s2 _ _ hd2, List.range_succ, List.filter_append, List.filter_cons_of_neg (by rw [ek]; show ¬ b k = true; rw [e1]; decide)]
      simp
  · exact h D H' nD iv.1 iv.2
def spFlo (K : PySem.W.Frag) (MI : Addr) : Sp := fun vs H Q E => ∃ (b : Addr) (sg mk : Sg) (rs : List Rul) (x : Str), vs = [.ref b, .str x] ∧ BkAt K H b sg mk rs ∧ mk.length ≤ 1000 ∧ x.length ≤ 100000 ∧ (0 ≤ numB mk x → ∀ H', Same H H' → Q (.int (numB mk x)) H') ∧ (¬ 0 ≤ numB mk x → ∀ H', Same H H' → E (.ref MI) none H')
def spRof (K : PySem.W.Frag) : Sp := fun vs H Q _ => ∃ (b : Addr) (sg mk : Sg) (rs : List Rul) (fl : Int), vs = [.ref b, .int fl] ∧ BkAt K H b sg mk rs ∧ mk.length ≤ 1000 ∧ rs.length ≤ 1000 ∧ (∀ r ∈ rs, RulS r) ∧
  ∀ p H', H p = none → Same H H' → H' p = some (.lst ((idxs (fun r : Rul => decide (numB mk r.mw = fl)) rs).map fun n => V.int (n : Nat))) → Q (.ref p) H'
end Pg

set_option Elab.async false
set_option linter.all false
set_option maxRecDepth 100000
set_option maxHeartbeats 0
namespace Pg
open PySem PySem.Spec PyProof.Rows L2
/-- the law's def is called from outside, where no repr is under way: its promise over the heap in which the script alone is tracked -/
theorem law_callG {P : Program} {w : World} {K : PySem.W.Frag} {mg mb : Str → Option Value} {k : Nat} {fa a : Addr} {fd : FuncData} {x : Str} {sp : Sp} {s₁ : Shared} {vs : List Value} {ns : List Int}
    (KX : K.In s₁.heap) (hns : s₁.heap.Ns mainGlobals mg) (hb : s₁.heap.Ns builtinsNs mb) (hbb : ∀ x : Str, x ≠ "__name__" → mb x = bootBuiltins x) (hlim : s₁.heap.NoLimit) (hg : s₁.gens = #[])
    (ha : s₁.heap.get? a = some { cls := .type "list", data := .seq vs.toArray }) (hi : IntsAre vs ns) (hl : ns.length ≤ sizeLine) (hr : Room k callerA) (hgd : callerA.guards = some [])
    (F : ∀ base : Heap, K.In base → base.Ns mainGlobals mg → FnG P w K mg base k fa fd [x] sp) (hbind : ∀ (s : Shared) (u : Value), BindsTo s fd ⟨[u], []⟩ [(x, u)])
    (hsp : ∀ H : Hp, SqL K H a (ns.map V.int) → sp [.ref a] H (fun v _ => v = .bl true) E0) :
    codeAny (model P w) callerA (.call (.ref fa) ⟨[.ref a], []⟩) (fun r s' => r = .ok (.ret (.bool true)) ∧ OldK s₁.heap s'.heap ∧ s'.os = s₁.os ∧ AllBare s'.gens) s₁ := by
  have rv := vals_ints hi
  obtain ⟨H, own, hS, hok⟩ : ∃ H : Hp, (∀ b u, H b = some u → b = a ∧ K.lookup a = none ∧ ∃ ob xs, u = .frz ob (.lst xs)) ∧ SqL K H a (ns.map V.int) ∧ HOk P w H s₁.heap := by
    cases hk : K.lookup a with
    | some o =>
      have e := (KX a o hk).symm.trans ha
      cases e
      exact ⟨fun _ => none, fun b u z => (by cases z), .inr ⟨_, vs.toArray, _, hk, rfl, rfl, rfl, by rw [List.size_toArray, hi.length]; exact hl, by simpa using rv⟩, fun b u z => by cases (show (none : Option HO) = some u from z)⟩
    | none =>
      refine ⟨upd (fun _ => none) a (.frz { cls := .type "list", data := .seq vs.toArray } (.lst (ns.map V.int))), fun b u z => ?_, .inl (.inr ⟨_, upd_same⟩), fun b u z => ?_⟩
      · by_cases e : b = a
        · subst e
          rw [upd_same] at z
          exact ⟨rfl, rfl, _, _, (Option.some.inj z).symm⟩
        · rw [upd_ne e] at z
          cases z
      · by_cases e : b = a
        · subst e
          rw [upd_same] at z
          cases z
          exact ⟨ha, by rw [List.length_map]; exact hl, vs, _, rv, ha⟩
        · rw [upd_ne e] at z
          cases z
  have stay : ∀ {b : Addr} {o : Obj}, s₁.heap.get? b = some o → H b = none → (hidT s₁.heap H).get? b = some o := fun e z => hidT_get e z
  have ofK : ∀ {b : Addr} {o : Obj}, K.lookup b = some o → H b = none := fun {b o} e => by
    cases z : H b with
    | none => rfl
    | some u =>
      obtain ⟨rfl, h2, _⟩ := own b u z
      rw [h2] at e
      cases e
  have ofD : ∀ {b : Addr} {o : Obj} {es : Array DictEntry} {ep : Nat}, s₁.heap.get? b = some o → o.data = .dict es ep → H b = none := fun {b o es ep} e d => by
    cases z : H b with
    | none => rfl
    | some u =>
      obtain ⟨rfl, _, _⟩ := own b u z
      rw [ha] at e
      cases e
      cases (show Data.seq vs.toArray _ = Data.dict es ep from d)
  have names : ∀ {b : Addr} {m : Str → Option Value}, s₁.heap.Ns b m → (hidT s₁.heap H).Ns b m := fun ⟨o, es, ep, e, d, r⟩ => ⟨o, es, ep, stay e (ofD e d), d, r⟩
  have inK : K.In (hidT s₁.heap H) := fun b o e => stay (KX b o e) (ofK e)
  have hM : Mod K mg (hidT s₁.heap H) := ⟨inK, names hns, ⟨mb, names hb, hbb⟩, let ⟨mc, h1, h2⟩ := hlim; ⟨mc, names h1, h2⟩⟩
  have e0 : Env0 P w K mg (hidT s₁.heap H) callerA [] s₁ H := ⟨rfl, hM, fun b o e => of_hidT e, Nat.le_of_eq (hidT_size _ _), trivial, fun b hb => absurd (show b ∈ ([] : List Addr) from hb) (by simp), hok, .of_eq hg⟩
  refine codeAny_mono ((F _ inK (names hns)).run callerA [] s₁ H ⟨[.ref a], []⟩ [.ref a] [.ref a] _ hgd hr e0 (hbind s₁ (.ref a)) (.cons rfl .nil) (hsp H hS)) fun r s' h => ?_
  cases r with
  | error e => exact (show False from h).elim
  | ok fl =>
    cases fl with
    | next => exact False.elim h
    | brk => exact False.elim h
    | cont => exact False.elim h
    | ret u =>
      obtain ⟨v, H', os, bare, un, hok', r', q⟩ := h
      obtain rfl : v = .bl true := q
      obtain rfl : u = Value.bool true := r'
      refine ⟨rfl, OldK.of_keep fun b o e => ?_, os, bare⟩
      cases z : H b with
      | none => exact un.keep b o e z (by intro y; exact absurd (show b ∈ ([] : List Addr) from y) (by simp)) (by simp)
      | some u =>
        obtain ⟨_, _, ob, xs, rfl⟩ := own b u z
        have e1 := (hok b _ z).1
        have e2 := (hok' b _ (un.frzs b ob _ z)).1
        rw [e] at e1
        cases e1
        exact e2
end Pg

set_option Elab.async false
set_option linter.all false
set_option maxRecDepth 100000
set_option maxHeartbeats 0
namespace Pg
open PySem PySem.Spec PyProof.Rows L2 LamX NdefX
abbrev noCodes : Obj := { cls := .none, data := .fields #[] }
/-- law_callG, where defs of the program make lambdas: js, their code objects and tables -/
theorem law_callTG {P : Program} {w : World} {K : PySem.W.Frag} {mg mb : Str → Option Value} {k : Nat} {fa a : Addr} {js : List (Addr × Addr)} {fd : FuncData} {x : Str} {sp : Sp} {s₁ : Shared} {vs : List Value} {ns : List Int}
    (KX : K.In s₁.heap) (hns : s₁.heap.Ns mainGlobals mg) (hb : s₁.heap.Ns builtinsNs mb) (hbb : ∀ x : Str, x ≠ "__name__" → mb x = bootBuiltins x) (hlim : s₁.heap.NoLimit) (hg : s₁.gens = #[])
    (tabs : ∀ j ∈ js, s₁.heap.get? j.2 = some noCodes ∧ K.lookup j.2 = none ∧ PySem.W.codeHdIn K j.1 j.2 = true)
    (hmod : ∃ (bm : Addr) (ob : Obj), mg "__builtins__" = some (.ref bm) ∧ bm ≠ builtinsNs ∧ s₁.heap.get? bm = some ob ∧ ob.cls = .type "module" ∧ ob.dict = some builtinsNs ∧ ob.data = .plain)
    (ha : s₁.heap.get? a = some { cls := .type "list", data := .seq vs.toArray }) (hi : IntsAre vs ns) (hl : ns.length ≤ sizeLine) (hr : Room k callerA) (hgd : callerA.guards = some [])
    (F : ∀ base : Heap, K.In base → base.Ns mainGlobals mg → (∀ j ∈ js, TabB base mg j.1 j.2) → FnG P w K mg base k fa fd [x] sp) (hbind : ∀ (s : Shared) (u : Value), BindsTo s fd ⟨[u], []⟩ [(x, u)])
    (hsp : ∀ H : Hp, (∀ j ∈ js, H j.2 = some (.tbl #[])) → SqL K H a (ns.map V.int) → sp [.ref a] H (fun v _ => v = .bl true) E0) :
    codeAny (model P w) callerA (.call (.ref fa) ⟨[.ref a], []⟩) (fun r s' => r = .ok (.ret (.bool true)) ∧ OldK s₁.heap s'.heap ∧ s'.os = s₁.os ∧ AllBare s'.gens) s₁ := by
  have rv := vals_ints hi
  have nota : ∀ j ∈ js, j.2 ≠ a := fun j hj e => by
    have q := (tabs j hj).1
    rw [e, ha] at q
    cases (show Data.seq vs.toArray _ = Data.fields #[] from congrArg Obj.data (Option.some.inj q))
  -- the script alone
  obtain ⟨G, ownG, atG, outG, hSG, okG⟩ : ∃ G : Hp, (∀ b u, G b = some u → b = a ∧ K.lookup a = none ∧ ∃ ob xs, u = .frz ob (.lst xs)) ∧ (∀ b, b ≠ a → G b = none) ∧ (∀ H : Hp, H a = G a → SqL K H a (ns.map V.int)) ∧ SqL K G a (ns.map V.int) ∧ ∀ u, G a = some u → ∀ H : Hp, ObjOk P w H s₁.heap a u := by
    cases hk : K.lookup a with
    | some o =>
      have e := (KX a o hk).symm.trans ha
      cases e
      have rd : ∀ H : Hp, SqL K H a (ns.map V.int) := fun H => .inr ⟨_, vs.toArray, _, hk, rfl, rfl, rfl, by rw [List.size_toArray, hi.length]; exact hl, by simpa using rv⟩
      exact ⟨fun _ => none, fun b u z => (by cases z), fun _ _ => rfl, fun H _ => rd H, rd _, fun u z => (by cases z)⟩
    | none =>
      refine ⟨upd (fun _ => none) a (.frz { cls := .type "list", data := .seq vs.toArray } (.lst (ns.map V.int))), fun b u z => ?_, fun b nb => upd_ne nb, fun H z => .inl (.inr ⟨_, z.trans upd_same⟩), .inl (.inr ⟨_, upd_same⟩), fun u z H => ?_⟩
      · by_cases e : b = a
        · subst e
          rw [upd_same] at z
          exact ⟨rfl, rfl, _, _, (Option.some.inj z).symm⟩
        · rw [upd_ne e] at z
          cases z
      · rw [upd_same] at z
        cases z
        exact ⟨ha, by rw [List.length_map]; exact hl, vs, _, rv, ha⟩
  -- and the tables
  obtain ⟨H, hH⟩ : ∃ H : Hp, H = fun b => if b ∈ js.map (·.2) then some (HO.tbl #[]) else G b := ⟨_, rfl⟩
  have inJ : ∀ {b : Addr}, b ∈ js.map (·.2) → H b = some (.tbl #[]) ∧ s₁.heap.get? b = some noCodes ∧ K.lookup b = none ∧ ∃ c, PySem.W.codeHdIn K c b = true := fun {b} h => by
    obtain ⟨j, hj, e⟩ := List.mem_map.mp h
    obtain ⟨t1, t2, t3⟩ := tabs j hj
    subst e
    exact ⟨by rw [hH]; exact if_pos h, t1, t2, j.1, t3⟩
  have outJ : ∀ {b : Addr}, b ∉ js.map (·.2) → H b = G b := fun {b} h => by rw [hH]; exact if_neg h
  have aJ : a ∉ js.map (·.2) := fun h => by
    obtain ⟨j, hj, e⟩ := List.mem_map.mp h
    exact nota j hj e
  have own : ∀ b u, H b = some u → (b = a ∧ K.lookup a = none ∧ ∃ ob xs, u = .frz ob (.lst xs)) ∨ (b ∈ js.map (·.2) ∧ u = .tbl #[]) := fun b u z => by
    by_cases h : b ∈ js.map (·.2)
    · rw [(inJ h).1] at z
      exact .inr ⟨h, (Option.some.inj z).symm⟩
    · rw [outJ h] at z
      exact .inl (ownG b u z)
  have ok : HOk P w H s₁.heap := fun b u z => by
    by_cases h : b ∈ js.map (·.2)
    · rw [(inJ h).1] at z
      cases z
      exact (inJ h).2.1
    · rw [outJ h] at z
      obtain ⟨e, _⟩ := ownG b u z
      subst e
      exact okG u z H
  have clear : ∀ {b : Addr} {o : Obj}, s₁.heap.get? b = some o → (∀ vs n, o.data ≠ .seq vs n) → o.data ≠ .fields #[] → H b = none := fun {b o} e n1 n2 => by
    cases z : H b with
    | none => rfl
    | some u =>
      rcases own b u z with ⟨eb, _⟩ | ⟨h, _⟩
      · rw [eb, ha] at e
        cases e
        exact (n1 _ _ rfl).elim
      · rw [(inJ h).2.1] at e
        cases e
        exact (n2 rfl).elim
  have ofK : ∀ {b : Addr} {o : Obj}, K.lookup b = some o → H b = none := fun {b o} e => by
    cases z : H b with
    | none => rfl
    | some u =>
      rcases own b u z with ⟨eb, h2, _⟩ | ⟨h, _⟩
      · rw [eb, h2] at e
        cases e
      · rw [(inJ h).2.2.1] at e
        cases e
  have ofD : ∀ {b : Addr} {o : Obj} {es : Array DictEntry} {ep : Nat}, s₁.heap.get? b = some o → o.data = .dict es ep → H b = none := fun {b o es ep} e d => clear e (fun _ _ z => by rw [d] at z; cases z) (fun z => by rw [d] at z; cases z)
  have names : ∀ {b : Addr} {m : Str → Option Value}, s₁.heap.Ns b m → (hidT s₁.heap H).Ns b m := fun ⟨o, es, ep, e, d, r⟩ => ⟨o, es, ep, hidT_get e (ofD e d), d, r⟩
  have inK : K.In (hidT s₁.heap H) := fun b o e => hidT_get (KX b o e) (ofK e)
  have hM : Mod K mg (hidT s₁.heap H) := ⟨inK, names hns, ⟨mb, names hb, hbb⟩, let ⟨mc, h1, h2⟩ := hlim; ⟨mc, names h1, h2⟩⟩
  have e0 : Env0 P w K mg (hidT s₁.heap H) callerA [] s₁ H := ⟨rfl, hM, fun b o e => of_hidT e, Nat.le_of_eq (hidT_size _ _), trivial, fun b hb => absurd (show b ∈ ([] : List Addr) from hb) (by simp), ok, .of_eq hg⟩
  have hTB : ∀ j ∈ js, TabB (hidT s₁.heap H) mg j.1 j.2 := fun j hj => by
    obtain ⟨t1, t2, t3⟩ := tabs j hj
    obtain ⟨bm, ob, m1, m2, m3, m4, m5, m6⟩ := hmod
    obtain ⟨og, eg, epg, g1, g2, _⟩ := hns
    refine tabB_of_K inK t3 ⟨bm, ob, m1, m2, fun z => ?_, fun z => ?_, hidT_get m3 (clear m3 (fun _ _ z => by rw [m6] at z; cases z) (fun z => by rw [m6] at z; cases z)), m4, m5, m6⟩ fun z => ?_
    · rw [z, g1] at m3
      cases m3
      rw [g2] at m6
      cases m6
    · rw [z, t1] at m3
      cases m3
      cases m6
    · rw [← z, g1] at t1
      cases t1
      cases g2
  refine codeAny_mono ((F _ inK (names hns) hTB).run callerA [] s₁ H ⟨[.ref a], []⟩ [.ref a] [.ref a] _ hgd hr e0 (hbind s₁ (.ref a)) (.cons rfl .nil) (hsp H (fun j hj => (inJ (List.mem_map.mpr ⟨j, hj, rfl⟩)).1) (outG H (outJ aJ)))) fun r s' h => ?_
  cases r with
  | error e => exact (show False from h).elim
  | ok fl =>
    cases fl with
    | next => exact False.elim h
    | brk => exact False.elim h
    | cont => exact False.elim h
    | ret u =>
      obtain ⟨v, H', os, bare, un, ok', r', q⟩ := h
      obtain rfl : v = .bl true := q
      obtain rfl : u = Value.bool true := r'
      have rest : ∀ b o, b ∉ js.map (·.2) → s₁.heap.get? b = some o → s'.heap.get? b = some o := fun b o nb e => by
        cases z : H b with
        | none => exact un.keep b o e z (by intro y; exact absurd (show b ∈ ([] : List Addr) from y) (by simp)) (by simp)
        | some u =>
          rcases own b u z with ⟨_, _, ob, xs, eu⟩ | ⟨h, _⟩
          · rw [eu] at z
            have e1 := (ok b _ z).1
            have e2 := (ok' b _ (un.frzs b ob _ z)).1
            rw [e] at e1
            cases e1
            exact e2
          · exact absurd h nb
      have more : ∀ b, b ∈ js.map (·.2) → ∃ ps : Array Value, s'.heap.get? b = some { cls := .none, data := .fields ps } := fun b h => by
        obtain ⟨ps, z⟩ := un.tbls b #[] (inJ h).1
        exact ⟨_, ok' b _ z⟩
      refine ⟨rfl, ⟨fun b o e => ?_, fun b o e => ?_⟩, os, bare⟩
      · by_cases h : b ∈ js.map (·.2)
        · obtain ⟨_, t1, _, c, hc⟩ := inJ h
          obtain ⟨ps, hp⟩ := more b h
          obtain rfl : noCodes = o := Option.some.inj (t1.symm.trans e)
          exact .inr (.inl ⟨((PySem.W.codeHd_of_K KX hc).tab t1).isCodeTable, rfl, #[], ps, rfl, by rw [Array.empty_append]; exact hp⟩)
        · exact .inl (rest b o h e)
      · by_cases h : b ∈ js.map (·.2)
        · obtain ⟨ps, hp⟩ := more b h
          exact ⟨_, hp⟩
        · exact ⟨o, rest b o h e⟩
/-- the code object of a def that the head found -/
theorem fd_code {K : PySem.W.Frag} {h : Heap} {x : Str} {st : Stmt} {fd : FuncData} (X : K.In h) (F : FnP K x st (He.fAd K (x, none)) fd) : fd.code = .ref (He.codeOf K (x, none)) := by
  obtain ⟨oc, od, dV, kV, doc, pm, an, cdv, ct, osl, rfl, lk, hcd, _, _⟩ := F.ex
  obtain ⟨c, o, vs, t, e, _⟩ := PySem.W.codeRec_of X hcd
  have e' : cdv = .ref c := e
  have := He.codeOf_eq (p := (x, none)) lk e'
  rw [this]
  exact e'
end Pg

set_option Elab.async false
set_option linter.all false
set_option maxRecDepth 100000
set_option maxHeartbeats 4000000
namespace Pg
open PySem PySem.Spec PyProof.Rows L2
/-! what a head reads of a class of errors -/
theorem excB_ok {K : PySem.W.Frag} {D : Addr} (h : excB K D = true) : ExcC K D := by
  obtain ⟨h1, h⟩ := He.ba h
  obtain ⟨h2, h⟩ := He.ba h
  obtain ⟨h3, h⟩ := He.ba h
  obtain ⟨h4, h⟩ := He.ba h
  obtain ⟨h5, h⟩ := He.ba h
  obtain ⟨h6, h⟩ := He.ba h
  obtain ⟨h7, h8⟩ := He.ba h
  exact ⟨of_decide_eq_true h1, of_decide_eq_true h2, of_decide_eq_true h3, h4, of_decide_eq_true h5, of_decide_eq_true h6, of_decide_eq_true h7, of_decide_eq_true h8⟩
end Pg

set_option Elab.async false
set_option linter.all false
set_option maxRecDepth 100000
set_option maxHeartbeats 4000000
namespace Pg
open PySem PySem.Spec PyProof.Rows L2
structure Ex05 (K : PySem.W.Frag) (mg : Str → Option Value) (N T M BF Pe : Addr) : Prop where
  gN : mg "NotAllowed" = some (.ref N)
  gT : mg "TooLarge" = some (.ref T)
  gM : mg "Missing" = some (.ref M)
  gB : mg "BadForm" = some (.ref BF)
  gP : mg "PergolaError" = some (.ref Pe)
  eN : PySem.W.exmOne K (.ref N) (.ref N) = some true
  cN : ExcC K N
  iN : PySem.W.kitOne K (.ref N) (.ref Pe) = some true
  aN : PySem.W.kitAny K (.ref N) [.ref T, .ref M, .ref BF] = some false
  eM : PySem.W.exmOne K (.ref M) (.ref M) = some true
  cM : ExcC K M
  iM : PySem.W.kitOne K (.ref M) (.ref Pe) = some true
  aM : PySem.W.kitAny K (.ref M) [.ref N, .ref T] = some false
/-- sizes of a book's parts -/
structure BkS (sg mk : Sg) (rs : List Rul) : Prop where
  g : sg.length ≤ 1000
  gw : ∀ s ∈ sg, s.1.length ≤ 100000
  m : mk.length ≤ 1000
  mw : ∀ s ∈ mk, s.1.length ≤ 100000
  r : rs.length ≤ 1000
  rs : ∀ r ∈ rs, RulS r
def spRef05 (K : PySem.W.Frag) : Sp := fun vs H Q _ => ∃ (b : Addr) (sg mk : Sg) (rs : List Rul), vs = [.ref b] ∧ BkAt K H b sg mk rs ∧ BkS sg mk rs ∧ ¬ OkBk sg mk rs ∧ ∀ H', Same H H' → Q (.bl true) H'
def spMis (K : PySem.W.Frag) : Sp := fun vs H Q _ => ∃ (b : Addr) (sg mk : Sg) (rs : List Rul) (x : Str), vs = [.ref b, .str x] ∧ BkAt K H b sg mk rs ∧ mk.length ≤ 1000 ∧ x.length ≤ 100000 ∧ ¬ 0 ≤ numB mk x ∧ ∀ H', Same H H' → Q (.bl true) H'
end Pg

set_option Elab.async false
set_option linter.all false
set_option maxRecDepth 100000
set_option maxHeartbeats 4000000
namespace Pg
open PySem PySem.Spec PyProof.Rows L2
section
variable {K : PySem.W.Frag} {σ : L2.St} {H : Hp} {Q : VK} {p r : Addr} {j : Nat} {tt : TT} {wi : TI}
/-- [x for x in xs if ..] over a list of texts -/
theorem rd_strsIf {xs : List Str} (b : Str → Bool) (hwi : ∀ R, R (Itl K r) H → wi σ H R) (hS : SqL K H r (xs.map V.str)) (hlen : xs.length ≤ 100000) (hw : ∀ x, wipe ((wipe σ [j]).set j (some x)) [j] = wipe σ [j]) (hj : ∀ x, ((wipe σ [j]).set j (some x))[j]? = some (some x))
    (htt : ∀ x H', x ∈ xs → Same H H' → ∀ Q' : Bool → Hp → Prop, Q' (b x) H' → tt ((wipe σ [j]).set j (some (.str x))) H' Q')
    (h : ∀ D H', H D = none → Same H H' → H' D = some (.lst ((xs.filter b).map V.str)) → Q (.ref D) H') : tLc wi (gName j) tt (tVar j) [j] σ H Q := by
  refine hwi _ (fun D nD => ?_)
  refine lc_list (K := K) (xs := xs.map V.str) (fun i H' => Same H H' ∧ H' D = some (.lst (((xs.take i).filter b).map V.str))) ⟨Same.new nD, upd_same⟩ (fun i H' _ iv => ?_) (fun i x H' hx iv => ?_) (fun H' iv => ?_)
  · rcases hS with (h | ⟨o, h⟩) | h
    · exact .inl (.inl (iv.1 _ _ h))
    · exact .inl (.inr ⟨o, iv.1 _ _ h⟩)
    · exact .inr h
  · obtain ⟨sm, hd⟩ := iv
    rw [List.getElem?_map] at hx
    obtain ⟨y, ey, rfl⟩ : ∃ y, xs[i]? = some y ∧ V.str y = x := by
      cases e : xs[i]? with
      | none => rw [e] at hx; cases hx
      | some z => rw [e] at hx; exact ⟨z, rfl, Option.some.inj hx⟩
    refine ⟨hw _, htt y H' (List.mem_of_getElem? ey) sm _ (if_of (fun e1 => ?_) (fun e1 => ?_))⟩
    · refine ⟨_, hj _, _, hd, ?_, Same.mut nD sm, ?_⟩
      · have := List.length_filter_le b (xs.take i)
        have := (List.getElem?_eq_some_iff.mp ey).1
        rw [List.length_take] at *
        rw [List.length_map]; exact smallN (by omega)
      · rw [upd_same, take_snoc ey, List.filter_append, List.map_append, List.filter_cons_of_pos e1]; rfl
    · refine ⟨sm, ?_⟩
      rw [take_snoc ey, List.filter_append, List.filter_cons_of_neg (by rw [e1]; decide), hd]
      simp
  · obtain ⟨sm, hd⟩ := iv
    rw [List.length_map, List.take_length] at hd
    exact h D H' nD sm hd
end
/-! ### names told in two ways -/
theorem addS_fold (acc : List Str) (xs : List Str) : ∀ n, n ≤ xs.length → (xs.take n).foldl addS acc = acc ++ (((xs.take n).foldl addS []).filter fun x => decide (x ∉ acc))
  | 0, _ => by rw [List.take_zero]; show acc = acc ++ []; rw [List.append_nil]
  | n + 1, h => by
    have ih := addS_fold acc xs n (by omega)
    have en : xs[n]? = some xs[n] := List.getElem?_eq_getElem (by omega)
    rw [take_snoc en, List.foldl_append, List.foldl_append, ih]
    show addS (acc ++ (((xs.take n).foldl addS []).filter fun x => decide (x ∉ acc))) xs[n] = acc ++ ((addS ((xs.take n).foldl addS []) xs[n]).filter fun x => decide (x ∉ acc))
    generalize (xs.take n).foldl addS [] = ys
    generalize xs[n] = x
    unfold addS
    by_cases h1 : x ∈ acc
    · rw [if_pos (List.mem_append_left _ h1)]
      by_cases h2 : x ∈ ys
      · rw [if_pos h2]
      · rw [if_neg h2, List.filter_append, List.filter_cons_of_neg (by simpa using h1)]
        simp
    · by_cases h2 : x ∈ ys
      · rw [if_pos h2, if_pos (List.mem_append_right _ (List.mem_filter.mpr ⟨h2, decide_eq_true h1⟩))]
      · rw [if_neg h2, if_neg (fun z => by
          rcases List.mem_append.mp z with z | z
          · exact h1 z
          · exact h2 (List.mem_filter.mp z).1), List.filter_append, List.filter_cons_of_pos (by simpa using h1), List.append_assoc]
        rfl
def strsOf (ds : List PyData) : List Str := ds.filterMap fun d => match d with
  | .str x => some x
  | _ => none
theorem nm_strs : ∀ (ds : List PyData) (acc : List Str), ds.foldl nmStepD acc = (strsOf ds).foldl addS acc
  | [], _ => rfl
  | d :: ds, acc => by
    rw [List.foldl_cons, nm_strs ds]
    cases d <;> rfl
theorem nm_split (acc : List Str) (ds : List PyData) : ds.foldl nmStepD acc = acc ++ ((ds.foldl nmStepD []).filter fun x => decide (x ∉ acc)) := by
  rw [nm_strs, nm_strs]
  have := addS_fold acc (strsOf ds) (strsOf ds).length (Nat.le_refl _)
  rw [List.take_of_length_le (Nat.le_refl _)] at this
  exact this
def spLnm (K : PySem.W.Frag) (lvl : Nat) : Sp := fun vs H Q _ => ∃ (v : V) (d : PyData), vs = [v] ∧ Dp K H v d ∧ nest d = true ∧ (preD d).length ≤ lvl ∧ lvl ≤ 1000 ∧ ∀ p H', H p = none → Same H H' → H' p = some (.lst ((nmsD d).map V.str)) → Q (.ref p) H'
theorem flat_take_succ {ks : List PyData} {i : Nat} {k : PyData} (e : ks[i]? = some k) : (ks.take (i + 1)).flatMap preD = (ks.take i).flatMap preD ++ preD k := by
  rw [take_snoc e, List.flatMap_append, List.flatMap_cons, List.flatMap_nil, List.append_nil]
theorem kid_pre {ks : List PyData} {k : PyData} (h : k ∈ ks.drop 1) : (preD k).length < (preD (.tuple ks)).length := by
  rw [preD_tup, List.length_cons]
  have : (preD k).length ≤ ((ks.drop 1).flatMap preD).length := by
    generalize ks.drop 1 = l at h
    induction l with
    | nil => cases h
    | cons x l ih =>
      rw [List.flatMap_cons, List.length_append]
      rcases List.mem_cons.mp h with z | z
      · rw [z]; omega
      · have := ih z; omega
  omega
end Pg
namespace Pg
open PySem PySem.Spec PyProof.Rows L2
section
variable {K : PySem.W.Frag} {σ : L2.St} {H : Hp} {Q : VK} {p r : Addr} {j : Nat} {tt : TT} {wi : TI}
/-- the same, where the test may lay new objects -/
theorem rd_strsIfS {xs : List Str} (b : Str → Bool) (hwi : ∀ R, R (Itl K r) H → wi σ H R) (hS : SqL K H r (xs.map V.str)) (hlen : xs.length ≤ 100000) (hw : ∀ x, wipe ((wipe σ [j]).set j (some x)) [j] = wipe σ [j]) (hj : ∀ x, ((wipe σ [j]).set j (some x))[j]? = some (some x))
    (htt : ∀ x H', x ∈ xs → Same H H' → ∀ Q' : Bool → Hp → Prop, (∀ H2, Same H' H2 → Q' (b x) H2) → tt ((wipe σ [j]).set j (some (.str x))) H' Q')
    (h : ∀ D H', H D = none → Same H H' → H' D = some (.lst ((xs.filter b).map V.str)) → Q (.ref D) H') : tLc wi (gName j) tt (tVar j) [j] σ H Q := by
  refine hwi _ (fun D nD => ?_)
  refine lc_list (K := K) (xs := xs.map V.str) (fun i H' => Same H H' ∧ H' D = some (.lst (((xs.take i).filter b).map V.str))) ⟨Same.new nD, upd_same⟩ (fun i H' _ iv => ?_) (fun i x H' hx iv => ?_) (fun H' iv => ?_)
  · rcases hS with (h | ⟨o, h⟩) | h
    · exact .inl (.inl (iv.1 _ _ h))
    · exact .inl (.inr ⟨o, iv.1 _ _ h⟩)
    · exact .inr h
  · obtain ⟨sm, hd⟩ := iv
    rw [List.getElem?_map] at hx
    obtain ⟨y, ey, rfl⟩ : ∃ y, xs[i]? = some y ∧ V.str y = x := by
      cases e : xs[i]? with
      | none => rw [e] at hx; cases hx
      | some z => rw [e] at hx; exact ⟨z, rfl, Option.some.inj hx⟩
    refine ⟨hw _, htt y H' (List.mem_of_getElem? ey) sm _ fun H2 s2 => if_of (fun e1 => ?_) (fun e1 => ?_)⟩
    · refine ⟨_, hj _, _, s2 _ _ hd, ?_, Same.mut nD (sm.trans s2), ?_⟩
      · have := List.length_filter_le b (xs.take i)
        have := (List.getElem?_eq_some_iff.mp ey).1
        rw [List.length_take] at *
        rw [List.length_map]; exact smallN (by omega)
      · rw [upd_same, take_snoc ey, List.filter_append, List.map_append, List.filter_cons_of_pos e1]; rfl
    · refine ⟨sm.trans s2, ?_⟩
      rw [take_snoc ey, List.filter_append, List.filter_cons_of_neg (by rw [e1]; decide), s2 _ _ hd]
      simp
  · obtain ⟨sm, hd⟩ := iv
    rw [List.length_map, List.take_length] at hd
    exact h D H' nD sm hd
end
theorem nmsD_nodup (d : PyData) : (nmsD d).Nodup := by
  unfold nmsD
  rw [nm_strs]
  have e : ∀ (xs acc : List Str), xs.foldl addS acc = xs.foldl (furStep []) acc := fun xs => by
    induction xs with
    | nil => exact fun _ => rfl
    | cons x xs ih =>
      intro acc
      rw [List.foldl_cons, List.foldl_cons, ih]
      rfl
  rw [e]
  exact (fur_inner (known := []) _ [] List.nodup_nil (fun x hx => absurd hx List.not_mem_nil)).1
theorem fur_filter {known : List Str} : ∀ (xs acc : List Str), xs.Nodup → xs.foldl (furStep known) acc = acc ++ xs.filter fun x => !decide (x ∈ acc) && !decide (x ∈ known)
  | [], acc, _ => by simp
  | x :: xs, acc, hnd => by
    rw [List.nodup_cons] at hnd
    rw [List.foldl_cons, fur_filter xs _ hnd.2]
    unfold furStep addS
    by_cases h1 : x ∈ known
    · rw [if_pos h1, List.filter_cons_of_neg (by simp [h1])]
    · rw [if_neg h1]
      by_cases h2 : x ∈ acc
      · rw [if_pos h2, List.filter_cons_of_neg (by simp [h2])]
      · rw [if_neg h2, List.filter_cons_of_pos (by simp [h1, h2]), List.append_assoc]
        congr 1
        rw [List.singleton_append]
        congr 1
        refine List.filter_congr fun y hy => ?_
        have hne : y ≠ x := fun e => hnd.1 (by rw [← e]; exact hy)
        have : (y ∈ acc ++ [x]) ↔ y ∈ acc := by simp [hne]
        rw [show decide (y ∈ acc ++ [x]) = decide (y ∈ acc) by rw [Bool.eq_iff_iff, decide_eq_true_iff, decide_eq_true_iff]; exact this]
theorem strs_dp {K : PySem.W.Frag} {H : Hp} {p : Addr} {xs : List Str} (h : SqL K H p (xs.map V.str)) : Dp K H (.ref p) (.list (xs.map .str)) := .lst h (by
  clear h
  induction xs with
  | nil => exact .nil
  | cons x xs ih => exact .cons (.str x) ih)
theorem nats_dp {K : PySem.W.Frag} {H : Hp} {p : Addr} {xs : List Nat} (h : SqL K H p (xs.map fun n => V.int (n : Nat))) : Dp K H (.ref p) (.list (xs.map fun n => .int (n : Nat))) := .lst h (by
  clear h
  induction xs with
  | nil => exact .nil
  | cons x xs ih => exact .cons (.int _) ih)
end Pg

set_option Elab.async false
set_option linter.all false
set_option maxRecDepth 100000
set_option maxHeartbeats 4000000
namespace Pg
open PySem PySem.Spec PyProof.Rows L2
theorem flat_one {sg : Sg} : ∀ {ks : List PyData}, ks.all (nmPart sg) = true → (ks.flatMap preD).length = ks.length
  | [], _ => rfl
  | k :: ks, h => by
    rw [List.all_cons, Bool.and_eq_true] at h
    rw [List.flatMap_cons, List.length_append, flat_one h.2, List.length_cons]
    cases k with
    | str y => show 1 + _ = _; omega
    | _ => cases h.1
theorem head_pre {sg : Sg} {d : PyData} (h2 : ∀ s ∈ sg, s.2 ≤ 2) (h : headB sg d = true) : (preD d).length ≤ 3 := by
  cases d with
  | str x => exact (by show 1 ≤ 3; decide)
  | tuple ks =>
    have hh : (nodB sg (.tuple ks) && decide ((dcnt (hdNs sg ks) : Int) = (ks.length : Int) - 1)) = true := h
    rw [Bool.and_eq_true] at hh
    clear h
    obtain ⟨h1, h3⟩ := hh
    cases ks with
    | nil => cases h1
    | cons d0 ks' =>
      cases d0 with
      | str s =>
        have e1 : numB sg s = (ks'.length : Nat) := of_decide_eq_true h1
        have e2 := numB_le h2 s
        have h3 := of_decide_eq_true h3
        rw [List.length_cons] at h3
        have hle := dcnt_le (hdNs sg (.str s :: ks'))
        have e3 : (hdNs sg (.str s :: ks')).length = (ks'.filter (nmPart sg)).length := by unfold hdNs; rw [List.length_map, List.drop_one, List.tail_cons]
        have h4 := List.length_filter_le (nmPart sg) ks'
        have hall := filt_all.mp (show (ks'.filter (nmPart sg)).length = ks'.length by omega)
        rw [preD_tup, List.drop_one, List.tail_cons, List.length_cons]
        have := flat_one hall
        omega
      | _ => cases h1
  | _ => cases h
theorem isW_ok {x : Str} (h : isW x = true) : PyData.strOk x = true := by
  unfold isW at h
  rw [Bool.and_eq_true, Bool.and_eq_true (b := (cs x).all lowC)] at h
  have h2 := h.2.2
  unfold PyData.strOk
  rw [Array.all_eq_true']
  intro c hc
  have hc' : c ∈ cs x := by unfold cs; simpa using hc
  have h3 := List.all_eq_true.mp h2 c hc'
  unfold lowC at h3
  rw [Bool.and_eq_true, decide_eq_true_iff, decide_eq_true_iff] at h3
  exact decide_eq_true (by omega)
theorem strs_shaped {xs : List Str} (h : ∀ x ∈ xs, isW x = true) : SeqAt.shaped (.list (xs.map .str)) = true := by
  have h1 : PyData.canLayAll0 (xs.map PyData.str) = true ∧ PyData.depthAll (xs.map PyData.str) = 0 := by
    induction xs with
    | nil => exact ⟨rfl, rfl⟩
    | cons x xs ih =>
      obtain ⟨i1, i2⟩ := ih fun y hy => h y (List.mem_cons_of_mem _ hy)
      rw [List.map_cons, PyData.canLayAll0, PyData.depthAll, i1, i2]
      exact ⟨by rw [PyData.canLay0, isW_ok (h x (List.mem_cons_self ..))]; rfl, rfl⟩
  unfold SeqAt.shaped
  rw [PyData.canLay0, h1.1, PyData.depth, h1.2]
  rfl
theorem strs_eqv (xs : List Str) : PyData.eqv (.list (xs.map .str)) (.list (xs.map .str)) = true := PySem.W.eqv_refl_alike _ (by
  rw [PySem.W.alike]
  induction xs with
  | nil => rfl
  | cons x xs ih => rw [List.map_cons, PySem.W.alikeAll, ih]; rfl)
theorem ints_shaped (xs : List Int) : SeqAt.shaped (.list (xs.map .int)) = true := by
  have h1 : PyData.canLayAll0 (xs.map PyData.int) = true := by
    induction xs with
    | nil => rfl
    | cons x xs ih => rw [List.map_cons, PyData.canLayAll0, ih]; rfl
  unfold SeqAt.shaped
  rw [PyData.canLay0, h1, PyData.depth, ints_depth]
  rfl
theorem ints_eqv (xs : List Int) : PyData.eqv (.list (xs.map .int)) (.list (xs.map .int)) = true := PySem.W.eqv_refl_alike _ (by
  rw [PySem.W.alike]
  induction xs with
  | nil => rfl
  | cons x xs ih => rw [List.map_cons, PySem.W.alikeAll, ih]; rfl)
theorem nod_isW {sg : Sg} {d : PyData} (h : (preD d).all (nodB sg) = true) {x : Str} (hx : x ∈ nmsD d) : isW x = true := by
  have := List.all_eq_true.mp h _ (nmsD_mem hx)
  have h2 : (isW x && decide (numB sg x = -1)) = true := this
  rw [Bool.and_eq_true] at h2
  exact h2.1
theorem numB_fl {mk : Sg} {x : Str} {fl : Int} (nd : (mk.map (·.1)).Nodup) (h0 : 0 ≤ fl) : (numB mk x = fl) ↔ x ∈ (mk.filter fun s => decide (s.2 = fl)).map (·.1) := by
  constructor
  · intro h
    by_cases hx : x ∈ mk.map (·.1)
    · obtain ⟨s, hs, rfl⟩ := List.mem_map.mp hx
      have := numB_in nd (show (s.1, s.2) ∈ mk from hs)
      exact List.mem_map.mpr ⟨s, List.mem_filter.mpr ⟨hs, decide_eq_true (by omega)⟩, rfl⟩
    · rw [numB_not hx] at h
      omega
  · intro h
    obtain ⟨s, hs, rfl⟩ := List.mem_map.mp h
    rw [List.mem_filter] at hs
    rw [numB_in nd (show (s.1, s.2) ∈ mk from hs.1)]
    exact of_decide_eq_true hs.2
end Pg
namespace Pg
open PySem PySem.Spec PyProof.Rows L2
theorem fur_len {hd : PyData} : ∀ (bd : List Lit) (acc : List Str), (∀ l ∈ bd, (nmsD l.t).length ≤ 6) → (bd.foldl (fun acc l => (nmsD l.t).foldl (furStep (nmsD hd)) acc) acc).length ≤ acc.length + 6 * bd.length
  | [], acc, _ => by show acc.length ≤ acc.length + 6 * 0; omega
  | l :: bd, acc, h => by
    have h1 := fur_len (hd := hd) bd ((nmsD l.t).foldl (furStep (nmsD hd)) acc) fun x hx => h x (List.mem_cons_of_mem _ hx)
    have h2 : ((nmsD l.t).foldl (furStep (nmsD hd)) acc).length ≤ acc.length + 6 := by
      rw [fur_filter _ _ (nmsD_nodup _), List.length_append]
      have := List.length_filter_le (fun x => !decide (x ∈ acc) && !decide (x ∈ nmsD hd)) (nmsD l.t)
      have := h l (List.mem_cons_self ..)
      omega
    rw [List.foldl_cons, List.length_cons]
    omega
end Pg
namespace Pg
open PySem PySem.Spec PyProof.Rows L2
theorem nats_shaped (xs : List Nat) : SeqAt.shaped (.list (xs.map fun n => .int (n : Nat))) = true := by
  have := ints_shaped (xs.map fun n : Nat => (n : Int))
  rw [List.map_map] at this
  exact this
theorem nats_eqv (xs : List Nat) : PyData.eqv (.list (xs.map fun n => .int (n : Nat))) (.list (xs.map fun n => .int (n : Nat))) = true := by
  have := ints_eqv (xs.map fun n : Nat => (n : Int))
  rw [List.map_map] at this
  exact this
end Pg

set_option Elab.async false
set_option linter.all false
set_option maxRecDepth 100000
set_option maxHeartbeats 4000000
namespace Pg
open PySem PySem.Spec PyProof.Rows L2
/-! ### what the law draws is allowed -/
theorem rsv_out : ∀ r ∈ rsv, (∃ c ∈ cs r, c ≠ 97 ∧ c ≠ 98 ∧ c ≠ 121 ∧ c ≠ 122) ∧ (cs r).head? ≠ some 99 := by decide +kernel
theorem wd_isW {i : Nat} {w : Str} (h : Wd i w) : isW w = true := by
  have hl := wd_wt h
  have hlen : 1 ≤ w.length ∧ w.length ≤ 8 := by
    refine ⟨?_, h.len⟩
    rw [cs_len]
    rcases h with h | ⟨_, h⟩
    · exact h.1
    · rw [h]; exact (by show 1 ≤ 2; decide)
  have hr : w ∉ rsv := fun hm => by
    obtain ⟨⟨c, hc, hn⟩, h2⟩ := rsv_out w hm
    rcases h with ⟨_, _, h⟩ | ⟨_, h⟩
    · have := h c hc
      omega
    · rw [h] at h2
      exact h2 rfl
  unfold isW
  rw [decide_eq_true hlen.1, decide_eq_true hlen.2, decide_eq_false hr, List.all_eq_true.mpr fun c hc => hl.2 c hc]
  rfl
theorem GSg.ok2 {sg : Sg} (g : GSg sg) : OkSg sg := ⟨g.len, g.nd, fun s hs => by obtain ⟨i, hw⟩ := g.wd s hs; exact wd_isW hw, g.ar, g.c0⟩
theorem GMk.ok2 {sg mk : Sg} (g : GMk sg mk) : OkMk sg mk := ⟨g.l, g.d, fun s hs => by obtain ⟨i, _, hw⟩ := g.w s hs; exact wd_isW hw, fun s hs => by rw [numB_not (g.n s hs)]; decide, g.a⟩
/-- a rule whose literals stand there again -/
theorem fur_same {known : List Str} : ∀ (xs acc : List Str), (∀ x ∈ xs, x ∈ known ∨ x ∈ acc) → xs.foldl (furStep known) acc = acc
  | [], acc, _ => rfl
  | x :: xs, acc, h => by
    have e : furStep known acc x = acc := by
      unfold furStep addS
      rcases h x (List.mem_cons_self ..) with z | z
      · rw [if_pos z]
      · by_cases hk : x ∈ known
        · rw [if_pos hk]
        · rw [if_neg hk, if_pos z]
    rw [List.foldl_cons, e]
    exact fur_same xs acc fun y hy => h y (List.mem_cons_of_mem _ hy)
theorem fur_mono {hd : PyData} : ∀ (bd : List Lit) (acc : List Str) (x : Str), x ∈ acc → x ∈ bd.foldl (fun acc l => (nmsD l.t).foldl (furStep (nmsD hd)) acc) acc
  | [], acc, x, h => h
  | l :: bd, acc, x, h => by
    rw [List.foldl_cons]
    refine fur_mono bd _ x ?_
    rw [fur_filter _ _ (nmsD_nodup _)]
    exact List.mem_append_left _ h
theorem fur_has {hd : PyData} : ∀ (bd : List Lit) (acc : List Str), ∀ l ∈ bd, ∀ x ∈ nmsD l.t, x ∈ nmsD hd ∨ x ∈ bd.foldl (fun acc l => (nmsD l.t).foldl (furStep (nmsD hd)) acc) acc
  | [], acc, l, h, x, hx => absurd h List.not_mem_nil
  | l0 :: bd, acc, l, h, x, hx => by
    rw [List.foldl_cons]
    rcases List.mem_cons.mp h with z | z
    · subst z
      by_cases hk : x ∈ nmsD hd
      · exact .inl hk
      · refine .inr (fur_mono bd _ x ?_)
        rw [fur_filter _ _ (nmsD_nodup _)]
        by_cases ha : x ∈ acc
        · exact List.mem_append_left _ ha
        · exact List.mem_append_right _ (List.mem_filter.mpr ⟨hx, by simp [ha, hk]⟩)
    · exact fur_has bd _ l z x hx
theorem fur_again {hd : PyData} {bd ex : List Lit} (h : ∀ l ∈ ex, l ∈ bd) : furD hd (bd ++ ex) = furD hd bd := by
  unfold furD
  rw [List.foldl_append]
  have h2 : ∀ l ∈ ex, ∀ x ∈ nmsD l.t, x ∈ nmsD hd ∨ x ∈ bd.foldl (fun acc l => (nmsD l.t).foldl (furStep (nmsD hd)) acc) [] := fun l hl x hx => fur_has bd [] l (h l hl) x hx
  generalize bd.foldl (fun acc l => (nmsD l.t).foldl (furStep (nmsD hd)) acc) [] = acc at h2
  clear h
  induction ex with
  | nil => rfl
  | cons l ex ih =>
    rw [List.foldl_cons, fur_same _ _ (h2 l (List.mem_cons_self ..))]
    exact ih fun l' hl' => h2 l' (List.mem_cons_of_mem _ hl')
theorem grul_again {sg mk : Sg} {r : Rul} {ex : List Lit} (g : GRul sg mk r) (h : ∀ l ∈ ex, l ∈ r.bd) (h4 : (r.bd ++ ex).length ≤ 4) : GRul sg mk ⟨r.mw, r.hd, r.bd ++ ex⟩ := by
  have hb := g.b
  unfold rulB at hb
  rw [Bool.and_eq_true, Bool.and_eq_true, Bool.and_eq_true, Bool.and_eq_true] at hb
  obtain ⟨b1, b2, _, b4, b5⟩ := hb
  refine ⟨?_, ⟨g.s.w, g.s.h, by show (r.bd ++ ex).length ≤ 1000; omega, fun l hl => ?_⟩⟩
  · show (decide (0 ≤ numB mk r.mw) && (headB sg r.hd && (decide ((r.bd ++ ex).length ≤ 4) && ((r.bd ++ ex).all (litB sg mk (numB mk r.mw)) && decide ((furD r.hd (r.bd ++ ex)).length ≤ 1))))) = true
    rw [b1, b2, decide_eq_true h4, fur_again h, b5, List.all_append, b4, List.all_eq_true.mpr fun l hl => List.all_eq_true.mp b4 l (h l hl)]
    rfl
  · rcases List.mem_append.mp hl with z | z
    · exact g.s.l l z
    · exact g.s.l l (h l z)
def spFull (K : PySem.W.Frag) : Sp := fun vs H Q _ => ∃ (a n g mm : Addr) (sg mk : Sg) (m : Int), vs = [.ref a, .ref g, .ref mm] ∧ StA H a n m ∧ m ≤ 200000 ∧ SgAt K H g sg ∧ GSg sg ∧ SgAt K H mm mk ∧ GMk sg mk ∧
  ∀ (b : Addr) (rs : List Rul) (H' : Hp), BkAt K H' b sg mk rs → rs.length = 24 → (∀ r ∈ rs, GRul sg mk r) → Fr a H H' → StA H' a n (m + 4000) → Q (.ref b) H'
end Pg

set_option Elab.async false
set_option linter.all false
set_option maxRecDepth 100000
set_option maxHeartbeats 4000000
namespace Pg
open PySem PySem.Spec PyProof.Rows L2 LamX
/-! ### one sign, so many times -/
def rMulC : R2 := fun x y H Q => ∃ (spc : Str) (c k : Nat), x = .str spc ∧ spc.cps = #[c] ∧ y = .int (k : Nat) ∧ k ≤ 10000 ∧ ∀ z : Str, cs z = List.replicate k c → Q (.str z) H
section
variable {X : Cx}
theorem op_mulC : OpR X (binaryOp .Mult) rMulC := by
  intro pins s σ H x y v u Q I rx ry ⟨spc, c, k, ex, hc, ey, hk, q⟩
  subst ex ey
  obtain ⟨t, rfl⟩ := rx
  obtain ⟨t', rfl⟩ := ry
  have hl1 : spc.length = 1 := by show spc.cps.size = 1; rw [hc]; rfl
  have hz : k ≤ sizeLine := Nat.le_of_lt (smallN (by omega))
  refine P.mul_str ?_ (fun _ _ => ?_) (fun _ _ => ?_) ?_
  · rw [decide_eq_false (by omega), decide_eq_false (by omega)]; rfl
  · rw [hl1]
    have h1 : 1 ≤ (2 ^ 63 - 1) / (k : Int) := (Int.le_ediv_iff_mul_le (by omega)).mpr (by omega)
    omega
  · rw [hl1, Nat.one_mul]
    exact decide_eq_false (Nat.not_lt.mpr hz)
  · split
    · rename_i h
      have e0 : k = 0 := by omega
      subst e0
      exact ⟨by decide, ⟨.str Str.empty, H, I.tok _, ⟨_, rfl⟩, q _ rfl⟩⟩
    · split
      · rename_i h1 h
        have e1 : k = 1 := by
          rw [hl1] at h
          simp at h
          omega
        subst e1
        exact ⟨.str spc, H, I, ⟨_, rfl⟩, q _ (by show spc.cps.toList = _; rw [hc]; rfl)⟩
      · rw [hc]
        have e32 : ∀ m : Nat, ((List.replicate m #[c]).foldl (· ++ ·) #[]) = (List.replicate m c).toArray := fun m => by
          induction m with
          | zero => rfl
          | succ m ih =>
            rw [List.replicate_succ', List.foldl_append, ih, List.replicate_succ']
            show (List.replicate m c).toArray ++ #[c] = _
            rw [← List.append_toArray]
        have ek : ((k : Nat) : Int).toNat = k := by omega
        rw [ek, e32]
        refine ⟨?_, ⟨.str _, H, I.tok _, ⟨_, rfl⟩, q _ ?_⟩⟩
        · simp [Str.length]
          omega
        · simp [cs]
end
/-! ### marks that are none -/
structure BadMk (K : PySem.W.Frag) (sg : Sg) (H : Hp) (v : V) : Prop where
  ex : ∃ (p : Addr) (mk : Sg), v = .ref p ∧ SgAt K H p mk ∧ ¬ OkMk sg mk ∧ mk.length ≤ 20 ∧ ∀ s ∈ mk, s.1.length ≤ 1000
theorem BadMk.keep {K : PySem.W.Frag} {sg : Sg} {H H' : Hp} {v : V} (k : TK K H H') (h : BadMk K sg H v) : BadMk K sg H' v := by
  obtain ⟨p, mk, h1, h2, h3, h4, h5⟩ := h.ex
  exact ⟨p, mk, h1, h2.keep k, h3, h4, h5⟩
theorem sg_put {K : PySem.W.Frag} {H : Hp} {p t : Addr} {rs : List Addr} {mk : Sg} {k : Nat} {s : Str × Int} (hk : k < mk.length) (pr : SgR K H rs mk) (ht : SqT K H t [.str s.1, .int s.2]) (hp : SqT K H p ((rs.map V.ref).take k ++ V.ref t :: (rs.map V.ref).drop (k + 1))) : SgAt K H p (mk.take k ++ s :: mk.drop (k + 1)) :=
  ⟨rs.take k ++ t :: rs.drop (k + 1), by rw [List.map_append, List.map_cons, List.map_take, List.map_drop]; exact hp, paired_app (paired_take k pr) (.cons ht (paired_drop (k + 1) pr))⟩
theorem putS_mem {mk : Sg} {k : Nat} {s : Str × Int} : s ∈ mk.take k ++ s :: mk.drop (k + 1) := List.mem_append_right _ (List.mem_cons_self ..)
theorem put_sub {mk : Sg} {k : Nat} {s x : Str × Int} (h : x ∈ mk.take k ++ s :: mk.drop (k + 1)) : x = s ∨ x ∈ mk := by
  rcases List.mem_append.mp h with z | z
  · exact .inr (List.mem_of_mem_take z)
  · rcases List.mem_cons.mp z with z | z
    · exact .inl z
    · exact .inr (List.mem_of_mem_drop z)
theorem bad_put {K : PySem.W.Frag} {H : Hp} {sg mk : Sg} {p t : Addr} {rs : List Addr} {k : Nat} {s : Str × Int} (gm : GMk sg mk) (hk : k < mk.length) (pr : SgR K H rs mk) (ht : SqT K H t [.str s.1, .int s.2]) (hp : SqT K H p ((rs.map V.ref).take k ++ V.ref t :: (rs.map V.ref).drop (k + 1))) (hw : s.1.length ≤ 1000)
    (hno : ¬ OkMk sg (mk.take k ++ s :: mk.drop (k + 1))) : BadMk K sg H (.ref p) :=
  ⟨p, _, rfl, sg_put hk pr ht hp, hno, by rw [List.length_append, List.length_take, List.length_cons, List.length_drop]; have := gm.l; omega, fun x hx => by
    rcases put_sub hx with z | z
    · rw [z]; exact hw
    · obtain ⟨i, _, hw'⟩ := gm.w x z
      have := hw'.len
      omega⟩
def spBmk (K : PySem.W.Frag) : Sp := fun vs H Q _ => ∃ (a n b : Addr) (sg mk : Sg) (rs : List Rul) (m : Int), vs = [.ref a, .ref b] ∧ StA H a n m ∧ m ≤ 500000 ∧ BkAt K H b sg mk rs ∧ GSg sg ∧ GMk sg mk ∧ rs.length ≤ 24 ∧ (∀ r ∈ rs, RulS r) ∧
  ∀ (b' : Addr) (mk' : Sg) (rs' : List Rul) (H' : Hp), BkAt K H' b' sg mk' rs' → BkS sg mk' rs' → ¬ OkBk sg mk' rs' → Fr a H H' → StA H' a n (m + 3) → Q (.ref b') H'
end Pg
namespace Pg
open PySem PySem.Spec PyProof.Rows L2
/-! ### displays of which a property of each item is known; comprehensions over a range of the same kind -/
def TaP (Pr : Hp → V → Prop) (k : Nat) (ta : TA) (σ : L2.St) (H : Hp) : Prop := ∀ H', Same H H' → ∀ Q' : List V → Hp → Prop, (∀ vs H2, Same H' H2 → vs.length = k → (∀ v ∈ vs, Pr H2 v) → Q' vs H2) → ta σ H' Q'
section
variable {K : PySem.W.Frag} {Pr : Hp → V → Prop} {te : TE} {ta : TA} {σ : L2.St} {H : Hp} {k : Nat}
theorem TaP.nil : TaP Pr 0 tNil σ H := fun H' _ Q' q => q [] H' (Same.refl H') rfl (fun _ h => absurd h List.not_mem_nil)
theorem TaP.cons (mono : ∀ H H' v, Same H H' → Pr H v → Pr H' v) (h : ∀ H' : Hp, Same H H' → ∀ Q' : VK, (∀ v H2, Same H' H2 → Pr H2 v → Q' v H2) → te σ H' Q') (t : TaP Pr k ta σ H) : TaP Pr (k + 1) (tCons te ta) σ H := fun H' s Q' q =>
  h H' s _ fun v H2 s2 hv => t H2 (s.trans s2) _ fun vs H3 s3 hl hvs => q (v :: vs) H3 (s2.trans s3) (by rw [List.length_cons, hl]) fun x hx => by
    rcases List.mem_cons.mp hx with z | z
    · rw [z]; exact mono _ _ _ s3 hv
    · exact hvs x z
theorem TaP.lst {Q : VK} (mono : ∀ H H' v, Same H H' → Pr H v → Pr H' v) (h : TaP Pr k ta σ H) (hk : k ≤ 1000) (q : ∀ (lo : Addr) (vs : List V) (H' : Hp), H lo = none → Same H H' → H' lo = some (.lst vs) → vs.length = k → (∀ v ∈ vs, Pr H' v) → Q (.ref lo) H') : tLst ta σ H Q :=
  h H (Same.refl H) _ fun vs H2 s2 hl hv => ⟨Nat.le_of_lt (smallN (by omega)), fun lo nlo => q lo vs _ (same_free s2 nlo) (s2.trans (Same.new nlo)) upd_same hl fun x hx => mono _ _ _ (Same.new nlo) (hv x hx)⟩
end
section
variable {K : PySem.W.Frag} {σ : L2.St} {H : Hp} {Q : VK} {j : Nat} {te : TE}
theorem rd_rngR {lo : Int} {n : Nat} {wi : TI} (F : Hp → V → Prop) (mono : ∀ H H' v, TK K H H' → F H v → F H' v) (hwi : ∀ R, R (Itr lo n) H → wi σ H R) (hn : n ≤ 100000) (hw : ∀ x, wipe ((wipe σ [j]).set j (some x)) [j] = wipe σ [j])
    (ht : ∀ (i : Nat) H', i < n → Same H H' → ∀ Q' : VK, (∀ v H2, Same H' H2 → F H2 v → Q' v H2) → te ((wipe σ [j]).set j (some (.int (lo + i)))) H' Q')
    (h : ∀ D H' vs, H D = none → Same H H' → H' D = some (.lst vs) → vs.length = n → (∀ v ∈ vs, F H' v) → Q (.ref D) H') : tLc wi (gName j) tYes te [j] σ H Q := by
  refine hwi _ (fun D nD => lc_range (fun i H' => Same H H' ∧ ∃ vs, H' D = some (.lst vs) ∧ vs.length = i ∧ ∀ v ∈ vs, F H' v) ⟨Same.new nD, [], upd_same, rfl, fun v e => absurd e List.not_mem_nil⟩ (fun i H' hi iv => ?_) (fun H' iv => ?_))
  · obtain ⟨sm, vs, hd, hl, hall⟩ := iv
    refine ⟨hw _, yes_turn ?_⟩
    refine ht i H' hi sm _ (fun v H2 s2 hv => ?_)
    have hd2 := s2 _ _ hd
    have tk : TK K H' (upd H2 D (.lst (vs ++ [v]))) := (TK.same s2).trans (TK.put hd2)
    refine ⟨vs, hd2, by rw [hl, sizeLine_eq]; omega, Same.mut nD (sm.trans s2), vs ++ [v], upd_same, by rw [List.length_append, hl]; rfl, fun x e => ?_⟩
    rcases List.mem_append.mp e with z | z
    · exact mono _ _ _ tk (hall x z)
    · rw [List.mem_singleton] at z
      rw [z]
      exact mono _ _ _ (TK.put hd2) hv
  · obtain ⟨sm, vs, hd, hl, hall⟩ := iv
    exact h D H' vs nD sm hd hl hall
end
end Pg

set_option Elab.async false
set_option linter.all false
set_option maxRecDepth 100000
set_option maxHeartbeats 4000000
namespace Pg
open PySem PySem.Spec PyProof.Rows L2
/-! ### displays whose data is told -/
def TeD (K : PySem.W.Frag) (te : TE) (σ : L2.St) (H : Hp) (d : PyData) : Prop := ∀ H', Same H H' → ∀ Q' : VK, (∀ v H2, Same H' H2 → Dp K H2 v d → Q' v H2) → te σ H' Q'
def TaD (K : PySem.W.Frag) (ta : TA) (σ : L2.St) (H : Hp) (ds : List PyData) : Prop := ∀ H', Same H H' → ∀ Q' : List V → Hp → Prop, (∀ vs H2, Same H' H2 → DpAll K H2 vs ds → Q' vs H2) → ta σ H' Q'
section
variable {K : PySem.W.Frag} {te : TE} {ta : TA} {σ : L2.St} {H : Hp} {d : PyData} {ds : List PyData}
theorem TeD.str {x : Str} : TeD K (tC (.str x)) σ H (.str x) := fun H' _ Q' q => q _ H' (Same.refl H') (.str x)
theorem TeD.bool {b : Bool} : TeD K (tC (.bl b)) σ H (.bool b) := fun H' _ Q' q => q _ H' (Same.refl H') (.bl b)
theorem TeD.var {i : Nat} {v : V} (h : σ[i]? = some (some v)) (hd : Dp K H v d) (hs : solid d = true) : TeD K (tVar i) σ H d := fun H' s Q' q => ⟨v, h, q v H' (Same.refl H') (dp_so (TK.same s) _ _ hs hd)⟩
theorem TaD.nil : TaD K tNil σ H [] := fun H' _ Q' q => q [] H' (Same.refl H') .nil
theorem TaD.cons (h : TeD K te σ H d) (hs : solid d = true) (t : TaD K ta σ H ds) : TaD K (tCons te ta) σ H (d :: ds) := fun H' s Q' q =>
  h H' s _ fun v H2 s2 hv => t H2 (s.trans s2) _ fun vs H3 s3 hvs => q (v :: vs) H3 (s2.trans s3) (.cons (dp_so (TK.same s3) _ _ hs hv) hvs)
theorem TeD.tup (h : TaD K ta σ H ds) (hl : ds.length ≤ 1000) (hs : solid.solidAll ds = true) : TeD K (tTup ta) σ H (.tuple ds) := fun H' s Q' q =>
  h H' s _ fun vs H2 s2 hvs => ⟨by have := dpAll_len hvs; exact Nat.le_of_lt (smallN (by omega)), fun p np => q _ _ (s2.trans (Same.new np)) (.tup (SqT.mk upd_same) (dpAll_so (TK.new np) _ _ hs hvs))⟩
end
/-! ### nests, put together -/
structure NsZ (n : Nat) (d : PyData) : Prop where
  ne : nest d = true
  z : (preD d).length = n
  s : shortD d
theorem NsZ.ok {n : Nat} {d : PyData} (h : NsZ n d) (hn : n ≤ 1000) : NsS d := ⟨h.ne, by rw [h.z]; exact hn, h.s⟩
theorem shortD_tup {ks : List PyData} (h : ∀ k ∈ ks.drop 1, shortD k) : shortD (.tuple ks) := fun y hy x e => by
  rw [preD_tup] at hy
  rcases List.mem_cons.mp hy with z | z
  · rw [z] at e; cases e
  · obtain ⟨k, hk, hyk⟩ := List.mem_flatMap.mp z
    exact h k hk y hyk x e
theorem NsZ.str {x : Str} (h : x.length ≤ 100000) : NsZ 1 (.str x) := ⟨rfl, rfl, fun k hk y e => by rw [List.mem_singleton.mp (show k ∈ [PyData.str x] from hk)] at e; cases e; exact h⟩
theorem NsZ.t0 : NsZ 1 (.tuple []) := ⟨rfl, rfl, shortD_tup fun k hk => absurd hk List.not_mem_nil⟩
theorem NsZ.t1 {a : PyData} (h : nest a = true) : NsZ 1 (.tuple [a]) := ⟨by simp [nest, nestAll, h], by rw [preD_tup]; rfl, shortD_tup fun k hk => absurd hk List.not_mem_nil⟩
theorem NsZ.t2 {a b : PyData} {n : Nat} (h : nest a = true) (hb : NsZ n b) : NsZ (n + 1) (.tuple [a, b]) :=
  ⟨by simp [nest, nestAll, h, hb.ne], by rw [preD_tup]; show (preD b ++ []).length + 1 = _; rw [List.append_nil, hb.z], shortD_tup fun k hk => by rw [List.mem_singleton.mp (show k ∈ [b] from hk)]; exact hb.s⟩
theorem NsZ.t3 {a b c : PyData} {n m : Nat} (h : nest a = true) (hb : NsZ n b) (hc : NsZ m c) : NsZ (n + m + 1) (.tuple [a, b, c]) :=
  ⟨by simp [nest, nestAll, h, hb.ne, hc.ne], by rw [preD_tup]; show (preD b ++ (preD c ++ [])).length + 1 = _; rw [List.append_nil, List.length_append, hb.z, hc.z], shortD_tup fun k hk => by
    rcases List.mem_cons.mp (show k ∈ [b, c] from hk) with z | z
    · rw [z]; exact hb.s
    · rw [List.mem_singleton.mp z]; exact hc.s⟩
theorem NsZ.t4 {a b c e : PyData} {n m l : Nat} (h : nest a = true) (hb : NsZ n b) (hc : NsZ m c) (he : NsZ l e) : NsZ (n + m + l + 1) (.tuple [a, b, c, e]) :=
  ⟨by simp [nest, nestAll, h, hb.ne, hc.ne, he.ne], by rw [preD_tup]; show (preD b ++ (preD c ++ (preD e ++ []))).length + 1 = _; rw [List.append_nil, List.length_append, List.length_append, hb.z, hc.z, he.z]; omega, shortD_tup fun k hk => by
    rcases List.mem_cons.mp (show k ∈ [b, c, e] from hk) with z | z
    · rw [z]; exact hb.s
    · rcases List.mem_cons.mp z with z | z
      · rw [z]; exact hc.s
      · rw [List.mem_singleton.mp z]; exact he.s⟩
/-! ### rules that are none -/
structure BadRl (K : PySem.W.Frag) (sg mk : Sg) (H : Hp) (v : V) : Prop where
  ex : ∃ r : Rul, Dp K H v (rulD r) ∧ RulS r ∧ rulB sg mk r = false
theorem BadRl.keep {K : PySem.W.Frag} {sg mk : Sg} {H H' : Hp} {v : V} (k : TK K H H') (h : BadRl K sg mk H v) : BadRl K sg mk H' v := by
  obtain ⟨r, h1, h2, h3⟩ := h.ex
  exact ⟨r, dp_so k _ _ h2.so h1, h2, h3⟩
structure BadHd (K : PySem.W.Frag) (sg : Sg) (H : Hp) (v : V) : Prop where
  ex : ∃ d : PyData, Dp K H v d ∧ NsS d ∧ headB sg d = false
theorem BadHd.keep {K : PySem.W.Frag} {sg : Sg} {H H' : Hp} {v : V} (k : TK K H H') (h : BadHd K sg H v) : BadHd K sg H' v := by
  obtain ⟨d, h1, h2, h3⟩ := h.ex
  exact ⟨d, dp_tk k _ _ h2.n h1, h2, h3⟩
end Pg
namespace Pg
open PySem PySem.Spec PyProof.Rows L2
/-! ### words that are none -/
theorem isW_long {x : Str} (h : 8 < x.length) : isW x = false := by
  unfold isW
  rw [decide_eq_false (by omega : ¬ x.length ≤ 8)]
  simp
theorem isW_end {x y : Str} (h : (cs y).all lowC = false) : isW (x ++ y) = false := by
  unfold isW
  have e : cs (x ++ y) = cs x ++ cs y := by
    show (x.cps ++ y.cps).toList = x.cps.toList ++ y.cps.toList
    rw [Array.toList_append]
  rw [e, List.all_append, h]
  simp
theorem strlen_app {x y : Str} : (x ++ y).length = x.length + y.length := by
  show (x.cps ++ y.cps).size = x.cps.size + y.cps.size
  rw [Array.size_append]
theorem get_sg {K : PySem.W.Frag} {H : Hp} {rs : List Addr} {sg : Sg} {i : Nat} (pr : SgR K H rs sg) (h : i < sg.length) : ∃ (r : Addr) (s : Str × Int), rs[i]? = some r ∧ sg[i]? = some s ∧ s ∈ sg ∧ SqT K H r [.str s.1, .int s.2] := by
  have hl := paired_len pr
  have hir : i < rs.length := by omega
  obtain ⟨s, es, hr⟩ := Pg.paired_get pr (List.getElem?_eq_getElem hir)
  exact ⟨_, s, List.getElem?_eq_getElem hir, es, List.mem_of_getElem? es, hr⟩
theorem numB_mem0 {sg : Sg} (ar : ∀ s ∈ sg, 0 ≤ s.2) {s : Str × Int} (h : s ∈ sg) : 0 ≤ numB sg s.1 := by
  induction sg with
  | nil => exact absurd h List.not_mem_nil
  | cons t sg ih =>
    rw [numB_cons]
    by_cases e : t.1 = s.1
    · rw [if_pos e]; exact ar t (List.mem_cons_self ..)
    · rw [if_neg e]
      rcases List.mem_cons.mp h with z | z
      · exact absurd (by rw [z]) e
      · exact ih (fun x hx => ar x (List.mem_cons_of_mem _ hx)) z
end Pg
namespace Pg
open PySem PySem.Spec PyProof.Rows L2
theorem atI_get {xs : List V} {k : Nat} : atI xs ((k : Nat) : Int) = xs[k]? := by
  by_cases h : k < xs.length
  · rw [List.getElem?_eq_getElem h]; exact atI_nat (List.getElem?_eq_getElem h)
  · rw [List.getElem?_eq_none (by omega)]
    unfold atI ixN
    simp
    omega
theorem dup_put {mk : Sg} {j k : Nat} {s : Str × Int} {fl : Int} (hj : j < mk.length) (hk : k < mk.length) (hne : k ≠ j) (es : mk[k]? = some s) (h : ((mk.take j ++ (s.1, fl) :: mk.drop (j + 1)).map (·.1)).Nodup) : False := by
  have e : mk.take j ++ (s.1, fl) :: mk.drop (j + 1) = mk.set j (s.1, fl) := by rw [List.set_eq_take_append_cons_drop, if_pos hj]
  rw [e] at h
  have hk' : k < ((mk.set j (s.1, fl)).map (·.1)).length := by rw [List.length_map, List.length_set]; exact hk
  have hj' : j < ((mk.set j (s.1, fl)).map (·.1)).length := by rw [List.length_map, List.length_set]; exact hj
  have h1 : ((mk.set j (s.1, fl)).map (·.1))[j]? = some s.1 := by rw [List.getElem?_map, List.getElem?_set_self hj]; rfl
  have h2 : ((mk.set j (s.1, fl)).map (·.1))[k]? = some s.1 := by rw [List.getElem?_map, List.getElem?_set_ne (fun z => hne z.symm), es]; rfl
  have g1 := (List.getElem?_eq_some_iff.mp h1).2
  have g2 := (List.getElem?_eq_some_iff.mp h2).2
  rcases Nat.lt_or_gt_of_ne hne with z | z
  · exact List.pairwise_iff_getElem.mp h k j hk' hj' z (g2.trans g1.symm)
  · exact List.pairwise_iff_getElem.mp h j k hj' hk' z (g1.trans g2.symm)
end Pg
namespace Pg
open PySem PySem.Spec PyProof.Rows L2
/-! ### signs that are none -/
structure BadSg (K : PySem.W.Frag) (H : Hp) (v : V) : Prop where
  ex : ∃ (p : Addr) (sg : Sg), v = .ref p ∧ SgAt K H p sg ∧ ¬ OkSg sg ∧ sg.length ≤ 20 ∧ ∀ s ∈ sg, s.1.length ≤ 1000
theorem BadSg.keep {K : PySem.W.Frag} {H H' : Hp} {v : V} (k : TK K H H') (h : BadSg K H v) : BadSg K H' v := by
  obtain ⟨p, mk, h1, h2, h3, h4, h5⟩ := h.ex
  exact ⟨p, mk, h1, h2.keep k, h3, h4, h5⟩
theorem bads_put {K : PySem.W.Frag} {H : Hp} {sg : Sg} {p t : Addr} {rs : List Addr} {k : Nat} {s : Str × Int} (gs : GSg sg) (hk : k < sg.length) (pr : SgR K H rs sg) (ht : SqT K H t [.str s.1, .int s.2]) (hp : SqT K H p ((rs.map V.ref).take k ++ V.ref t :: (rs.map V.ref).drop (k + 1))) (hw : s.1.length ≤ 1000)
    (hno : ¬ OkSg (sg.take k ++ s :: sg.drop (k + 1))) : BadSg K H (.ref p) :=
  ⟨p, _, rfl, sg_put hk pr ht hp, hno, by rw [List.length_append, List.length_take, List.length_cons, List.length_drop]; have := gs.len; omega, fun x hx => by
    rcases put_sub hx with z | z
    · rw [z]; exact hw
    · obtain ⟨i, hw'⟩ := gs.wd x z
      have := hw'.len
      omega⟩
def spBsg (K : PySem.W.Frag) : Sp := fun vs H Q _ => ∃ (a n b : Addr) (sg mk : Sg) (rs : List Rul) (m : Int), vs = [.ref a, .ref b] ∧ StA H a n m ∧ m ≤ 500000 ∧ BkAt K H b sg mk rs ∧ GSg sg ∧ GMk sg mk ∧
  ∀ (b' : Addr) (sg' : Sg) (H' : Hp), BkAt K H' b' sg' mk [] → BkS sg' mk [] → ¬ OkBk sg' mk [] → Fr a H H' → StA H' a n (m + 2) → Q (.ref b') H'
end Pg
namespace Pg
open PySem PySem.Spec PyProof.Rows L2
/-! ### comprehensions over pairs, of which a property of each item with its pair is known -/
section
variable {K : PySem.W.Frag} {σ : L2.St} {H : Hp} {Q : VK} {p : Addr} {sg : Sg} {j1 j2 : Nat} {te : TE}
theorem rd_prsM {i : Nat} (R : Hp → V → Str × Int → Prop) (mono : ∀ H H' v s, TK K H H' → R H v s → R H' v s) (hi : σ[i]? = some (some (.ref p))) (hS : SgAt K H p sg) (h4 : sg.length ≤ 1000) (hw : ∀ x y, wipe (((wipe σ [j1, j2]).set j1 (some x)).set j2 (some y)) [j1, j2] = wipe σ [j1, j2])
    (ht : ∀ s H', s ∈ sg → Same H H' → ∀ Q' : VK, (∀ v H2, Same H' H2 → R H2 v s → Q' v H2) → te (((wipe σ [j1, j2]).set j1 (some (.str s.1))).set j2 (some (.int s.2))) H' Q')
    (h : ∀ D H' vs, H D = none → Same H H' → H' D = some (.lst vs) → Paired (R H') vs sg → Q (.ref D) H') :
    tLc (iTup K (tVar i)) (gTup K 2 (gCons (gName j1) (gCons (gName j2) gNil))) tYes te [j1, j2] σ H Q := by
  obtain ⟨rs, hT, pr⟩ := hS.ex
  refine ⟨_, hi, p, rfl, ⟨_, hT⟩, fun D nD => lc_tup (K := K) (xs := rs.map V.ref) (fun i H' => Same H H' ∧ ∃ vs, H' D = some (.lst vs) ∧ Paired (R H') vs (sg.take i)) ⟨Same.new nD, [], upd_same, .nil⟩ (fun i H' _ iv => TK.same iv.1 _ _ hT) (fun i x H' hx iv => ?_) (fun H' iv => ?_)⟩
  · rw [List.getElem?_map] at hx
    obtain ⟨r, e, rfl⟩ : ∃ r, rs[i]? = some r ∧ V.ref r = x := by
      cases e : rs[i]? with
      | none => rw [e] at hx; cases hx
      | some z => rw [e] at hx; exact ⟨z, rfl, Option.some.inj hx⟩
    obtain ⟨s, es, hr⟩ := Pg.paired_get pr e
    obtain ⟨sm, vs, hd, hp⟩ := iv
    refine ⟨r, _, rfl, TK.same sm _ _ hr, rfl, _, _, rfl, _, _, rfl, rfl, hw _ _, ?_⟩
    have hl := paired_len hp
    rw [List.length_take] at hl
    refine yes_turn (ht s H' (List.mem_of_getElem? es) sm _ fun v H2 s2 hv => ⟨_, s2 _ _ hd, small1000 (by omega), Same.mut nD (sm.trans s2), vs ++ [v], upd_same, ?_⟩)
    have tk : TK K H2 (upd H2 D (.lst (vs ++ [v]))) := TK.put (s2 _ _ hd)
    rw [take_snoc es]
    have up : ∀ {xs : List V} {ys : Sg} {A B : Hp}, TK K A B → Paired (R A) xs ys → Paired (R B) xs ys := fun {xs ys A B} k h => by
      induction h with
      | nil => exact .nil
      | cons a _ ih => exact .cons (mono _ _ _ _ k a) ih
    exact paired_app (up ((TK.same s2).trans tk) hp) (.cons (mono _ _ _ _ tk hv) .nil)
  · obtain ⟨sm, vs, hd, hp⟩ := iv
    rw [List.length_map, paired_len pr, List.take_length] at hp
    exact h D H' vs nD sm hd hp
end
theorem prs_sg {K : PySem.W.Frag} {H : Hp} {g : Str × Int → Str × Int} : ∀ {vs : List V} {sg : Sg}, Paired (fun v s => ∃ t, v = .ref t ∧ SqT K H t [.str (g s).1, .int (g s).2]) vs sg → ∃ rs : List Addr, vs = rs.map V.ref ∧ SgR K H rs (sg.map g)
  | _, _, .nil => ⟨[], rfl, .nil⟩
  | _, _, .cons ⟨t, e, h⟩ hp => by
    obtain ⟨rs, e2, h2⟩ := prs_sg hp
    exact ⟨t :: rs, by rw [e, e2]; rfl, .cons h h2⟩
/-- the place before this one, the last one before the first -/
theorem at_prev {n j : Nat} (hj : j < n) (h : 1 < n) : ∃ k, k < n ∧ k ≠ j ∧ ∀ xs : List V, xs.length = n → atI xs ((j : Int) - 1) = xs[k]? := by
  by_cases z : j = 0
  · refine ⟨n - 1, by omega, by omega, fun xs hx => ?_⟩
    subst z
    have e : ixN xs.length (((0 : Nat) : Int) - 1) = some (xs.length - 1) := by
      unfold ixN
      simp
      omega
    unfold atI
    rw [e, hx]; rfl
  · refine ⟨j - 1, by omega, by omega, fun xs hx => ?_⟩
    rw [show ((j : Int) - 1) = ((j - 1 : Nat) : Int) by omega, Pg.atI_get]
theorem at_prev1 {n j : Nat} (hj : j < n) : ∃ k, k < n ∧ (1 < n → k ≠ j) ∧ ∀ xs : List V, xs.length = n → atI xs ((j : Int) - 1) = xs[k]? := by
  by_cases h : 1 < n
  · obtain ⟨k, a, b, c⟩ := at_prev hj h
    exact ⟨k, a, fun _ => b, c⟩
  · refine ⟨0, by omega, fun z => absurd z h, fun xs hx => ?_⟩
    have e0 : j = 0 := by omega
    subst e0
    have e : ixN xs.length (((0 : Nat) : Int) - 1) = some 0 := by
      unfold ixN
      simp
      omega
    unfold atI
    rw [e]; rfl
end Pg
namespace Pg
open PySem PySem.Spec PyProof.Rows L2
def spBhd (K : PySem.W.Frag) : Sp := fun vs H Q _ => ∃ (g : Addr) (sg : Sg), vs = [.ref g] ∧ SgAt K H g sg ∧ GSg sg ∧
  ∀ (p : Addr) (vs : List V) (H' : Hp), H p = none → Same H H' → H' p = some (.lst vs) → 1 ≤ vs.length → vs.length ≤ 100 → (∀ v ∈ vs, BadHd K sg H' v) → Q (.ref p) H'
end Pg

set_option Elab.async false
set_option linter.all false
set_option maxRecDepth 100000
set_option maxHeartbeats 4000000
namespace Pg
open PySem PySem.Spec PyProof.Rows L2
theorem tuple_mul1 (l : Addr) (items : Array Value) (n : Nat) (dd : Option Addr) (sl : Array (Option Value)) (u : Tok) :
    Meets (Builtin.«tuple.__mul__» ⟨[.ref l, .int 1 u], []⟩) (fun _ R s => s.heap.get? l = some { cls := .type "tuple", dict := dd, data := .seq items n, slots := sl } ∧ R (.ok (.ret (Value.ref l))) s) :=
  .of_wp fun prog w A R s h => by
    obtain ⟨hp, g, d, tk, os⟩ := s
    obtain ⟨hl, h⟩ := h
    have f1 := AutoSeq1.idx_int
    have c1 : (items.isEmpty || (1 : Int) == 1) = true := by simp
    have c0 : (decide ((1 : Int) < -(2 ^ 63)) || decide ((1 : Int) ≥ 2 ^ 63)) = false := by decide
    wp_walk using AutoSeq1.wpAny_loadPart' hl
    repeat (first
      | (refine wpAny_ite_false (decide_eq_false (by rw [c0]; exact Bool.false_ne_true)) ?_; wp_walk using AutoSeq1.wpAny_loadPart' hl)
      | (refine wpAny_ite_true (decide_eq_true c1) ?_; wp_walk using AutoSeq1.wpAny_loadPart' hl))
    exact ⟨_, rfl, h⟩
def rRepA (K : PySem.W.Frag) : R2 := fun x y H Q => ∃ (l : Addr) (k : Nat) (xs : List V), x = .ref l ∧ y = .int (k : Nat) ∧ SqT K H l xs ∧ xs ≠ [] ∧ 1 ≤ k ∧ k ≤ 1000 ∧ xs.length ≤ 1000 ∧ ∀ p H', Same H H' → SqT K H' p (List.replicate k xs).flatten → Q (.ref p) H'
section
variable {X : Cx}
theorem op_repA : OpR X (binaryOp .Mult) (rRepA X.K) := by
  intro pins s σ H x y v u Q I rx ry h
  obtain ⟨l, k, xs, rfl, rfl, hT, hne, h1, h2, hz, q⟩ := h
  by_cases hk : k = 1
  · subst hk
    have q1 : Q (.ref l) H := q l H (Same.refl H) (by simpa using hT)
    cases rx
    obtain ⟨t, rfl⟩ := ry
    obtain ⟨its, r, ⟨⟨cls, dd, data, sl⟩, ho, hc, n, hd⟩, hs⟩ := I.tuple hT
    simp only at hc hd
    subst hc hd
    exact wpAny_binaryOp_repeat_ref (T := "tuple") (U := "int") (by decide) ⟨_, ho, rfl⟩ (fun s' => typeIs_int s' 1 t) noFill_tuple_mul F.fills_int_mul F.slot_int_rmul repeat_tuple F.slot_int_index.lookup
      (call_meets F.slot_int_rmul (typeIs_int s 1 t) F.entry_int_rmul (F.args_int_rmul_2 _ _) (int_rmul_tuple 1 t l its.toArray n dd sl)
        ⟨ho, rfl, ⟨_, ho, rfl⟩, call_meets F.slot_tuple_mul ⟨_, ho, rfl⟩ F.entry_tuple_mul (F.args_tuple_mul_2 _ _) (tuple_mul1 l its.toArray n dd sl t) ⟨ho, ⟨.ref l, H, I, rfl, q1⟩⟩⟩)
  · exact op_repT pins s σ H (.ref l) (.int (k : Nat)) v u Q I rx ry ⟨l, (k : Int), xs, rfl, rfl, hT, hne, by omega, by omega, hz, fun p np => q p _ (Same.new np) (by rw [Int.toNat_natCast]; exact SqT.mk upd_same)⟩
end
end Pg
namespace Pg
open PySem PySem.Spec PyProof.Rows L2
theorem rdrB_many {sg : Sg} {labels : List (List Str)} {md : List PyData} (h : ¬ (1 ≤ labels.length ∧ labels.length ≤ 24)) : rdrB sg labels md = false := by
  unfold rdrB
  by_cases h1 : 1 ≤ labels.length
  · rw [decide_eq_false (show ¬ labels.length ≤ 24 from fun z => h ⟨h1, z⟩), Bool.and_false, Bool.false_and]
  · rw [decide_eq_false h1, Bool.false_and, Bool.false_and]
theorem rdrB_len {sg : Sg} {labels : List (List Str)} {md : List PyData} (h : md.length ≠ sg.length) : rdrB sg labels md = false := by
  unfold rdrB
  rw [decide_eq_false h, Bool.false_and, Bool.and_false, Bool.and_false]
theorem rdrB_lab {sg : Sg} {labels : List (List Str)} {md : List PyData} {l : List Str} (hl : l ∈ labels) (h : labB l = false) : rdrB sg labels md = false := by
  unfold rdrB
  have : labels.all labB = false := by rw [List.all_eq_false]; exact ⟨l, hl, by rw [h]; simp⟩
  rw [this, Bool.false_and, Bool.and_false]
theorem rdrB_ent {sg : Sg} {labels : List (List Str)} {md : List PyData} {k : Nat} {d : PyData} {s : Str × Int} (h1 : md[k]? = some d) (h2 : sg[k]? = some s) (h : entryB labels.length s.2.toNat d = false) : rdrB sg labels md = false := by
  unfold rdrB
  have : ((md.zip sg).all fun p => entryB labels.length p.2.2.toNat p.1) = false := by
    rw [List.all_eq_false]
    exact ⟨(d, s), List.mem_of_getElem? (i := k) (by rw [List.getElem?_zip_eq_some]; exact ⟨h1, h2⟩), by show ¬ entryB labels.length s.2.toNat d = true; rw [h]; simp⟩
  rw [this, Bool.and_false, Bool.and_false, Bool.and_false]
theorem rdrB_ok {sg : Sg} {labels : List (List Str)} {md : List PyData} (h1 : 1 ≤ labels.length ∧ labels.length ≤ 24) (h2 : ∀ l ∈ labels, labB l = true) (mo : MvOk labels.length sg md) : rdrB sg labels md = true := by
  unfold rdrB
  rw [decide_eq_true h1.1, decide_eq_true h1.2, List.all_eq_true.mpr h2, decide_eq_true mo.len]
  show ((md.zip sg).all fun p => entryB labels.length p.2.2.toNat p.1) = true
  rw [List.all_eq_true]
  rintro ⟨d, s⟩ hp
  obtain ⟨i, hi, e⟩ := List.getElem_of_mem hp
  have : (md.zip sg)[i]? = some (d, s) := by rw [List.getElem?_eq_getElem hi, e]
  rw [List.getElem?_zip_eq_some] at this
  exact entryB_ent (mo.ent i s d this.2 this.1)
theorem mo_inAll {m : Nat} {sg : Sg} {md : List PyData} (hm : m ≤ 100) (mo : MvOk m sg md) : inAll md = true := inAll_of fun d hd => by
  obtain ⟨i, hi, rfl⟩ := List.getElem_of_mem hd
  have hi2 : i < sg.length := by rw [← mo.len]; exact hi
  exact ent_inD hm (mo.ent i _ _ (List.getElem?_eq_getElem hi2) (List.getElem?_eq_getElem hi))
theorem entryB_len {m b : Nat} {ds : List PyData} (h : ds.length ≠ m) : entryB m (b + 1) (.tuple ds) = false := by rw [entryB, decide_eq_false h, Bool.false_and]
theorem entryB_mem {m b : Nat} {ds : List PyData} {e : PyData} (he : e ∈ ds) (h : entryB m b e = false) : entryB m (b + 1) (.tuple ds) = false := by
  have : ds.all (entryB m b) = false := by rw [List.all_eq_false]; exact ⟨e, he, by rw [h]; simp⟩
  rw [entryB, this, Bool.and_false]
theorem inAll_app {a b : List PyData} (h1 : inAll a = true) (h2 : inAll b = true) : inAll (a ++ b) = true := inAll_of fun d hd => by
  rcases List.mem_append.mp hd with z | z
  · exact inAll_mem h1 d z
  · exact inAll_mem h2 d z
theorem inAll_take {a : List PyData} (h : inAll a = true) (n : Nat) : inAll (a.take n) = true := inAll_of fun d hd => inAll_mem h d (List.mem_of_mem_take hd)
theorem inAll_drop {a : List PyData} (h : inAll a = true) (n : Nat) : inAll (a.drop n) = true := inAll_of fun d hd => inAll_mem h d (List.mem_of_mem_drop hd)
theorem inD_tup {ds : List PyData} (h1 : ds.length ≤ 100) (h2 : inAll ds = true) : inD (.tuple ds) = true := by rw [inD, decide_eq_true h1, h2]; rfl
theorem put_len {α : Type} {xs : List α} {k : Nat} {o : α} (hk : k < xs.length) : (xs.take k ++ o :: xs.drop (k + 1)).length = xs.length := by
  rw [List.length_append, List.length_take, List.length_cons, List.length_drop]; omega
def spSpe (K : PySem.W.Frag) (lvl : Nat) : Sp := fun vs H Q _ => ∃ (a n : Addr) (v : V) (d : PyData) (ar many : Nat) (m : Int), vs = [.ref a, v, .int (many : Nat)] ∧ ar < lvl ∧ StA H a n m ∧ m + 3 * (lvl : Int) ≤ 400000 ∧ Dp K H v d ∧ Ent many ar d ∧ 1 ≤ many ∧ many ≤ 25 ∧
  ∀ (v' : V) (d' : PyData) (H' : Hp), Dp K H' v' d' → inD d' = true → entryB many ar d' = false → Fr a H H' → StA H' a n (m + 3 * (lvl : Int)) → Q v' H'
def spSpo40 (K : PySem.W.Frag) : Sp := fun vs H Q _ => ∃ (a n g r : Addr) (sg : Sg) (labels : List (List Str)) (md : List PyData) (m : Int), vs = [.ref a, .ref g, .ref r] ∧ StA H a n m ∧ m ≤ 250000 ∧ SgAt K H g sg ∧ GSg sg ∧ RdAt K H r labels md ∧ MvOk labels.length sg md ∧ 1 ≤ labels.length ∧ labels.length ≤ 24 ∧ ShortL labels ∧
  ∀ (r' : Addr) (labels' : List (List Str)) (md' : List PyData) (H' : Hp), RdAt K H' r' labels' md' → labels'.length ≤ 1000 → ShortL labels' → inAll md' = true → md'.length ≤ 1000 → rdrB sg labels' md' = false → Fr a H H' → StA H' a n (m + 3100) → Q (.ref r') H'
end Pg

set_option Elab.async false
set_option linter.all false
set_option maxRecDepth 100000
set_option maxHeartbeats 4000000
namespace Pg
open PySem PySem.Spec PyProof.Rows L2
section
variable {K : PySem.W.Frag} {te : TE} {ta : TA} {σ : L2.St} {H : Hp} {d : PyData} {ds : List PyData}
theorem TaD.lst {Q : VK} (h : TaD K ta σ H ds) (hl : ds.length ≤ 1000) (hs : nestAll ds = true) (q : ∀ (lo : Addr) (vs : List V) (H' : Hp), H lo = none → Same H H' → H' lo = some (.lst vs) → DpAll K H' vs ds → Q (.ref lo) H') : tLst ta σ H Q :=
  h H (Same.refl H) _ fun vs H2 s2 hvs => ⟨by have := dpAll_len hvs; exact Nat.le_of_lt (smallN (by omega)), fun lo nlo => q lo vs _ (same_free s2 nlo) (s2.trans (Same.new nlo)) upd_same (dpAll_so (TK.new nlo) _ _ (nests_solid hs) hvs)⟩
theorem TeD.tupN (h : TaD K ta σ H ds) (hl : ds.length ≤ 1000) (hs : nestAll ds = true) : TeD K (tTup ta) σ H (.tuple ds) := TeD.tup h hl (nests_solid hs)
theorem TaD.consN (h : TeD K te σ H d) (hs : nest d = true) (t : TaD K ta σ H ds) : TaD K (tCons te ta) σ H (d :: ds) := TaD.cons h (nest_solid hs) t
theorem TeD.varS {i : Nat} {x : Str} (h : σ[i]? = some (some (.str x))) : TeD K (tVar i) σ H (.str x) := TeD.var h (.str x) (nest_solid rfl)
end
theorem dpAll_bad {K : PySem.W.Frag} {H : Hp} {sg : Sg} : ∀ {vs : List V} {ds : List PyData}, DpAll K H vs ds → (∀ d ∈ ds, NsS d ∧ headB sg d = false) → ∀ v ∈ vs, BadHd K sg H v
  | _, _, .nil, _, v, hv => absurd hv List.not_mem_nil
  | _, _, .cons a t, h, v, hv => by
    rcases List.mem_cons.mp hv with z | z
    · rw [z]; exact ⟨_, a, (h _ (List.mem_cons_self ..)).1, (h _ (List.mem_cons_self ..)).2⟩
    · exact dpAll_bad t (fun d hd => h d (List.mem_cons_of_mem _ hd)) v z
abbrev tps (x : Str) (ds : List PyData) : PyData := .tuple (.str x :: ds)
abbrev bads0 (c : Str) : List PyData := [tps c [.str "x"], .tuple [tps c []], .str "end", .str c, tps "x" [], .tuple [], .str "x1"]
abbrev bads1 (c s : Str) : List PyData := [tps s [], tps s [.str "x", .str "v"], tps s [tps c []], tps s [tps s [.str "x"]]]
abbrev bads2 (c s : Str) : List PyData := [tps s [.str "x"], tps s [.str "x", .str "x"], tps s [.str "x", tps c []], tps s [tps s [.str "x", .str "v"], .str "xx"], tps s [.str "x", .str "v", .str "xx"]]
theorem hb_ar {sg : Sg} {s : Str} {ks : List PyData} {k : Int} (h : numB sg s = k) (hn : k ≠ (ks.length : Nat)) : headB sg (tps s ks) = false := by
  show (decide (numB sg s = (ks.length : Nat)) && _) = false
  rw [h, decide_eq_false hn]
  rfl
theorem hb_cn {sg : Sg} {s : Str} {ks : List PyData} (h : ((ks.filter (nmPart sg)).length) < ks.length) : headB sg (tps s ks) = false := by
  show (_ && decide ((dcnt (hdNs sg (.str s :: ks)) : Int) = ((PyData.str s :: ks).length : Int) - 1)) = false
  have h1 := dcnt_le (hdNs sg (.str s :: ks))
  have h2 : (hdNs sg (.str s :: ks)).length = (ks.filter (nmPart sg)).length := by
    show (((ks.filter (nmPart sg)).map toStr)).length = _
    rw [List.length_map]
  rw [decide_eq_false (by rw [List.length_cons]; omega), Bool.and_false]
theorem bads0_bad {sg : Sg} (gs : GSg sg) {c : Str} (hc : (c, (0 : Int)) ∈ sg) (hl : c.length ≤ 8) : ∀ d ∈ bads0 c, NsS d ∧ headB sg d = false := by
  have hn := numB_in gs.nd hc
  have hx : numB sg "x" = -1 := by
    have := isn_out gs (x := "x") (by decide +kernel) (by decide +kernel) (by decide +kernel)
    unfold isnB at this
    rw [Bool.and_eq_true] at this
    exact of_decide_eq_true this.2
  have z (x : Str) (h : x.length ≤ 100000) : NsZ 1 (.str x) := NsZ.str h
  intro d hd
  simp only [List.mem_cons, List.not_mem_nil, or_false] at hd
  rcases hd with rfl | rfl | rfl | rfl | rfl | rfl | rfl
  · exact ⟨(NsZ.t2 rfl (z _ (by decide +kernel))).ok (by decide), hb_ar hn (by decide)⟩
  · exact ⟨(NsZ.t1 (NsZ.t1 (a := .str c) rfl).ne).ok (by decide), rfl⟩
  · exact ⟨(z _ (by decide +kernel)).ok (by decide), by show (isW "end" && decide (numB sg "end" = -1)) = false; rw [show isW "end" = false by decide +kernel]; rfl⟩
  · refine ⟨(z _ (by omega)).ok (by decide), ?_⟩
    show (isW c && decide (numB sg c = -1)) = false
    rw [hn, Bool.and_comm]; rfl
  · exact ⟨(NsZ.t1 (a := .str "x") rfl).ok (by decide), hb_ar hx (by decide)⟩
  · exact ⟨NsZ.t0.ok (by decide), rfl⟩
  · exact ⟨(z _ (by decide +kernel)).ok (by decide), by show (isW "x1" && decide (numB sg "x1" = -1)) = false; rw [show isW "x1" = false by decide +kernel]; rfl⟩
theorem bads1_bad {sg : Sg} (gs : GSg sg) {c s : Str} (hs : (s, (1 : Int)) ∈ sg) : ∀ d ∈ bads1 c s, NsS d ∧ headB sg d = false := by
  have hn := numB_in gs.nd hs
  have zx : NsZ 1 (.str "x") := NsZ.str (by decide +kernel)
  have zv : NsZ 1 (.str "v") := NsZ.str (by decide +kernel)
  intro d hd
  simp only [List.mem_cons, List.not_mem_nil, or_false] at hd
  rcases hd with rfl | rfl | rfl | rfl
  · exact ⟨(NsZ.t1 (a := .str s) rfl).ok (by decide), hb_ar hn (by decide)⟩
  · exact ⟨(NsZ.t3 rfl zx zv).ok (by decide), hb_ar hn (by decide)⟩
  · exact ⟨(NsZ.t2 rfl (NsZ.t1 (a := .str c) rfl)).ok (by decide), hb_cn (by show 0 < 1; decide)⟩
  · exact ⟨(NsZ.t2 rfl (NsZ.t2 rfl zx)).ok (by decide), hb_cn (by show 0 < 1; decide)⟩
theorem dc_xx : dcnt (["x", "x"] : List Str) = 1 := by decide +kernel
theorem bads2_bad {sg : Sg} (gs : GSg sg) {c s : Str} (hs : (s, (2 : Int)) ∈ sg) : ∀ d ∈ bads2 c s, NsS d ∧ headB sg d = false := by
  have hn := numB_in gs.nd hs
  have zx : NsZ 1 (.str "x") := NsZ.str (by decide +kernel)
  have zv : NsZ 1 (.str "v") := NsZ.str (by decide +kernel)
  have zw : NsZ 1 (.str "xx") := NsZ.str (by decide +kernel)
  have ix : isnB sg "x" = true := isn_out gs (x := "x") (by decide +kernel) (by decide +kernel) (by decide +kernel)
  intro d hd
  simp only [List.mem_cons, List.not_mem_nil, or_false] at hd
  rcases hd with rfl | rfl | rfl | rfl | rfl
  · exact ⟨(NsZ.t2 rfl zx).ok (by decide), hb_ar hn (by decide)⟩
  · refine ⟨(NsZ.t3 rfl zx zx).ok (by decide), ?_⟩
    have e : hdNs sg [.str s, .str "x", .str "x"] = (["x", "x"] : List Str) := by
      show (([PyData.str "x", PyData.str "x"] : List PyData).filter (nmPart sg)).map toStr = _
      rw [List.filter_cons_of_pos (by exact ix), List.filter_cons_of_pos (by exact ix)]
      rfl
    show (_ && decide ((dcnt (hdNs sg [.str s, .str "x", .str "x"]) : Int) = 3 - 1)) = false
    rw [e, dc_xx, Bool.and_comm]; rfl
  · refine ⟨(NsZ.t3 rfl zx (NsZ.t1 (a := .str c) rfl)).ok (by decide), hb_cn ?_⟩
    rw [List.filter_cons_of_pos (by exact ix)]
    show 1 < 2
    decide
  · refine ⟨(NsZ.t3 rfl (NsZ.t3 rfl zx zv) zw).ok (by decide), hb_cn ?_⟩
    rw [List.filter_cons_of_neg (by show ¬ (false = true); decide)]
    have := List.length_filter_le (nmPart sg) [PyData.str "xx"]
    show _ < 2
    have h1 : [PyData.str "xx"].length = 1 := rfl
    omega
  · exact ⟨(NsZ.t4 rfl zx zv zw).ok (by decide), hb_ar hn (by decide)⟩
end Pg
namespace Pg
open PySem PySem.Spec PyProof.Rows L2
def spBrl (K : PySem.W.Frag) : Sp := fun vs H Q _ => ∃ (a n b : Addr) (sg mk : Sg) (rs : List Rul) (m : Int), vs = [.ref a, .ref b] ∧ StA H a n m ∧ m ≤ 500000 ∧ BkAt K H b sg mk rs ∧ GSg sg ∧ GMk sg mk ∧ rs.length ≤ 24 ∧ (∀ r ∈ rs, RulS r) ∧
  ∀ (b' : Addr) (rs' : List Rul) (H' : Hp), BkAt K H' b' sg mk rs' → BkS sg mk rs' → ¬ OkBk sg mk rs' → Fr a H H' → StA H' a n (m + 4) → Q (.ref b') H'
end Pg

set_option Elab.async false
set_option linter.all false
set_option maxRecDepth 100000
set_option maxHeartbeats 4000000
namespace Pg
open PySem PySem.Spec PyProof.Rows L2
/-! ### rules that are none, and their displays -/
theorem rb_mk {sg mk : Sg} {r : Rul} (h : numB mk r.mw < 0) : rulB sg mk r = false := by
  unfold rulB
  rw [decide_eq_false (by omega : ¬ 0 ≤ numB mk r.mw), Bool.false_and]
theorem rb_hd {sg mk : Sg} {r : Rul} (h : headB sg r.hd = false) : rulB sg mk r = false := by
  unfold rulB
  rw [h, Bool.false_and, Bool.and_false]
theorem rb_len {sg mk : Sg} {r : Rul} (h : 4 < r.bd.length) : rulB sg mk r = false := by
  unfold rulB
  rw [decide_eq_false (by omega : ¬ r.bd.length ≤ 4), Bool.false_and, Bool.and_false, Bool.and_false]
theorem rb_lit {sg mk : Sg} {r : Rul} {l : Lit} (hl : l ∈ r.bd) (h : litB sg mk (numB mk r.mw) l = false) : rulB sg mk r = false := by
  unfold rulB
  have e : r.bd.all (litB sg mk (numB mk r.mw)) = false := List.all_eq_false.mpr ⟨l, hl, by rw [h]; decide⟩
  rw [e, Bool.false_and, Bool.and_false, Bool.and_false, Bool.and_false]
theorem rb_fur {sg mk : Sg} {r : Rul} (h : 1 < (furD r.hd r.bd).length) : rulB sg mk r = false := by
  unfold rulB
  rw [decide_eq_false (by omega : ¬ (furD r.hd r.bd).length ≤ 1), Bool.and_false, Bool.and_false, Bool.and_false, Bool.and_false]
theorem lb_mk {sg mk : Sg} {fl : Int} {l : Lit} (h : numB mk l.mw < 0) : litB sg mk fl l = false := by
  unfold litB
  rw [decide_eq_false (by omega : ¬ 0 ≤ numB mk l.mw), Bool.false_and, Bool.false_and]
theorem lb_fl {sg mk : Sg} {fl : Int} {l : Lit} (h : ¬ numB mk l.mw ≤ if l.yes then fl else fl - 1) : litB sg mk fl l = false := by
  unfold litB
  rw [decide_eq_false h, Bool.and_false, Bool.false_and]
theorem lb_sz {sg mk : Sg} {fl : Int} {l : Lit} (h : 6 < (preD l.t).length) : litB sg mk fl l = false := by
  unfold litB
  rw [decide_eq_false (by omega : ¬ (preD l.t).length ≤ 6), Bool.false_and, Bool.and_false]
theorem lb_nod {sg mk : Sg} {fl : Int} {l : Lit} {d : PyData} (hd : d ∈ preD l.t) (h : nodB sg d = false) : litB sg mk fl l = false := by
  unfold litB
  have e : (preD l.t).all (nodB sg) = false := List.all_eq_false.mpr ⟨d, hd, by rw [h]; decide⟩
  rw [e, Bool.and_false, Bool.and_false]
theorem wd_ne {i : Nat} {w x : Str} (hw : Wd i w) (h : ∃ c ∈ cs x, c ≠ 97 ∧ c ≠ 98 ∧ c ≠ 121 ∧ c ≠ 122) (h2 : (cs x).head? ≠ some 99) : w ≠ x := by
  intro e
  subst e
  obtain ⟨c, hc, hn⟩ := h
  rcases hw with ⟨_, _, h⟩ | ⟨_, h⟩
  · have := h c hc
    omega
  · rw [h] at h2
    exact h2 rfl
theorem out_mk {sg mk : Sg} (g : GMk sg mk) {x : Str} (h : ∃ c ∈ cs x, c ≠ 97 ∧ c ≠ 98 ∧ c ≠ 121 ∧ c ≠ 122) (h2 : (cs x).head? ≠ some 99) : numB mk x = -1 := numB_not fun hm => by
  obtain ⟨s, hs, e⟩ := List.mem_map.mp hm
  obtain ⟨i, _, hw⟩ := g.w s hs
  exact wd_ne hw h h2 e
/-- further names, of the terms alone -/
def furT (hd : PyData) (ts : List PyData) : List Str := ts.foldl (fun acc t => (nmsD t).foldl (furStep (nmsD hd)) acc) []
theorem furD_T (hd : PyData) (bd : List Lit) : furD hd bd = furT hd (bd.map (·.t)) := by
  unfold furD furT
  rw [List.foldl_map]
theorem nmsD_tps (s : Str) (ks : List PyData) : nmsD (tps s ks) = (ks.flatMap preD).foldl nmStepD [] := by
  unfold nmsD
  rw [preD_tup]
  rfl
theorem fur_vw {m : Str} : 1 < (furD (.str "x") [⟨true, m, .str "v"⟩, ⟨true, m, .str "w"⟩]).length := by
  rw [furD_T]
  show 1 < (furT (.str "x") [.str "v", .str "w"]).length
  decide +kernel
theorem fur_xv {m c : Str} : 1 < (furD (tps c []) [⟨true, m, .str "x"⟩, ⟨true, m, .str "v"⟩]).length := by
  rw [furD_T]
  show 1 < (furT (tps c []) [.str "x", .str "v"]).length
  unfold furT
  rw [nmsD_tps]
  decide +kernel
theorem fur_wx {m s : Str} : 1 < (furD (tps s [.str "x", .str "v"]) [⟨true, m, tps s [.str "w", .str "xx"]⟩]).length := by
  rw [furD_T]
  show 1 < (furT (tps s [.str "x", .str "v"]) [tps s [.str "w", .str "xx"]]).length
  unfold furT
  rw [nmsD_tps, List.foldl_cons, List.foldl_nil, nmsD_tps]
  decide +kernel
section
variable {K : PySem.W.Frag} {te te1 te2 te3 : TE} {ta : TA} {σ : L2.St} {H : Hp} {d hd : PyData} {m : Str} {y : Bool} {l : Lit} {ls bd : List Lit}
theorem solid_lit (h : nest l.t = true) : solid (litD l) = true := by
  rw [solid, solid.solidAll, solid.solidAll, solid.solidAll, solid.solidAll, solid, solid, nest_solid h]; rfl
theorem solid_lits (h : ∀ l ∈ bd, nest l.t = true) : solid.solidAll (bd.map litD) = true := solidAll_of fun d hd => by
  obtain ⟨l, hl, rfl⟩ := List.mem_map.mp hd
  exact solid_lit (h l hl)
theorem TeD.lit (h1 : TeD K te1 σ H (.bool y)) (h2 : TeD K te2 σ H (.str m)) (h3 : TeD K te3 σ H d) (hn : nest d = true) : TeD K (tTup (tCons te1 (tCons te2 (tCons te3 tNil)))) σ H (litD ⟨y, m, d⟩) :=
  TeD.tup (.cons h1 (by rw [solid]) (.consN h2 rfl (.consN h3 hn .nil))) (Nat.le_of_ble_eq_true rfl) (by rw [solid.solidAll, solid.solidAll, solid.solidAll, solid.solidAll, solid, solid, nest_solid hn]; rfl)
theorem TaD.consL (h : TeD K te σ H (litD l)) (hn : nest l.t = true) (t : TaD K ta σ H (ls.map litD)) : TaD K (tCons te ta) σ H ((l :: ls).map litD) := TaD.cons h (solid_lit hn) t
structure BRow (K : PySem.W.Frag) (sg mk : Sg) (te : TE) (σ : L2.St) (H : Hp) : Prop where
  ok : ∀ H', Same H H' → ∀ Q' : VK, (∀ v H2, Same H' H2 → BadRl K sg mk H2 v → Q' v H2) → te σ H' Q'
theorem BRow.rul {sg mk : Sg} (h1 : TeD K te1 σ H (.str m)) (h2 : TeD K te2 σ H hd) (h3 : TeD K te3 σ H (.tuple (bd.map litD))) (rs : RulS ⟨m, hd, bd⟩) (hb : rulB sg mk ⟨m, hd, bd⟩ = false) : BRow K sg mk (tTup (tCons te1 (tCons te2 (tCons te3 tNil)))) σ H := by
  have hsl : solid.solidAll (bd.map litD) = true := solid_lits fun l hl => (rs.l l hl).t.n
  have h : TeD K (tTup (tCons te1 (tCons te2 (tCons te3 tNil)))) σ H (rulD ⟨m, hd, bd⟩) := TeD.tup (.consN h1 rfl (.consN h2 rs.h.n (.cons h3 (by rw [solid]; exact hsl) .nil))) (Nat.le_of_ble_eq_true rfl) (by rw [solid.solidAll, solid.solidAll, solid.solidAll, solid.solidAll, solid, solid, nest_solid rs.h.n, hsl]; rfl)
  exact ⟨fun H' s Q' q => h H' s Q' fun v H2 s2 hv => q v H2 s2 ⟨_, hv, rs, hb⟩⟩
theorem BRow.row {sg mk : Sg} (h1 : TeD K te1 σ H (.str m)) (h2 : TeD K te2 σ H hd) (h3 : TaD K ta σ H (bd.map litD)) (rs : RulS ⟨m, hd, bd⟩) (hb : rulB sg mk ⟨m, hd, bd⟩ = false) : BRow K sg mk (tTup (tCons te1 (tCons te2 (tCons (tTup ta) tNil)))) σ H :=
  BRow.rul h1 h2 (TeD.tup h3 (by rw [List.length_map]; exact rs.b) (solid_lits fun l hl => (rs.l l hl).t.n)) rs hb
end
theorem ls_of {y : Bool} {m : Str} {d : PyData} {n : Nat} (hm : m.length ≤ 100000) (h : NsZ n d) (hn : n ≤ 1000) : LitS ⟨y, m, d⟩ := ⟨hm, h.ok hn⟩
theorem all1 {P : Lit → Prop} {a : Lit} (h : P a) : ∀ l ∈ [a], P l := fun l hl => by rw [List.mem_singleton] at hl; rw [hl]; exact h
theorem all2 {P : Lit → Prop} {a b : Lit} (h : P a) (h2 : P b) : ∀ l ∈ [a, b], P l := fun l hl => by
  rcases List.mem_cons.mp hl with z | z
  · rw [z]; exact h
  · exact all1 h2 l z
end Pg
namespace Pg
open PySem PySem.Spec PyProof.Rows L2
theorem BkAt.keep {K : PySem.W.Frag} {H H' : Hp} {b : Addr} {sg mk : Sg} {rs : List Rul} (k : TK K H H') (hs : ∀ r ∈ rs, RulS r) (h : BkAt K H b sg mk rs) : BkAt K H' b sg mk rs := by
  obtain ⟨g, m, r, h1, h2, h3, h4⟩ := h.ex
  exact ⟨g, m, r, k _ _ h1, h2.keep k, h3.keep k, dp_so k _ _ (by rw [solid]; exact so_rul hs) h4⟩
end Pg

set_option Elab.async false
set_option linter.all false
set_option maxRecDepth 100000
set_option maxHeartbeats 4000000
namespace Pg
open PySem PySem.Spec PyProof.Rows L2
/-! ### words of games: beside drawn words there may be x and w -/
structure WdsG (ts : List Str) : Prop where
  nd : ts.Nodup
  wd : ∀ t ∈ ts, (∃ i, i < ts.length ∧ Wd i t) ∨ t = "x" ∨ t = "w"
theorem WdsG.fresh {ts : List Str} {w : Str} (h : WdsG ts) (e : cs w = [99, 97 + ts.length]) : w ∉ ts := fun hm => by
  rcases h.wd w hm with ⟨i, hi, h⟩ | h | h
  · rcases h with ⟨_, _, z⟩ | ⟨_, z⟩
    · have := z 99 (by rw [e]; exact List.mem_cons_self ..)
      omega
    · rw [e] at z
      have := (List.cons.inj (List.cons.inj z).2).1
      omega
  · rw [h] at e
    have h1 : cs ("x" : Str) = [120] := by decide +kernel
    rw [h1] at e
    cases e
  · rw [h] at e
    have h1 : cs ("w" : Str) = [119] := by decide +kernel
    rw [h1] at e
    cases e
theorem WdsG.snoc {ts : List Str} {w : Str} (h : WdsG ts) (n : w ∉ ts) (d : Wd ts.length w ∨ w = "x" ∨ w = "w") : WdsG (ts ++ [w]) where
  nd := List.nodup_append.mpr ⟨h.nd, by simp, fun a ha b hb e => by
    rw [List.mem_singleton] at hb
    subst hb e
    exact n ha⟩
  wd := fun t q => by
    rw [List.length_append]
    rcases List.mem_append.mp q with z | z
    · rcases h.wd t z with ⟨i, hi, hw⟩ | hw
      · exact .inl ⟨i, by omega, hw⟩
      · exact .inr hw
    · rw [List.mem_singleton] at z
      rw [z]
      rcases d with d | d
      · exact .inl ⟨ts.length, by show ts.length < ts.length + 1; omega, d⟩
      · exact .inr d
theorem WdsG.isw {ts : List Str} (h : WdsG ts) {t : Str} (ht : t ∈ ts) : isW t = true := by
  rcases h.wd t ht with ⟨i, _, hw⟩ | hw | hw
  · exact wd_isW hw
  · rw [hw]; decide +kernel
  · rw [hw]; decide +kernel
theorem WdsG.nb {ts : List Str} (h : WdsG ts) {t : Str} (ht : t ∈ ts) : t ≠ "bottom" := by
  rcases h.wd t ht with ⟨i, _, hw⟩ | hw | hw
  · exact wd_ne hw (by decide +kernel) (by decide +kernel)
  · rw [hw]; decide +kernel
  · rw [hw]; decide +kernel
def spWordG (K : PySem.W.Frag) : Sp := fun vs H Q _ => ∃ (a n l : Addr) (ts : List Str) (m : Int), vs = [.ref a, .ref l] ∧ StA H a n m ∧ m < 900000 ∧ H l = some (.lst (ts.map V.str)) ∧ l ≠ a ∧ WdsG ts ∧ ts.length < 26 ∧
  ∀ (w : Str) (H' : Hp), w ∉ ts → Wd ts.length w → Fr a H H' → StA H' a n (m + 10) → Q (.str w) H'
/-! ### games as data -/
structure Mv where
  s : Str
  l : Str
  a : Str
  w : List Str
structure Gm where
  st : Sg
  le : List Str
  mv : List Mv
  go : List (Str × Bool)
abbrev stD (s : Str × Int) : PyData := .tuple [.str s.1, .int s.2]
abbrev mvD (m : Mv) : PyData := .tuple [.str m.s, .str m.l, .str m.a, .tuple (m.w.map .str)]
abbrev goD (g : Str × Bool) : PyData := .tuple [.str g.1, .bool g.2]
abbrev gmD (g : Gm) : PyData := .tuple [.tuple (g.st.map stD), .tuple (g.le.map .str), .tuple (g.mv.map mvD), .tuple (g.go.map goD)]
/-! ### the book of a game -/
def nmOf (le : List Str) : Str := ((["x", "y", "z", "w"] : List Str).filter fun x => decide (x ∉ le)).headD ""
def stackD (w : List Str) (d : PyData) : PyData := w.foldr (fun l r => tps l [r]) d
def litOf (nm : Str) (m : Mv) : Lit := ⟨true, m.a, stackD m.w (.str nm)⟩
def goRules (nm : Str) (go : List (Str × Bool)) : List Rul := go.map fun g => ⟨g.1, if g.2 then tps "bottom" [] else .str nm, []⟩
def onRules (st : Sg) : List Rul := (st.filter fun s => decide (s.2 = 1)).map fun s => ⟨s.1, tps "bottom" [], []⟩
def litsOf (nm : Str) (mv : List Mv) (s l : Str) : List Lit := (mv.filter fun m => decide (m.s = s) && decide (m.l = l)).map (litOf nm)
def lrRules (nm : Str) (mv : List Mv) (s : Str × Int) (l : Str) : List Rul := if s.2 = 1 then [⟨s.1, tps l [.str nm], litsOf nm mv s.1 l⟩] else (litsOf nm mv s.1 l).map fun x => ⟨s.1, tps l [.str nm], [x]⟩
def slRules (nm : Str) (g : Gm) (s : Str × Int) : List Rul := g.le.flatMap (lrRules nm g.mv s)
def gmRules (g : Gm) : List Rul := goRules (nmOf g.le) g.go ++ onRules g.st ++ g.st.flatMap (slRules (nmOf g.le) g)
def gmSg (g : Gm) : Sg := g.le.map (fun l => (l, (1 : Int))) ++ ([("bottom", 0)] : Sg)
def gmMk (g : Gm) : Sg := g.st.map fun s => (s.1, (0 : Int))
/-- what is drawn -/
structure GGm (G : Gm) : Prop where
  s : 1 ≤ G.st.length ∧ G.st.length ≤ 6
  l : 1 ≤ G.le.length ∧ G.le.length ≤ 3
  p : ∀ s ∈ G.st, s.2 = 0 ∨ s.2 = 1
  w : WdsG (G.st.map (·.1) ++ G.le)
  m : ∀ m ∈ G.mv, m.s ∈ G.st.map (·.1) ∧ m.l ∈ G.le ∧ m.a ∈ G.st.map (·.1) ∧ m.w.length ≤ 2 ∧ ∀ x ∈ m.w, x ∈ G.le
  ml : G.mv.length ≤ 40
  g : ∀ x ∈ G.go, x.1 ∈ G.st.map (·.1)
  gl : G.go.length ≤ 3
  f : ∀ s ∈ G.st, s.2 = 1 → ∀ l, (G.mv.filter fun m => decide (m.s = s.1) && decide (m.l = l)).length ≤ 4
  r : G.go.length + (G.st.filter fun s => decide (s.2 = 1)).length * (1 + G.le.length) + (G.mv.filter fun m => decide ((m.s, (0 : Int)) ∈ G.st)).length ≤ 24
end Pg

set_option Elab.async false
set_option linter.all false
set_option maxRecDepth 100000
set_option maxHeartbeats 4000000
namespace Pg
open PySem PySem.Spec PyProof.Rows L2
def spStk (K : PySem.W.Frag) : Sp := fun vs H Q _ => ∃ (p : Addr) (v : V) (xs : List Str) (d : PyData), vs = [.ref p, v] ∧ SqT K H p (xs.map V.str) ∧ xs.length ≤ 1000 ∧ Dp K H v d ∧ nest d = true ∧ ∀ v' H', Same H H' → Dp K H' v' (stackD xs d) → Q v' H'
/-- the numbers of the moves with this state and letter -/
def mvIx (ms : List Mv) (s l : Str) : List Nat := idxs (fun m => decide (m.s = s) && decide (m.l = l)) ms
def spMvw (K : PySem.W.Frag) : Sp := fun vs H Q _ => ∃ (p : Addr) (ms : List Mv) (s l : Str), vs = [.ref p, .str s, .str l] ∧ Dp K H (.ref p) (.tuple (ms.map mvD)) ∧ ms.length ≤ 1000 ∧ ∀ q H', H q = none → Same H H' → H' q = some (.lst ((mvIx ms s l).map fun k => .int (k : Nat))) → Q (.ref q) H'
def spLito (K : PySem.W.Frag) : Sp := fun vs H Q _ => ∃ (v : V) (m : Mv) (nm : Str), vs = [v, .str nm] ∧ Dp K H v (mvD m) ∧ m.w.length ≤ 1000 ∧ ∀ v' H', Same H H' → Dp K H' v' (litD (litOf nm m)) → Q v' H'
end Pg
namespace Pg
open PySem PySem.Spec PyProof.Rows L2
def piF (r : PyData) (l : Str) : PyData := tps l [r]
theorem stackD_rev (w : List Str) (d : PyData) : stackD w d = w.reverse.foldl piF d := by
  unfold stackD
  rw [List.foldl_reverse]
  rfl
theorem piF_nest : ∀ (w : List Str) (d : PyData), nest d = true → nest (w.foldl piF d) = true
  | [], d, h => h
  | x :: w, d, h => by
    rw [List.foldl_cons]
    exact piF_nest w _ (by simp [piF, nest, nestAll, h])
theorem stackD_nest {w : List Str} {d : PyData} (h : nest d = true) : nest (stackD w d) = true := by rw [stackD_rev]; exact piF_nest _ _ h
theorem idxs_map {α : Type} (b : α → Bool) (ks : List α) : (idxs b ks).map (fun i => ks[i]?) = (ks.filter b).map some := by
  have go : ∀ n, n ≤ ks.length → (((List.range n).filter fun i => match ks[i]? with | some k => b k | none => false).map (fun i => ks[i]?)) = ((ks.take n).filter b).map some := by
    intro n
    induction n with
    | zero => intro _; rfl
    | succ n ih =>
      intro hn
      have e : ks[n]? = some ks[n] := List.getElem?_eq_getElem (by omega)
      rw [List.range_succ, List.filter_append, List.map_append, ih (by omega), List.take_add_one, e, List.filter_append, List.map_append]
      congr 1
      show (List.filter _ [n]).map _ = ((some ks[n]).toList.filter b).map some
      rw [Option.toList_some]
      by_cases hb : b ks[n] = true
      · rw [List.filter_cons_of_pos hb, List.filter_cons_of_pos (by rw [e]; exact hb)]
        show [ks[n]?] = [some ks[n]]
        rw [e]
      · rw [List.filter_cons_of_neg hb, List.filter_cons_of_neg (by rw [e]; exact hb)]
        rfl
  have := go ks.length (Nat.le_refl _)
  rw [List.take_length] at this
  exact this
theorem so_mv (ms : List Mv) : nestAll (ms.map mvD) = true := by
  induction ms with
  | nil => rfl
  | cons m ms ih =>
    rw [List.map_cons, nestAll, ih, Bool.and_true]
    have h : ∀ w : List Str, nestAll (w.map PyData.str) = true := fun w => by
      induction w with
      | nil => rfl
      | cons x w ih => rw [List.map_cons, nestAll, ih]; rfl
    simp [nest, nestAll, h]
theorem strs_of {K : PySem.W.Frag} {H : Hp} : ∀ {vs : List V} {xs : List Str}, DpAll K H vs (xs.map .str) → vs = xs.map V.str
  | _, [], .nil => rfl
  | _, x :: xs, .cons a t => by
    cases a
    rw [List.map_cons, strs_of t]
end Pg
namespace Pg
open PySem PySem.Spec PyProof.Rows L2
abbrev bkD (sg mk : Sg) (rs : List Rul) : PyData := .tuple [.tuple (sg.map stD), .tuple (mk.map stD), .tuple (rs.map rulD)]
def spDue (K : PySem.W.Frag) : Sp := fun vs H Q _ => ∃ (p : Addr) (g : Gm), vs = [.ref p] ∧ Dp K H (.ref p) (gmD g) ∧ GGm g ∧ ∀ (b : Addr) H', Same H H' → Dp K H' (.ref b) (bkD (gmSg g) (gmMk g) (gmRules g)) → Q (.ref b) H'
end Pg

set_option Elab.async false
set_option linter.all false
set_option maxRecDepth 100000
set_option maxHeartbeats 4000000
namespace Pg
open PySem PySem.Spec PyProof.Rows L2 PySem.SeqAt
section
/-! own rule: t[::-1] of a tuple -/
theorem rev_adj (n : Nat) : Builtin.Slice.sliceAdjust none none (-1) (n : Int) = ((n : Int) - 1, -1) := by
  unfold Builtin.Slice.sliceAdjust
  simp only [show ((-1 : Int) < 0) from by decide, if_true]
theorem rev_places (n : Nat) : Builtin.Slice.slicePlaces ((n : Int) - 1) (-1) (-1) = n := by
  unfold Builtin.Slice.slicePlaces
  simp only [show ¬ ((-1 : Int) > 0) from by decide, if_false, Int.neg_neg, Int.ediv_one]
  split <;> omega
theorem rev_pick (l : List Value) : ((List.range l.length).filterMap fun (k : Nat) => l.toArray[((l.length : Int) - 1 + (k : Int) * -1).toNat]?) = l.reverse := by
  have : ∀ (m : Nat) , m ≤ l.length → ((List.range m).filterMap fun (k : Nat) => l.toArray[((l.length : Int) - 1 + (k : Int) * -1).toNat]?) = l.reverse.take m := by
    intro m
    induction m with
    | zero => intro _; rfl
    | succ m ih =>
      intro hm
      rw [List.range_succ, List.filterMap_append, ih (by omega)]
      have ei : ((l.length : Int) - 1 + (m : Int) * -1).toNat = l.length - 1 - m := by omega
      have hlt : l.length - 1 - m < l.length := by omega
      have eg : l.toArray[l.length - 1 - m]? = some (l[l.length - 1 - m]'hlt) := by simp [hlt]
      have er : l.reverse[m]? = some (l[l.length - 1 - m]'hlt) := by
        rw [List.getElem?_reverse (by omega), List.getElem?_eq_getElem hlt]
      rw [List.take_add_one, er]
      simp only [List.filterMap_cons, List.filterMap_nil, ei, eg, Option.toList_some]
  rw [this l.length (Nat.le_refl _), List.take_of_length_le (by simp)]
theorem rev_item {prog : Program} {w : World} {A : Around} {E : Value → Shared → Prop} {s : Shared} {t sl : Addr} {l : List Value} {k2 : Tok} {Q : Value → Shared → Prop} (hT : IsTup s.heap t l.toArray) (hS : s.heap.IsSliceOf sl .none .none (.int (-1) k2))
    (h : Q (.ref s.heap.objs.size) { s with heap := s.heap.push { cls := .type "tuple", data := .seq l.reverse.toArray } }) (hz : l.length ≤ sizeLine) : wpAny (model prog w) A (getItem (.ref t) (.ref sl)) Q E s := by
  have fit : sizeOk (.seq l.reverse.toArray) := by
    show l.reverse.toArray.size ≤ sizeLine
    rw [List.size_toArray, List.length_reverse]
    exact hz
  obtain ⟨os, gs, cs, ds⟩ := id hS
  have hTs : s.TypeIs (.ref sl) "slice" := ⟨os, gs, cs⟩
  unfold getItem
  try with_reducible refine wpAny_holding ?_
  first | refine wpAny_bind (wpAny_pure ?_) | skip
  refine wpAny_bind (wpAny_sequenceKey hT.typeIs (by decide) (wpAny_bind (wpAny_callSpecial?_slot (name := Str.ofString "__getitem__") hT.typeIs PyProof.Rows.slot_tuple_getitem
    (wpAny_call_entry PyProof.Rows.slot_tuple_getitem hT.typeIs entry_tuple_getitem ?_ (args_tuple_getitem _ _)))))
  show wpAny _ _ (Builtin.Tuple.tupleItemsOf (.ref t) >>= _) _ _ s
  refine wpAny_bind (tupleItemsOf_ hT (wpAny_bind (wpAny_typeOf hTs ?_)))
  rw [if_pos (by decide)]
  have app : ∀ {Q' : Int × Int × Nat → Shared → Prop}, Q' ((l.length : Int) - 1, -1, l.length) s → wpAny (model prog w) A.in1 (Builtin.Slice.sliceApplied (.ref sl) (pure ((l.toArray.size : Nat) : Int))) Q' (fun e s' => True) s → True := fun _ _ => trivial
  refine wpAny_bind ?_
  unfold Builtin.Slice.sliceApplied Builtin.Slice.sliceFields
  refine wpAny_bind (wpAny_bind (wpAny_field gs ds (x := .none) rfl (wpAny_bind (wpAny_field gs ds (x := .none) rfl (wpAny_bind (wpAny_field gs ds (x := .int (-1) k2) rfl (wpAny_pure ?_)))))))
  refine wpAny_bind (slicePart_int ?_)
  show wpAny _ _ (if ((-1 : Int) == 0) = true then _ else _) _ _ s
  rw [if_neg (by decide)]
  refine wpAny_bind (slicePart_none (wpAny_bind (slicePart_none (wpAny_bind (wpAny_pure ?_)))))
  show wpAny _ _ (match Builtin.Slice.sliceAdjust none none (-1) ((l.toArray.size : Nat) : Int) with | (lo, hi) => pure (lo, (-1 : Int), Builtin.Slice.slicePlaces lo hi (-1))) _ _ s
  rw [List.size_toArray, rev_adj l.length]
  show wpAny _ _ (pure ((l.length : Int) - 1, (-1 : Int), Builtin.Slice.slicePlaces ((l.length : Int) - 1) (-1) (-1))) _ _ s
  rw [rev_places]
  refine wpAny_pure ?_
  have hno : ¬ (((l.length : Int) - 1 == 0 && (-1 : Int) == 1 && l.length == l.toArray.size) = true) := by
    simp
  show wpAny _ _ (if (((l.length : Int) - 1 == 0 && (-1 : Int) == 1 && l.length == l.toArray.size) = true) then _ else _) _ _ s
  rw [if_neg hno, rev_pick]
  first
    | exact wpAny_bind (m := Builtin.Tuple.tupleExact _) (wpAny_newObj_type (wpAny_pure ⟨_, rfl, wpAny_pure h⟩) fit)
    | exact wpAny_bind (m := Builtin.Tuple.tupleExact _) (wpAny_newObj_type (wpAny_bind (wpAny_pure (wpAny_pure ⟨_, rfl, wpAny_pure h⟩))) fit)
    | exact wpAny_bind (wpAny_bind (m := Builtin.Tuple.tupleExact _) (wpAny_newObj_type (wpAny_pure (wpAny_pure ⟨_, rfl, wpAny_pure h⟩)) fit))
    | exact wpAny_bind (wpAny_bind (m := Builtin.Tuple.tupleExact _) (wpAny_newObj_type (wpAny_pure ⟨_, rfl, wpAny_pure h⟩) fit))
end
section
variable {X : Cx}
def tRevT (K : PySem.W.Frag) (te : TE) : TE := fun σ H Q => te σ H fun x H1 => ∃ a xs, x = .ref a ∧ SqT K H1 a xs ∧ ∀ p, H1 p = none → Q (.ref p) (upd H1 p (.tup xs.reverse))
theorem pe_revT {e : Expr} {te : TE} {k : Nat} {p1 p2 p3 pos : Pos} (he : PE X e te) :
    PE X (.Subscript e (.Slice none none (some (.UnaryOp .USub (.Constant (.int 1) k p1) p2)) p3) pos) (tRevT X.K te) := by
  refine ⟨fun pins s σ H Q I h => Subscript_ (thn (he.run pins s σ H _ I h) fun v s1 ⟨x, H1, I1, r1, q1⟩ => ?_)⟩
  obtain ⟨a, xs, ex, hx, q⟩ := q1
  subst ex
  cases r1
  have st1 : PO X (some (.UnaryOp .USub (.Constant (.int 1) k p1) p2)) (tPart (tUn (rU fun i => .int (-i)) (tC (.int 1)))) := po_some (pe_un un_neg pe_int)
  refine wpAny_Slice (thn (po_none.run pins s1 σ H1 (fun o H2 => o = none ∧ H2 = H1) I1 ⟨rfl, rfl⟩) fun vl s2 ⟨l, H2, I2, pl, el, e2⟩ => ?_)
  subst el e2
  refine thn (po_none.run pins s2 σ H2 (fun o H3 => o = none ∧ H3 = H2) I2 ⟨rfl, rfl⟩) fun vu s3 ⟨u, H3, I3, pu, eu, e3⟩ => ?_
  subst eu e3
  refine thn (st1.run pins s3 σ H3 (fun o H4 => o = some (-1) ∧ H4 = H3) I3 ⟨1, rfl, -1, rfl, rfl, rfl⟩) fun vs s4 ⟨o, H4, I4, ps, eo, e4⟩ => ?_
  subst eo e4
  obtain rfl : vl = .none := by cases pl; rfl
  obtain rfl : vu = .none := by cases pu; rfl
  obtain ⟨t1, rfl⟩ : ∃ t, vs = .int (-1) t := by cases ps; exact ⟨_, rfl⟩
  have I5 : Inv X pins σ H4 { s4 with heap := s4.heap.push { cls := .type "slice", data := .fields #[.none, .none, .int (-1) t1] } } := I4.kept (t' := s4.toks) fun b ob q => Heap.get?_push_of_some _ q
  obtain ⟨its, r, ht, hz⟩ := I5.tuple hx
  have hlen := r.length
  show wpAny (model X.prog X.w) X.A (subscriptTail e (.Slice none none (some (.UnaryOp .USub (.Constant (.int 1) k p1) p2)) p3) (.ref a) (.ref s4.heap.objs.size)) (EP X pins σ Q) X.xe { s4 with heap := s4.heap.push { cls := .type "slice", data := .fields #[.none, .none, .int (-1) t1] } }
  refine tail_any (ops := [.ref a, .ref s4.heap.objs.size]) ht.typeIs (PyProof.Rows.slot_tuple_getitem.lookup) ?_ (by with_unfolding_all rfl)
  refine rev_item ht (Heap.IsSliceOf.new ..) ?_ (by omega)
  refine ⟨.ref _, _, I5.laid (t' := s4.toks) (o := .tup xs.reverse) (fun b ob q => Heap.get?_push_of_some _ q) (Nat.le_refl _) ?_, rfl, q _ (I5.hok.fresh (Nat.le_refl _))⟩
  exact ⟨by rw [List.length_reverse]; omega, _, r.reverse, IsTup.new _ _⟩

end
end Pg

set_option Elab.async false
set_option linter.all false
set_option maxRecDepth 100000
set_option maxHeartbeats 4000000
namespace Pg
open PySem PySem.Spec PyProof.Rows L2
/-! ### comprehensions over data, to data -/
section
variable {K : PySem.W.Frag} {σ : L2.St} {H : Hp} {Q : VK} {p : Addr} {us : List V} {j j1 j2 : Nat} {tt : TT} {te : TE} {wi : TI} {α : Type} {ks : List α}
theorem solid_sub {e : α → PyData} (se : ∀ k ∈ ks, solid (e k) = true) (b : α → Bool) (n : Nat) : solid.solidAll (((ks.take n).filter b).map e) = true := solidAll_of fun d hd => by
  obtain ⟨k, hk, rfl⟩ := List.mem_map.mp hd
  exact se k (List.mem_of_mem_take (List.mem_filter.mp hk).1)
theorem dp_item {dK : α → PyData} (ha : DpAll K H us (ks.map dK)) {i : Nat} {x : V} (hx : us[i]? = some x) : ∃ k, ks[i]? = some k ∧ Dp K H x (dK k) := by
  obtain ⟨d, ed, hd⟩ := dpAll_at ha hx
  rw [List.getElem?_map] at ed
  cases e : ks[i]? with
  | none => rw [e] at ed; cases ed
  | some k => rw [e] at ed; exact ⟨k, rfl, by rw [← Option.some.inj ed] at hd; exact hd⟩
theorem rdT_dp (dK eK : α → PyData) (b : α → Bool) (sd : ∀ k ∈ ks, solid (dK k) = true) (se : ∀ k ∈ ks, solid (eK k) = true) (hwi : ∀ R, R (Itt K p) H → wi σ H R) (hS : SqT K H p us) (ha : DpAll K H us (ks.map dK)) (hlen : ks.length ≤ 1000) (hw : ∀ x, wipe ((wipe σ [j]).set j (some x)) [j] = wipe σ [j])
    (htt : ∀ u k H', k ∈ ks → Same H H' → Dp K H' u (dK k) → ∀ Q' : Bool → Hp → Prop, (∀ H2, Same H' H2 → Q' (b k) H2) → tt ((wipe σ [j]).set j (some u)) H' Q')
    (ht : ∀ u k H', k ∈ ks → Same H H' → Dp K H' u (dK k) → ∀ Q' : VK, (∀ v H2, Same H' H2 → Dp K H2 v (eK k) → Q' v H2) → te ((wipe σ [j]).set j (some u)) H' Q')
    (h : ∀ D H' vs, H D = none → Same H H' → H' D = some (.lst vs) → DpAll K H' vs ((ks.filter b).map eK) → Q (.ref D) H') : tLc wi (gName j) tt te [j] σ H Q := by
  have hul : us.length = ks.length := by have := dpAll_len ha; rw [List.length_map] at this; exact this
  refine hwi _ (fun D nD => lc_tup (K := K) (xs := us) (fun i H' => Same H H' ∧ ∃ vs, H' D = some (.lst vs) ∧ DpAll K H' vs (((ks.take i).filter b).map eK)) ⟨Same.new nD, [], upd_same, .nil⟩ (fun i H' _ iv => TK.same iv.1 _ _ hS) (fun i x H' hx iv => ?_) (fun H' iv => ?_))
  · obtain ⟨sm, vs, hd, hA⟩ := iv
    obtain ⟨k, ek, hk⟩ := dp_item ha hx
    have hkm := List.mem_of_getElem? ek
    have hk' := dp_so (TK.same (K := K) sm) _ _ (sd k hkm) hk
    refine ⟨hw _, htt x k H' hkm sm hk' _ fun H1 s1 => if_of (fun e1 => ?_) fun e1 => ?_⟩
    · refine ht x k H1 hkm (sm.trans s1) (dp_so (TK.same s1) _ _ (sd k hkm) hk') _ fun v H2 s2 hv => ?_
      have hd2 := (s1.trans s2) _ _ hd
      have tk : TK K H2 (upd H2 D (.lst (vs ++ [v]))) := TK.put hd2
      refine ⟨vs, hd2, ?_, Same.mut nD (sm.trans (s1.trans s2)), vs ++ [v], upd_same, ?_⟩
      · have h1 := dpAll_len hA
        rw [List.length_map] at h1
        have := List.length_filter_le b (ks.take i)
        rw [List.length_take] at this
        exact small1000 (by omega)
      · rw [take_snoc ek, List.filter_append, List.map_append]
        have e2 : [k].filter b = [k] := by rw [List.filter_cons_of_pos e1]; rfl
        rw [e2]
        exact dpAll_app (dpAll_so ((TK.same (s1.trans s2)).trans tk) _ _ (solid_sub se b i) hA) (.cons (dp_so tk _ _ (se k hkm) hv) .nil)
    · refine ⟨sm.trans s1, vs, s1 _ _ hd, ?_⟩
      rw [take_snoc ek, List.filter_append]
      have e2 : [k].filter b = [] := by rw [List.filter_cons_of_neg (by rw [e1]; decide)]; rfl
      rw [e2, List.append_nil]
      exact dpAll_so (TK.same s1) _ _ (solid_sub se b i) hA
  · obtain ⟨sm, vs, hd, hA⟩ := iv
    rw [hul, List.take_length] at hA
    exact h D H' vs nD sm hd hA
theorem rdL_dp (dK eK : α → PyData) (b : α → Bool) (sd : ∀ k ∈ ks, solid (dK k) = true) (se : ∀ k ∈ ks, solid (eK k) = true) (hwi : ∀ R, R (Itl K p) H → wi σ H R) (hS : SqL K H p us) (ha : DpAll K H us (ks.map dK)) (hlen : ks.length ≤ 1000) (hw : ∀ x, wipe ((wipe σ [j]).set j (some x)) [j] = wipe σ [j])
    (htt : ∀ u k H', k ∈ ks → Same H H' → Dp K H' u (dK k) → ∀ Q' : Bool → Hp → Prop, (∀ H2, Same H' H2 → Q' (b k) H2) → tt ((wipe σ [j]).set j (some u)) H' Q')
    (ht : ∀ u k H', k ∈ ks → Same H H' → Dp K H' u (dK k) → ∀ Q' : VK, (∀ v H2, Same H' H2 → Dp K H2 v (eK k) → Q' v H2) → te ((wipe σ [j]).set j (some u)) H' Q')
    (h : ∀ D H' vs, H D = none → Same H H' → H' D = some (.lst vs) → DpAll K H' vs ((ks.filter b).map eK) → Q (.ref D) H') : tLc wi (gName j) tt te [j] σ H Q := by
  have hul : us.length = ks.length := by have := dpAll_len ha; rw [List.length_map] at this; exact this
  refine hwi _ (fun D nD => lc_list (K := K) (xs := us) (fun i H' => Same H H' ∧ ∃ vs, H' D = some (.lst vs) ∧ DpAll K H' vs (((ks.take i).filter b).map eK)) ⟨Same.new nD, [], upd_same, .nil⟩ (fun i H' _ iv => iv.1.seq hS) (fun i x H' hx iv => ?_) (fun H' iv => ?_))
  · obtain ⟨sm, vs, hd, hA⟩ := iv
    obtain ⟨k, ek, hk⟩ := dp_item ha hx
    have hkm := List.mem_of_getElem? ek
    have hk' := dp_so (TK.same (K := K) sm) _ _ (sd k hkm) hk
    refine ⟨hw _, htt x k H' hkm sm hk' _ fun H1 s1 => if_of (fun e1 => ?_) fun e1 => ?_⟩
    · refine ht x k H1 hkm (sm.trans s1) (dp_so (TK.same s1) _ _ (sd k hkm) hk') _ fun v H2 s2 hv => ?_
      have hd2 := (s1.trans s2) _ _ hd
      have tk : TK K H2 (upd H2 D (.lst (vs ++ [v]))) := TK.put hd2
      refine ⟨vs, hd2, ?_, Same.mut nD (sm.trans (s1.trans s2)), vs ++ [v], upd_same, ?_⟩
      · have h1 := dpAll_len hA
        rw [List.length_map] at h1
        have := List.length_filter_le b (ks.take i)
        rw [List.length_take] at this
        exact small1000 (by omega)
      · rw [take_snoc ek, List.filter_append, List.map_append]
        have e2 : [k].filter b = [k] := by rw [List.filter_cons_of_pos e1]; rfl
        rw [e2]
        exact dpAll_app (dpAll_so ((TK.same (s1.trans s2)).trans tk) _ _ (solid_sub se b i) hA) (.cons (dp_so tk _ _ (se k hkm) hv) .nil)
    · refine ⟨sm.trans s1, vs, s1 _ _ hd, ?_⟩
      rw [take_snoc ek, List.filter_append]
      have e2 : [k].filter b = [] := by rw [List.filter_cons_of_neg (by rw [e1]; decide)]; rfl
      rw [e2, List.append_nil]
      exact dpAll_so (TK.same s1) _ _ (solid_sub se b i) hA
  · obtain ⟨sm, vs, hd, hA⟩ := iv
    rw [hul, List.take_length] at hA
    exact h D H' vs nD sm hd hA
/-- over pairs of two values -/
theorem rdT2_dp (f1 f2 : α → V) (eK : α → PyData) (b : α → Bool) (se : ∀ k ∈ ks, solid (eK k) = true) (hwi : ∀ R, R (Itt K p) H → wi σ H R) (hS : SqT K H p us) (pr : Paired (fun u k => ∃ r, u = .ref r ∧ SqT K H r [f1 k, f2 k]) us ks) (hlen : ks.length ≤ 1000) (hw : ∀ x y, wipe (((wipe σ [j1, j2]).set j1 (some x)).set j2 (some y)) [j1, j2] = wipe σ [j1, j2])
    (htt : ∀ k H', k ∈ ks → Same H H' → ∀ Q' : Bool → Hp → Prop, (∀ H2, Same H' H2 → Q' (b k) H2) → tt (((wipe σ [j1, j2]).set j1 (some (f1 k))).set j2 (some (f2 k))) H' Q')
    (ht : ∀ k H', k ∈ ks → Same H H' → ∀ Q' : VK, (∀ v H2, Same H' H2 → Dp K H2 v (eK k) → Q' v H2) → te (((wipe σ [j1, j2]).set j1 (some (f1 k))).set j2 (some (f2 k))) H' Q')
    (h : ∀ D H' vs, H D = none → Same H H' → H' D = some (.lst vs) → DpAll K H' vs ((ks.filter b).map eK) → Q (.ref D) H') : tLc wi (gTup K 2 (gCons (gName j1) (gCons (gName j2) gNil))) tt te [j1, j2] σ H Q := by
  have hul := paired_len pr
  refine hwi _ (fun D nD => lc_tup (K := K) (xs := us) (fun i H' => Same H H' ∧ ∃ vs, H' D = some (.lst vs) ∧ DpAll K H' vs (((ks.take i).filter b).map eK)) ⟨Same.new nD, [], upd_same, .nil⟩ (fun i H' _ iv => TK.same iv.1 _ _ hS) (fun i x H' hx iv => ?_) (fun H' iv => ?_))
  · obtain ⟨sm, vs, hd, hA⟩ := iv
    obtain ⟨k, ek, r, rfl, hr⟩ := Pg.paired_get pr hx
    have hkm := List.mem_of_getElem? ek
    refine ⟨r, _, rfl, TK.same sm _ _ hr, rfl, _, _, rfl, _, _, rfl, rfl, hw _ _, htt k H' hkm sm _ fun H1 s1 => if_of (fun e1 => ?_) fun e1 => ?_⟩
    · refine ht k H1 hkm (sm.trans s1) _ fun v H2 s2 hv => ?_
      have hd2 := (s1.trans s2) _ _ hd
      have tk : TK K H2 (upd H2 D (.lst (vs ++ [v]))) := TK.put hd2
      refine ⟨vs, hd2, ?_, Same.mut nD (sm.trans (s1.trans s2)), vs ++ [v], upd_same, ?_⟩
      · have h1 := dpAll_len hA
        rw [List.length_map] at h1
        have := List.length_filter_le b (ks.take i)
        rw [List.length_take] at this
        exact small1000 (by omega)
      · rw [take_snoc ek, List.filter_append, List.map_append]
        have e2 : [k].filter b = [k] := by rw [List.filter_cons_of_pos e1]; rfl
        rw [e2]
        exact dpAll_app (dpAll_so ((TK.same (s1.trans s2)).trans tk) _ _ (solid_sub se b i) hA) (.cons (dp_so tk _ _ (se k hkm) hv) .nil)
    · refine ⟨sm.trans s1, vs, s1 _ _ hd, ?_⟩
      rw [take_snoc ek, List.filter_append]
      have e2 : [k].filter b = [] := by rw [List.filter_cons_of_neg (by rw [e1]; decide)]; rfl
      rw [e2, List.append_nil]
      exact dpAll_so (TK.same s1) _ _ (solid_sub se b i) hA
  · obtain ⟨sm, vs, hd, hA⟩ := iv
    rw [hul, List.take_length] at hA
    exact h D H' vs nD sm hd hA
end
/-- pairs of a text and a number, or a truth value, as data -/
theorem prs_of {K : PySem.W.Frag} {H : Hp} : ∀ {us : List V} {st : Sg}, DpAll K H us (st.map stD) → Paired (fun u (s : Str × Int) => ∃ r, u = .ref r ∧ SqT K H r [.str s.1, .int s.2]) us st
  | _, [], .nil => .nil
  | _, s :: st, .cons a t => by
    refine .cons ?_ (prs_of t)
    cases a with
    | @tup r xs _ hq hx =>
    cases hx with
    | cons c1 hx =>
    cases hx with
    | cons c2 hx =>
    cases hx
    cases c1
    cases c2
    exact ⟨r, rfl, hq⟩
theorem gos_of {K : PySem.W.Frag} {H : Hp} : ∀ {us : List V} {st : List (Str × Bool)}, DpAll K H us (st.map goD) → Paired (fun u (s : Str × Bool) => ∃ r, u = .ref r ∧ SqT K H r [.str s.1, .bl s.2]) us st
  | _, [], .nil => .nil
  | _, s :: st, .cons a t => by
    refine .cons ?_ (gos_of t)
    cases a with
    | @tup r xs _ hq hx =>
    cases hx with
    | cons c1 hx =>
    cases hx with
    | cons c2 hx =>
    cases hx
    cases c1
    cases c2
    exact ⟨r, rfl, hq⟩
end Pg
namespace Pg
open PySem PySem.Spec PyProof.Rows L2
/-! ### rules gathered -/
def NR (r : Rul) : Prop := nest r.hd = true ∧ ∀ l ∈ r.bd, nest l.t = true
theorem NR.so {r : Rul} (h : NR r) : solid (rulD r) = true := by
  rw [solid, solid.solidAll, solid.solidAll, solid.solidAll, solid.solidAll, solid, solid, nest_solid h.1, solid_lits h.2]; rfl
theorem so_nr {rs : List Rul} (h : ∀ r ∈ rs, NR r) : solid.solidAll (rs.map rulD) = true := solidAll_of fun d hd => by
  obtain ⟨r, hr, rfl⟩ := List.mem_map.mp hd
  exact (h r hr).so
structure RI (K : PySem.W.Frag) (H H' : Hp) (rl : Addr) (rs : List Rul) : Prop where
  nr : H rl = none
  s : Same H H'
  ex : ∃ vs, H' rl = some (.lst vs) ∧ DpAll K H' vs (rs.map rulD)
  n : ∀ r ∈ rs, NR r
theorem ru_len {K : PySem.W.Frag} {H' : Hp} {rs : List Rul} {vs : List V} (h : DpAll K H' vs (rs.map rulD)) : vs.length = rs.length := by
  have := dpAll_len h
  rw [List.length_map] at this
  exact this
theorem RI.push {K : PySem.W.Frag} {H H' H2 : Hp} {rl : Addr} {rs : List Rul} (h : RI K H H' rl rs) (s2 : Same H' H2) {v : V} {r : Rul} (hv : Dp K H2 v (rulD r)) (hr : NR r) : ∃ vs, H2 rl = some (.lst vs) ∧ vs.length = rs.length ∧ RI K H (upd H2 rl (.lst (vs ++ [v]))) rl (rs ++ [r]) := by
  obtain ⟨vs, h1, h2⟩ := h.ex
  have h3 := s2 _ _ h1
  have tk : TK K H2 (upd H2 rl (.lst (vs ++ [v]))) := TK.put h3
  refine ⟨vs, h3, ru_len h2, ⟨h.nr, Same.mut h.nr (h.s.trans s2), ⟨_, upd_same, ?_⟩, fun x hx => ?_⟩⟩
  · rw [List.map_append]
    exact dpAll_app (dpAll_so ((TK.same s2).trans tk) _ _ (so_nr h.n) h2) (.cons (dp_so tk _ _ hr.so hv) .nil)
  · rcases List.mem_append.mp hx with z | z
    · exact h.n x z
    · rw [List.mem_singleton] at z; rw [z]; exact hr
theorem flat_le {α β : Type} (f : α → List β) (c : Nat) : ∀ xs : List α, (∀ x ∈ xs, (f x).length ≤ c) → (xs.flatMap f).length ≤ xs.length * c
  | [], _ => by simp
  | x :: xs, h => by
    rw [List.flatMap_cons, List.length_append, List.length_cons, Nat.succ_mul]
    have h1 := h x (List.mem_cons_self ..)
    have h2 := flat_le f c xs fun y hy => h y (List.mem_cons_of_mem _ hy)
    omega
theorem sub_len : ∀ {l m : List Str}, l.Nodup → (∀ x ∈ l, x ∈ m) → l.length ≤ m.length
  | [], m, _, _ => Nat.zero_le _
  | x :: l, m, hn, hs => by
    rw [List.nodup_cons] at hn
    have hx := hs x (List.mem_cons_self ..)
    have h1 := sub_len (m := m.erase x) hn.2 fun y hy => (List.mem_erase_of_ne (fun e => hn.1 (by rw [← e]; exact hy))).mpr (hs y (List.mem_cons_of_mem _ hy))
    rw [List.length_erase_of_mem hx] at h1
    have := List.length_pos_of_mem hx
    rw [List.length_cons]
    omega
def nmC : List Str := ["x", "y", "z", "w"]
theorem nm_ex {le : List Str} (h : le.length ≤ 3) : ∃ nm r, nmC.filter (fun x => decide (x ∉ le)) = nm :: r ∧ nm = nmOf le ∧ nm ∈ nmC ∧ nm ∉ le := by
  cases e : nmC.filter (fun x => decide (x ∉ le)) with
  | nil =>
    exfalso
    have h1 : ∀ x ∈ nmC, x ∈ le := fun x hx => by
      by_cases z : x ∈ le
      · exact z
      · have : x ∈ nmC.filter (fun x => decide (x ∉ le)) := List.mem_filter.mpr ⟨hx, decide_eq_true z⟩
        rw [e] at this
        cases this
    have h2 := sub_len (l := nmC) (by decide +kernel) h1
    have h3 : nmC.length = 4 := rfl
    omega
  | cons nm r =>
    have hm : nm ∈ nmC.filter (fun x => decide (x ∉ le)) := by rw [e]; exact List.mem_cons_self ..
    rw [List.mem_filter] at hm
    refine ⟨nm, r, rfl, ?_, hm.1, of_decide_eq_true hm.2⟩
    show nm = (nmC.filter (fun x => decide (x ∉ le))).headD ""
    rw [e]
    rfl
theorem nr_go (nm : Str) (go : List (Str × Bool)) : ∀ r ∈ goRules nm go, NR r := fun r hr => by
  obtain ⟨g, _, rfl⟩ := List.mem_map.mp hr
  refine ⟨?_, fun l hl => absurd hl List.not_mem_nil⟩
  show nest (if g.2 then tps "bottom" [] else .str nm) = true
  split <;> rfl
theorem nr_on (st : Sg) : ∀ r ∈ onRules st, NR r := fun r hr => by
  obtain ⟨g, _, rfl⟩ := List.mem_map.mp hr
  exact ⟨rfl, fun l hl => absurd hl List.not_mem_nil⟩
theorem nest_lito (nm : Str) (m : Mv) : nest (litOf nm m).t = true := stackD_nest rfl
theorem nr_lr (nm : Str) (mv : List Mv) (s : Str × Int) (l : Str) : ∀ r ∈ lrRules nm mv s l, NR r := fun r hr => by
  unfold lrRules at hr
  have hl : ∀ x ∈ litsOf nm mv s.1 l, nest x.t = true := fun x hx => by
    obtain ⟨m, _, rfl⟩ := List.mem_map.mp hx
    exact nest_lito nm m
  split at hr
  · rw [List.mem_singleton] at hr
    rw [hr]
    exact ⟨rfl, hl⟩
  · obtain ⟨x, hx, rfl⟩ := List.mem_map.mp hr
    exact ⟨rfl, fun y hy => by rw [List.mem_singleton] at hy; rw [hy]; exact hl x hx⟩
theorem lr_len (nm : Str) (mv : List Mv) (s : Str × Int) (l : Str) : (lrRules nm mv s l).length ≤ mv.length + 1 := by
  unfold lrRules
  split
  · show 1 ≤ _; omega
  · rw [List.length_map, litsOf, List.length_map]
    have := List.length_filter_le (fun m => decide (m.s = s.1) && decide (m.l = l)) mv
    omega
end Pg
namespace Pg
open PySem PySem.Spec PyProof.Rows L2
theorem filt1 {α : Type} {b : α → Bool} {k : α} (h : b k = true) : [k].filter b = [k] := by rw [List.filter_cons_of_pos h]; rfl
theorem filt0 {α : Type} {b : α → Bool} {k : α} (h : b k = false) : [k].filter b = [] := by rw [List.filter_cons_of_neg (by rw [h]; decide)]; rfl
theorem RI.cat {K : PySem.W.Frag} {H H' H2 : Hp} {rl D : Addr} {rs rs2 : List Rul} {ws : List V} (h : RI K H H' rl rs) (s2 : Same H' H2) (hD : H2 D = some (.lst ws)) (hA : DpAll K H2 ws (rs2.map rulD)) (hn : ∀ r ∈ rs2, NR r) : ∃ vs, H2 rl = some (.lst vs) ∧ vs.length = rs.length ∧ ∀ l3, H2 l3 = none → RI K H (upd H2 l3 (.lst (vs ++ ws))) l3 (rs ++ rs2) := by
  obtain ⟨vs, h1, h2⟩ := h.ex
  refine ⟨vs, s2 _ _ h1, ru_len h2, fun l3 nl3 => ?_⟩
  have tk : TK K H2 (upd H2 l3 (.lst (vs ++ ws))) := TK.new nl3
  refine ⟨same_free (h.s.trans s2) nl3, (h.s.trans s2).trans (Same.new nl3), ⟨_, upd_same, ?_⟩, fun x hx => ?_⟩
  · rw [List.map_append]
    exact dpAll_app (dpAll_so ((TK.same s2).trans tk) _ _ (so_nr h.n) h2) (dpAll_so tk _ _ (so_nr hn) hA)
  · rcases List.mem_append.mp hx with z | z
    · exact h.n x z
    · exact hn x z
/-- a list in the place's own memory that grows by a whole list -/
theorem RI.same {K : PySem.W.Frag} {H H' H2 : Hp} {rl : Addr} {rs : List Rul} (h : RI K H H' rl rs) (s2 : Same H' H2) : RI K H H2 rl rs := by
  obtain ⟨vs, h1, h2⟩ := h.ex
  exact ⟨h.nr, h.s.trans s2, ⟨vs, s2 _ _ h1, dpAll_so (TK.same s2) _ _ (so_nr h.n) h2⟩, h.n⟩
theorem lits_map (nm : Str) (mv : List Mv) (s l : Str) : ((mv.filter fun m => decide (m.s = s) && decide (m.l = l)).map fun m => litD (litOf nm m)) = (litsOf nm mv s l).map litD := by
  unfold litsOf
  rw [List.map_map]
  rfl
theorem lits_nest (nm : Str) (mv : List Mv) (s l : Str) : ∀ x ∈ litsOf nm mv s l, nest x.t = true := fun x hx => by
  obtain ⟨m, _, rfl⟩ := List.mem_map.mp hx
  exact nest_lito nm m
theorem solid_mv (m : Mv) : solid (mvD m) = true := nest_solid (by have := so_mv [m]; simpa [nestAll] using this)
end Pg
namespace Pg
theorem nest_solid_st (s : PySem.Str × Int) : solid (stD s) = true := by
  rw [solid, solid.solidAll, solid.solidAll, solid.solidAll, solid, solid]; rfl
end Pg
namespace Pg
open PySem PySem.Spec PyProof.Rows L2
theorem RI.ext {K : PySem.W.Frag} {H H' H2 : Hp} {rl : Addr} {rs rs2 : List Rul} {ws : List V} (h : RI K H H' rl rs) (s2 : Same H' H2) (hA : DpAll K H2 ws (rs2.map rulD)) (hn : ∀ r ∈ rs2, NR r) : ∃ vs, H2 rl = some (.lst vs) ∧ vs.length = rs.length ∧ RI K H (upd H2 rl (.lst (vs ++ ws))) rl (rs ++ rs2) := by
  obtain ⟨vs, h1, h2⟩ := h.ex
  have h3 := s2 _ _ h1
  have tk : TK K H2 (upd H2 rl (.lst (vs ++ ws))) := TK.put h3
  refine ⟨vs, h3, ru_len h2, h.nr, Same.mut h.nr (h.s.trans s2), ⟨_, upd_same, ?_⟩, fun x hx => ?_⟩
  · rw [List.map_append]
    exact dpAll_app (dpAll_so ((TK.same s2).trans tk) _ _ (so_nr h.n) h2) (dpAll_so tk _ _ (so_nr hn) hA)
  · rcases List.mem_append.mp hx with z | z
    · exact h.n x z
    · exact hn x z
theorem rd_preT {K : PySem.W.Frag} {tl : TE} {g : TG} {tt : TT} {te : TE} {own : List Nat} {σ : L2.St} {H : Hp} {Q : VK} (h : tl σ H fun x H1 => ∃ a, x = .ref a ∧ (∃ xs, SqT K H1 a xs) ∧ tLc (fun _ H' R => R (Itt K a) H') g tt te own σ H1 Q) : tLc (iTup K tl) g tt te own σ H Q := h
def litAt (nm : Str) (mv : List Mv) (k : Nat) : PyData := match mv[k]? with
  | some m => litD (litOf nm m)
  | none => .none
theorem litAt_map (nm : Str) (mv : List Mv) (s l : Str) : (mvIx mv s l).map (litAt nm mv) = (Pg.litsOf nm mv s l).map litD := by
  have h := idxs_map (fun m : Mv => decide (m.s = s) && decide (m.l = l)) mv
  have h2 := congrArg (List.map fun o : Option Mv => match o with | some m => litD (litOf nm m) | none => PyData.none) h
  rw [List.map_map, List.map_map] at h2
  unfold mvIx
  refine Eq.trans ?_ (Eq.trans h2 ?_)
  · rfl
  · unfold Pg.litsOf
    rw [List.map_map]
    rfl
theorem mvIx_lt {mv : List Mv} {s l : Str} {k : Nat} (h : k ∈ mvIx mv s l) : k < mv.length := by
  unfold mvIx idxs at h
  exact List.mem_range.mp (List.mem_filter.mp h).1
theorem litAt_solid (nm : Str) (mv : List Mv) (k : Nat) : solid (litAt nm mv k) = true := by
  unfold litAt
  split
  · exact solid_lit (nest_lito nm _)
  · rw [solid]
end Pg
namespace Pg
theorem solid_go (s : PySem.Str × Bool) : solid (goD s) = true := by
  rw [solid, solid.solidAll, solid.solidAll, solid.solidAll, solid.eq_def]; rfl
end Pg
namespace Pg
open PySem PySem.Spec PyProof.Rows L2
def spGame (K : PySem.W.Frag) : Sp := fun vs H Q _ => ∃ (a n : Addr) (m : Int), vs = [.ref a, .int 6] ∧ StA H a n m ∧ m ≤ 100000 ∧ ∀ (p : Addr) (g : Gm) (H' : Hp), Dp K H' (.ref p) (gmD g) → GGm g → Fr a H H' → StA H' a n (m + 2000) → Q (.ref p) H'
end Pg

set_option Elab.async false
set_option linter.all false
set_option maxRecDepth 100000
set_option maxHeartbeats 4000000
namespace Pg
open PySem PySem.Spec PyProof.Rows L2
/-! ### what can be compared -/
structure LayN (n : Nat) (d : PyData) : Prop where
  l : d.canLay0 = true
  d : d.depth ≤ n
structure LayA (n : Nat) (ds : List PyData) : Prop where
  l : PyData.canLayAll0 ds = true
  d : PyData.depthAll ds ≤ n
theorem LayN.sh {n : Nat} {d : PyData} (h : LayN n d) (hn : n ≤ 64) : SeqAt.shaped d = true := by
  unfold SeqAt.shaped
  rw [h.l, decide_eq_true (Nat.le_trans h.d hn)]
  rfl
theorem LayA.nil {n : Nat} : LayA n [] := ⟨rfl, Nat.zero_le _⟩
theorem LayA.cons {n : Nat} {d : PyData} {ds : List PyData} (h : LayN n d) (t : LayA n ds) : LayA n (d :: ds) := ⟨by rw [PyData.canLayAll0, h.l, t.l]; rfl, by rw [PyData.depthAll]; have := h.d; have := t.d; omega⟩
theorem LayA.map {α : Type} {n : Nat} {e : α → PyData} : ∀ {ks : List α}, (∀ k ∈ ks, LayN n (e k)) → LayA n (ks.map e)
  | [], _ => .nil
  | k :: ks, h => .cons (h k (List.mem_cons_self ..)) (LayA.map fun x hx => h x (List.mem_cons_of_mem _ hx))
theorem LayN.tup {n : Nat} {ds : List PyData} (h : LayA n ds) : LayN (n + 1) (.tuple ds) := ⟨by rw [PyData.canLay0]; exact h.l, by rw [PyData.depth]; have := h.d; omega⟩
theorem LayN.lst {n : Nat} {ds : List PyData} (h : LayA n ds) : LayN (n + 1) (.list ds) := ⟨by rw [PyData.canLay0]; exact h.l, by rw [PyData.depth]; have := h.d; omega⟩
theorem LayN.str {n : Nat} {x : Str} (h : isW x = true) : LayN n (.str x) := ⟨by rw [PyData.canLay0, isW_ok h], Nat.zero_le _⟩
theorem LayN.bool {n : Nat} {b : Bool} : LayN n (.bool b) := ⟨rfl, Nat.zero_le _⟩
theorem LayN.int {n : Nat} {b : Int} : LayN n (.int b) := ⟨rfl, Nat.zero_le _⟩
theorem eqv_two (a b c d : Str) : PyData.eqv (.tuple [.str a, .str b]) (.tuple [.str c, .str d]) = (decide (a = c) && decide (b = d)) := by
  rw [PyData.eqv, PyData.eqvAll, PyData.eqvAll, PyData.eqvAll, PyData.eqv, PyData.eqv, Bool.and_true]
  rw [Bool.eq_iff_iff, Bool.and_eq_true, Bool.and_eq_true, beq_iff_eq, beq_iff_eq, decide_eq_true_iff, decide_eq_true_iff]
end Pg
namespace Pg
open PySem PySem.Spec PyProof.Rows L2
theorem WdsG.nil : WdsG [] := ⟨List.nodup_nil, fun t h => absurd h List.not_mem_nil⟩
def onesN (st : Sg) : Nat := (st.filter fun s => decide (s.2 = 1)).length
theorem xyzw_ok {r : Int} (h0 : 0 ≤ r) (h4 : r < 4) : ∃ c : Nat, atI (cs ("xyzw" : Str)) r = some c ∧ ∀ i, Wd i ⟨#[c]⟩ ∨ (⟨#[c]⟩ : Str) = "x" ∨ (⟨#[c]⟩ : Str) = "w" := by
  have e : cs ("xyzw" : Str) = [120, 121, 122, 119] := by decide +kernel
  rw [e]
  have : r = 0 ∨ r = 1 ∨ r = 2 ∨ r = 3 := by omega
  rcases this with rfl | rfl | rfl | rfl
  · exact ⟨120, rfl, fun i => .inr (.inl (by decide +kernel))⟩
  · exact ⟨121, rfl, fun i => .inl (.inl ⟨by decide +kernel, by decide +kernel, by decide +kernel⟩)⟩
  · exact ⟨122, rfl, fun i => .inl (.inl ⟨by decide +kernel, by decide +kernel, by decide +kernel⟩)⟩
  · exact ⟨119, rfl, fun i => .inr (.inr (by decide +kernel))⟩
end Pg
namespace Pg
open PySem PySem.Spec PyProof.Rows L2
theorem at_last {α : Type} (xs : List α) (x : α) : atI (xs ++ [x]) (-1) = some x := by
  unfold atI
  have e : ixN (xs ++ [x]).length (-1) = some xs.length := by
    rw [List.length_append]
    unfold ixN
    simp
    omega
  rw [e]
  show (xs ++ [x])[xs.length]? = some x
  simp
end Pg
namespace Pg
open PySem PySem.Spec PyProof.Rows L2
def zerosN (st : Sg) (mv : List Mv) : Nat := (mv.filter fun m => decide ((m.s, (0 : Int)) ∈ st)).length
structure MvOkG (st : Sg) (le : List Str) (m : Mv) : Prop where
  s : m.s ∈ st.map (·.1)
  l : m.l ∈ le
  a : m.a ∈ st.map (·.1)
  w : m.w.length ≤ 2
  x : ∀ x ∈ m.w, x ∈ le
theorem mv_lay {st : Sg} {le : List Str} (h : ∀ x ∈ st.map (·.1) ++ le, isW x = true) {m : Mv} (ok : MvOkG st le m) : LayN 2 (mvD m) := by
  refine .tup (.cons (.str (h _ (List.mem_append_left _ ok.s))) (.cons (.str (h _ (List.mem_append_right _ ok.l))) (.cons (.str (h _ (List.mem_append_left _ ok.a))) (.cons (.tup (n := 0) (.map fun x hx => .str (h _ (List.mem_append_right _ (ok.x x hx))))) .nil))))
theorem go_lay {x : Str × Bool} (h : isW x.1 = true) : LayN 1 (goD x) := .tup (.cons (.str h) (.cons .bool .nil))
theorem nd_snd {st : Sg} (hn : (st.map (·.1)).Nodup) {s t : Str × Int} (h1 : s ∈ st) (h2 : t ∈ st) (e : s.1 = t.1) : s = t := by
  have a := numB_in hn (show (s.1, s.2) ∈ st from h1)
  have b := numB_in hn (show (t.1, t.2) ∈ st from h2)
  rw [e, b] at a
  exact Prod.ext e a.symm
end Pg
namespace Pg
open PySem PySem.Spec PyProof.Rows L2
theorem rd_preR {K : PySem.W.Frag} {ta : TA} {g : TG} {tt : TT} {te : TE} {own : List Nat} {σ : L2.St} {H : Hp} {Q : VK} (h : ta σ H fun vs H1 => ∃ j : Int, vs = [V.int j] ∧ -2 ^ 62 ≤ j ∧ j < 2 ^ 62 ∧ tLc (fun _ H' R => R (Itr 0 j.toNat) H') g tt te own σ H1 Q) : tLc (iRng1 ta) g tt te own σ H Q := h
theorem txts_of {le : List Str} : ∀ {vs : List V}, (∀ v ∈ vs, ∃ x ∈ le, v = V.str x) → ∃ w : List Str, vs = w.map V.str ∧ ∀ x ∈ w, x ∈ le
  | [], _ => ⟨[], rfl, fun x h => absurd h List.not_mem_nil⟩
  | v :: vs, h => by
    obtain ⟨x, hx, e⟩ := h v (List.mem_cons_self ..)
    obtain ⟨w, e2, h2⟩ := txts_of (vs := vs) fun u hu => h u (List.mem_cons_of_mem _ hu)
    exact ⟨x :: w, by rw [e, e2]; rfl, fun y hy => by
      rcases List.mem_cons.mp hy with z | z
      · rw [z]; exact hx
      · exact h2 y z⟩
end Pg
namespace Pg
open PySem PySem.Spec PyProof.Rows L2
theorem strs_dpA {K : PySem.W.Frag} {H : Hp} : ∀ xs : List Str, DpAll K H (xs.map V.str) (xs.map .str)
  | [] => .nil
  | x :: xs => .cons (.str x) (strs_dpA xs)
end Pg

set_option Elab.async false
set_option linter.all false
set_option maxRecDepth 100000
set_option maxHeartbeats 4000000
namespace Pg
open PySem PySem.Spec PyProof.Rows L2
/-! ### the number of the rules -/
theorem flat_add {α β : Type} (f g : α → List β) (d : α → Nat) : ∀ xs : List α, (∀ x ∈ xs, (f x).length = (g x).length + d x) → (xs.flatMap f).length = (xs.flatMap g).length + (xs.map d).sum
  | [], _ => rfl
  | x :: xs, h => by
    have h1 := h x (List.mem_cons_self ..)
    have h2 := flat_add f g d xs fun y hy => h y (List.mem_cons_of_mem _ hy)
    rw [List.flatMap_cons, List.flatMap_cons, List.length_append, List.length_append, List.map_cons, List.sum_cons]
    omega
theorem zsum_zero {α : Type} (d : α → Nat) : ∀ xs : List α, (∀ x ∈ xs, d x = 0) → (xs.map d).sum = 0
  | [], _ => rfl
  | x :: xs, h => by rw [List.map_cons, List.sum_cons, h x (List.mem_cons_self ..), zsum_zero d xs fun y hy => h y (List.mem_cons_of_mem _ hy)]
theorem sum_one {α : Type} (d : α → Nat) : ∀ xs : List α, xs.Nodup → (∀ x ∈ xs, d x ≤ 1) → (∀ x ∈ xs, ∀ y ∈ xs, d x ≠ 0 → d y ≠ 0 → x = y) → (xs.map d).sum ≤ 1
  | [], _, _, _ => Nat.zero_le _
  | x :: xs, hn, h1, hu => by
    rw [List.nodup_cons] at hn
    rw [List.map_cons, List.sum_cons]
    by_cases e : d x = 0
    · rw [e]
      have := sum_one d xs hn.2 (fun y hy => h1 y (List.mem_cons_of_mem _ hy)) fun y hy z hz => hu y (List.mem_cons_of_mem _ hy) z (List.mem_cons_of_mem _ hz)
      omega
    · have hz : (xs.map d).sum = 0 := zsum_zero d xs fun y hy => by
        by_cases e2 : d y = 0
        · exact e2
        · exact absurd (hu x (List.mem_cons_self ..) y (List.mem_cons_of_mem _ hy) e e2) fun z => hn.1 (by rw [z]; exact hy)
      have := h1 x (List.mem_cons_self ..)
      omega
theorem zsum_le {α : Type} (d e : α → Nat) : ∀ xs : List α, (∀ x ∈ xs, d x ≤ e x) → (xs.map d).sum ≤ (xs.map e).sum
  | [], _ => Nat.le_refl _
  | x :: xs, h => by
    rw [List.map_cons, List.map_cons, List.sum_cons, List.sum_cons]
    have := h x (List.mem_cons_self ..)
    have := zsum_le d e xs fun y hy => h y (List.mem_cons_of_mem _ hy)
    omega
theorem nodup_of_map {α β : Type} (f : α → β) : ∀ {xs : List α}, (xs.map f).Nodup → xs.Nodup
  | [], _ => List.nodup_nil
  | x :: xs, h => by
    rw [List.map_cons, List.nodup_cons] at h
    exact List.nodup_cons.mpr ⟨fun hm => h.1 (List.mem_map.mpr ⟨x, hm, rfl⟩), nodup_of_map f h.2⟩
theorem lr_cons (nm : Str) (m : Mv) (mv : List Mv) (s : Str × Int) (l : Str) : (lrRules nm (m :: mv) s l).length = (lrRules nm mv s l).length + (if s.2 ≠ 1 ∧ m.s = s.1 ∧ m.l = l then 1 else 0) := by
  unfold lrRules
  by_cases e : s.2 = 1
  · rw [if_pos e, if_pos e, if_neg (fun z => z.1 e)]; rfl
  · rw [if_neg e, if_neg e, List.length_map, List.length_map]
    unfold Pg.litsOf
    rw [List.length_map, List.length_map]
    by_cases e2 : m.s = s.1 ∧ m.l = l
    · rw [List.filter_cons_of_pos (by simp [e2.1, e2.2]), if_pos ⟨e, e2.1, e2.2⟩]; rfl
    · rw [List.filter_cons_of_neg (by simp; exact fun a b => e2 ⟨a, b⟩), if_neg (fun z => e2 z.2)]; rfl
theorem lr_nil (nm : Str) (s : Str × Int) (l : Str) : (lrRules nm [] s l).length = if s.2 = 1 then 1 else 0 := by
  unfold lrRules
  by_cases e : s.2 = 1
  · rw [if_pos e, if_pos e]; rfl
  · rw [if_neg e, if_neg e]; rfl
theorem fl_nil (nm : Str) (s : Str × Int) : ∀ le : List Str, (le.flatMap (lrRules nm [] s)).length = if s.2 = 1 then le.length else 0
  | [] => by simp
  | l :: le => by
    rw [List.flatMap_cons, List.length_append, lr_nil, fl_nil nm s le]
    split <;> simp
    omega
theorem fs_nil (nm : Str) (le : List Str) : ∀ st : Sg, (st.flatMap fun s => le.flatMap (lrRules nm [] s)).length = onesN st * le.length
  | [] => by simp [onesN]
  | s :: st => by
    rw [List.flatMap_cons, List.length_append, fl_nil, fs_nil nm le st]
    unfold onesN
    by_cases e : s.2 = 1
    · rw [if_pos e, List.filter_cons_of_pos (p := fun s : Str × Int => decide (s.2 = 1)) (decide_eq_true e), List.length_cons, Nat.succ_mul]; omega
    · rw [if_neg e, List.filter_cons_of_neg (p := fun s : Str × Int => decide (s.2 = 1)) (by rw [decide_eq_true_iff]; exact e)]; omega
theorem fs_cons (nm : Str) (le : List Str) (st : Sg) (hl : le.Nodup) (hs : (st.map (·.1)).Nodup) (hp : ∀ s ∈ st, s.2 = 0 ∨ s.2 = 1) (m : Mv) (mv : List Mv) :
    (st.flatMap fun s => le.flatMap (lrRules nm (m :: mv) s)).length ≤ (st.flatMap fun s => le.flatMap (lrRules nm mv s)).length + (if (m.s, (0 : Int)) ∈ st then 1 else 0) := by
  rw [flat_add (fun s => le.flatMap (lrRules nm (m :: mv) s)) (fun s => le.flatMap (lrRules nm mv s)) (fun s => (le.map fun l => if s.2 ≠ 1 ∧ m.s = s.1 ∧ m.l = l then 1 else 0).sum) st fun s _ => flat_add _ _ _ le fun l _ => lr_cons nm m mv s l]
  refine Nat.add_le_add_left ?_ _
  have h1 : ∀ s ∈ st, (le.map fun l => if s.2 ≠ 1 ∧ m.s = s.1 ∧ m.l = l then 1 else 0).sum ≤ if s.2 ≠ 1 ∧ m.s = s.1 then 1 else 0 := fun s _ => by
    by_cases e : s.2 ≠ 1 ∧ m.s = s.1
    · rw [if_pos e]
      refine sum_one _ le hl (fun l _ => by split <;> omega) fun x _ y _ hx hy => ?_
      by_cases ex : s.2 ≠ 1 ∧ m.s = s.1 ∧ m.l = x
      · by_cases ey : s.2 ≠ 1 ∧ m.s = s.1 ∧ m.l = y
        · rw [← ex.2.2, ← ey.2.2]
        · rw [if_neg ey] at hy; exact absurd rfl hy
      · rw [if_neg ex] at hx; exact absurd rfl hx
    · rw [if_neg e, zsum_zero _ le fun l _ => if_neg fun z => e ⟨z.1, z.2.1⟩]
      exact Nat.le_refl _
  refine Nat.le_trans (zsum_le _ _ st h1) ?_
  by_cases em : (m.s, (0 : Int)) ∈ st
  · rw [if_pos em]
    refine sum_one _ st (nodup_of_map _ hs) (fun l _ => by split <;> omega) fun x hx y hy ex ey => ?_
    by_cases e1 : x.2 ≠ 1 ∧ m.s = x.1
    · by_cases e2 : y.2 ≠ 1 ∧ m.s = y.1
      · exact nd_snd hs hx hy (by rw [← e1.2, ← e2.2])
      · rw [if_neg e2] at ey; exact absurd rfl ey
    · rw [if_neg e1] at ex; exact absurd rfl ex
  · rw [if_neg em, zsum_zero _ st fun s hs' => if_neg fun z => em ?_]
    · exact Nat.le_refl _
    · have h0 : s.2 = 0 := by
        rcases hp s hs' with h | h
        · exact h
        · exact absurd h z.1
      rw [z.2, ← h0]
      exact hs'
theorem fs_len (nm : Str) (le : List Str) (st : Sg) (hl : le.Nodup) (hs : (st.map (·.1)).Nodup) (hp : ∀ s ∈ st, s.2 = 0 ∨ s.2 = 1) : ∀ mv : List Mv, (st.flatMap fun s => le.flatMap (lrRules nm mv s)).length ≤ onesN st * le.length + zerosN st mv
  | [] => by rw [fs_nil]; exact Nat.le_add_right _ _
  | m :: mv => by
    have h1 := fs_cons nm le st hl hs hp m mv
    have h2 := fs_len nm le st hl hs hp mv
    unfold zerosN at h2 ⊢
    by_cases e : (m.s, (0 : Int)) ∈ st
    · rw [if_pos e] at h1
      rw [List.filter_cons_of_pos (p := fun m : Mv => decide ((m.s, (0 : Int)) ∈ st)) (decide_eq_true e), List.length_cons]
      omega
    · rw [if_neg e] at h1
      rw [List.filter_cons_of_neg (p := fun m : Mv => decide ((m.s, (0 : Int)) ∈ st)) (by rw [decide_eq_true_iff]; exact e)]
      omega
theorem gm_len {g : Gm} (gg : GGm g) : (gmRules g).length ≤ 24 := by
  have hnd := gg.w.nd
  rw [List.nodup_append] at hnd
  have h1 := fs_len (nmOf g.le) g.le g.st hnd.2.1 hnd.1 gg.p g.mv
  have h2 := gg.r
  have h3 : (gmRules g).length = g.go.length + onesN g.st + (g.st.flatMap fun s => g.le.flatMap (lrRules (nmOf g.le) g.mv s)).length := by
    unfold gmRules
    rw [List.length_append, List.length_append, goRules, onRules, List.length_map, List.length_map]
    rfl
  have e1 : (g.st.filter fun s => decide (s.2 = 1)).length = onesN g.st := rfl
  have e2 : (g.mv.filter fun m => decide ((m.s, (0 : Int)) ∈ g.st)).length = zerosN g.st g.mv := rfl
  rw [e1, e2, Nat.mul_add, Nat.mul_one] at h2
  omega
end Pg
namespace Pg
open PySem PySem.Spec PyProof.Rows L2
/-! ### the book of a game is one -/
section
variable {g : Gm} (gg : GGm g)
include gg
theorem gm_le_nb : ∀ l ∈ g.le, l ≠ "bottom" := fun l hl => gg.w.nb (List.mem_append_right _ hl)
theorem gm_sgn : (gmSg g).map (·.1) = g.le ++ (["bottom"] : List Str) := by
  unfold gmSg
  rw [List.map_append, List.map_map]
  show (g.le.map fun l => l) ++ (["bottom"] : List Str) = _
  rw [List.map_id']
theorem gm_sgd : ((gmSg g).map (·.1)).Nodup := by
  rw [gm_sgn gg, List.nodup_append]
  have := gg.w.nd
  rw [List.nodup_append] at this
  refine ⟨this.2.1, by simp, fun a ha b hb e => ?_⟩
  rw [List.mem_singleton] at hb
  subst hb
  exact gm_le_nb gg a ha e
theorem gm_nl {l : Str} (hl : l ∈ g.le) : numB (gmSg g) l = 1 := numB_in (gm_sgd gg) (List.mem_append_left _ (List.mem_map.mpr ⟨l, hl, rfl⟩))
theorem gm_nb : numB (gmSg g) "bottom" = 0 := numB_in (gm_sgd gg) (List.mem_append_right _ (List.mem_singleton.mpr rfl))
theorem gm_out {x : Str} (h : x ∉ g.le) (hb : x ≠ "bottom") : numB (gmSg g) x = -1 := numB_not fun hm => by
  rw [gm_sgn gg] at hm
  rcases List.mem_append.mp hm with z | z
  · exact h z
  · exact hb (List.mem_singleton.mp z)
theorem gm_okSg : OkSg (gmSg g) := by
  refine ⟨?_, gm_sgd gg, fun s hs => ?_, fun s hs => ?_, ⟨("bottom", 0), List.mem_append_right _ (List.mem_singleton.mpr rfl), rfl⟩⟩
  · unfold gmSg
    rw [List.length_append, List.length_map]
    have := gg.l
    show 1 ≤ g.le.length + 1 ∧ g.le.length + 1 ≤ 4
    omega
  · rcases List.mem_append.mp hs with z | z
    · obtain ⟨l, hl, rfl⟩ := List.mem_map.mp z
      exact gg.w.isw (List.mem_append_right _ hl)
    · rw [List.mem_singleton] at z; rw [z]; decide +kernel
  · rcases List.mem_append.mp hs with z | z
    · obtain ⟨l, hl, rfl⟩ := List.mem_map.mp z
      exact ⟨by show (0 : Int) ≤ 1; decide, by show (1 : Int) ≤ 2; decide⟩
    · rw [List.mem_singleton] at z; rw [z]; exact ⟨by show (0 : Int) ≤ 0; decide, by show (0 : Int) ≤ 2; decide⟩
theorem gm_mkn : (gmMk g).map (·.1) = g.st.map (·.1) := by
  unfold gmMk
  rw [List.map_map]
  rfl
theorem gm_mkd : ((gmMk g).map (·.1)).Nodup := by
  rw [gm_mkn gg]
  have := gg.w.nd
  rw [List.nodup_append] at this
  exact this.1
theorem gm_okMk : OkMk (gmSg g) (gmMk g) := by
  have hnd := gg.w.nd
  rw [List.nodup_append] at hnd
  refine ⟨?_, gm_mkd gg, fun s hs => ?_, fun s hs => ?_, fun s hs => ?_⟩
  · unfold gmMk
    rw [List.length_map]
    exact gg.s
  · obtain ⟨x, hx, rfl⟩ := List.mem_map.mp hs
    exact gg.w.isw (List.mem_append_left _ (List.mem_map.mpr ⟨x, hx, rfl⟩))
  · obtain ⟨x, hx, rfl⟩ := List.mem_map.mp hs
    have hm : x.1 ∈ g.st.map (·.1) := List.mem_map.mpr ⟨x, hx, rfl⟩
    show numB (gmSg g) x.1 < 0
    rw [gm_out gg (fun z => hnd.2.2 x.1 hm x.1 z rfl) (gg.w.nb (List.mem_append_left _ hm))]
    decide
  · obtain ⟨x, hx, rfl⟩ := List.mem_map.mp hs
    exact ⟨Int.le_refl _, by show (0 : Int) ≤ 2; decide⟩
theorem gm_ms {x : Str} (h : x ∈ g.st.map (·.1)) : numB (gmMk g) x = 0 := by
  obtain ⟨s, hs, rfl⟩ := List.mem_map.mp h
  exact numB_in (gm_mkd gg) (List.mem_map.mpr ⟨s, hs, rfl⟩)
theorem gm_isn : isnB (gmSg g) (nmOf g.le) = true := by
  obtain ⟨nm, r, _, e, hC, hl⟩ := nm_ex gg.l.2
  rw [← e]
  have h1 : ∀ x ∈ nmC, isW x = true ∧ x ≠ "bottom" := by decide +kernel
  obtain ⟨a, b⟩ := h1 nm hC
  unfold isnB
  rw [a, gm_out gg hl b]
  rfl
end
theorem hb_bottom {sg : Sg} (h : numB sg "bottom" = 0) : headB sg (tps "bottom" []) = true := by
  show (decide (numB sg "bottom" = ((0 : Nat) : Int)) && decide ((dcnt (hdNs sg [.str "bottom"]) : Int) = 1 - 1)) = true
  rw [h]
  rfl
theorem hb_name {sg : Sg} {l nm : Str} (h : numB sg l = 1) (hn : isnB sg nm = true) : headB sg (tps l [.str nm]) = true := by
  have e : hdNs sg [.str l, .str nm] = [nm] := by
    show (([PyData.str nm] : List PyData).filter (nmPart sg)).map toStr = _
    rw [List.filter_cons_of_pos (by exact hn)]
    rfl
  show (decide (numB sg l = ((1 : Nat) : Int)) && decide ((dcnt (hdNs sg [.str l, .str nm]) : Int) = 2 - 1)) = true
  rw [h, e]
  rfl
theorem stack_pre (d : PyData) : ∀ w : List Str, (preD (stackD w d)).length = w.length + (preD d).length
  | [] => by show (preD d).length = 0 + _; omega
  | l :: w => by
    show (preD (tps l [stackD w d])).length = _
    rw [preD_tup, List.length_cons, List.length_cons]
    show ((preD (stackD w d)) ++ []).length + 1 = _
    rw [List.append_nil, stack_pre d w]
    omega
theorem stack_nod {sg : Sg} {nm : Str} (hn : isnB sg nm = true) : ∀ w : List Str, (∀ l ∈ w, numB sg l = 1) → (preD (stackD w (.str nm))).all (nodB sg) = true
  | [], _ => by
    show ((isW nm && decide (numB sg nm = -1)) && true) = true
    rw [Bool.and_true]
    exact hn
  | l :: w, h => by
    show (preD (tps l [stackD w (.str nm)])).all (nodB sg) = true
    rw [preD_tup, List.all_cons]
    show (decide (numB sg l = ((1 : Nat) : Int)) && (preD (stackD w (.str nm)) ++ []).all (nodB sg)) = true
    rw [List.append_nil, stack_nod hn w fun x hx => h x (List.mem_cons_of_mem _ hx), h l (List.mem_cons_self ..)]
    rfl
theorem stack_nms (nm : Str) : ∀ w : List Str, nmsD (stackD w (.str nm)) = [nm]
  | [] => rfl
  | l :: w => by
    show nmsD (tps l [stackD w (.str nm)]) = _
    rw [nmsD_tps]
    show (preD (stackD w (.str nm)) ++ []).foldl nmStepD [] = _
    rw [List.append_nil]
    exact stack_nms nm w
theorem fur_none {hd : PyData} : ∀ bd : List Lit, (∀ l ∈ bd, ∀ x ∈ nmsD l.t, x ∈ nmsD hd) → furD hd bd = [] := fun bd h => by
  unfold furD
  have go : ∀ (bs : List Lit), (∀ l ∈ bs, l ∈ bd) → bs.foldl (fun acc l => (nmsD l.t).foldl (furStep (nmsD hd)) acc) [] = [] := by
    intro bs
    induction bs with
    | nil => intro _; rfl
    | cons l bs ih =>
      intro hb
      rw [List.foldl_cons, fur_same (nmsD l.t) [] fun x hx => .inl (h l (hb l (List.mem_cons_self ..)) x hx)]
      exact ih fun y hy => hb y (List.mem_cons_of_mem _ hy)
  exact go bd fun l hl => hl
section
variable {g : Gm} (gg : GGm g)
include gg
theorem gm_lit {m : Mv} (hm : m ∈ g.mv) : litB (gmSg g) (gmMk g) 0 (litOf (nmOf g.le) m) = true := by
  have h := gg.m m hm
  unfold litB
  show ((decide (0 ≤ numB (gmMk g) m.a) && decide (numB (gmMk g) m.a ≤ if true = true then (0 : Int) else 0 - 1)) && (decide ((preD (stackD m.w (.str (nmOf g.le)))).length ≤ 6) && (preD (stackD m.w (.str (nmOf g.le)))).all (nodB (gmSg g)))) = true
  rw [gm_ms gg h.2.2.1, stack_pre, stack_nod (gm_isn gg) m.w fun l hl => gm_nl gg (h.2.2.2.2 l hl), decide_eq_true (show m.w.length + (preD (.str (nmOf g.le))).length ≤ 6 by have := h.2.2.2.1; show m.w.length + 1 ≤ 6; omega)]
  rfl
theorem gm_rb {s : Str} {hd : PyData} {bd : List Lit} (hs : s ∈ g.st.map (·.1)) (hh : headB (gmSg g) hd = true) (h4 : bd.length ≤ 4) (hl : ∀ l ∈ bd, ∃ m ∈ g.mv, l = litOf (nmOf g.le) m) (hn : bd = [] ∨ nmsD hd = [nmOf g.le]) : rulB (gmSg g) (gmMk g) ⟨s, hd, bd⟩ = true := by
  unfold rulB
  show (decide (0 ≤ numB (gmMk g) s) && (headB (gmSg g) hd && (decide (bd.length ≤ 4) && (bd.all (litB (gmSg g) (gmMk g) (numB (gmMk g) s)) && decide ((furD hd bd).length ≤ 1))))) = true
  have hf : furD hd bd = [] := by
    rcases hn with z | z
    · rw [z]; rfl
    · refine fur_none bd fun l hl' x hx => ?_
      obtain ⟨m, _, rfl⟩ := hl l hl'
      rw [show nmsD (litOf (nmOf g.le) m).t = [nmOf g.le] from stack_nms _ m.w] at hx
      rw [z]
      exact hx
  rw [gm_ms gg hs, hh, decide_eq_true h4, hf, List.all_eq_true.mpr fun l hl' => by obtain ⟨m, hm, rfl⟩ := hl l hl'; exact gm_lit gg hm]
  rfl
theorem gm_rules : ∀ r ∈ gmRules g, rulB (gmSg g) (gmMk g) r = true := fun r hr => by
  have nol : ∀ l ∈ ([] : List Lit), ∃ m ∈ g.mv, l = litOf (nmOf g.le) m := fun l hl => absurd hl List.not_mem_nil
  unfold gmRules at hr
  rcases List.mem_append.mp hr with z | z
  · rcases List.mem_append.mp z with z | z
    · obtain ⟨x, hx, rfl⟩ := List.mem_map.mp z
      refine gm_rb gg (gg.g x hx) ?_ (Nat.zero_le _) nol (.inl rfl)
      by_cases e : x.2 = true
      · rw [if_pos e]; exact hb_bottom (gm_nb gg)
      · rw [if_neg e]; exact gm_isn gg
    · obtain ⟨x, hx, rfl⟩ := List.mem_map.mp z
      exact gm_rb gg (List.mem_map.mpr ⟨x, (List.mem_filter.mp hx).1, rfl⟩) (hb_bottom (gm_nb gg)) (Nat.zero_le _) nol (.inl rfl)
  · obtain ⟨s, hs, z⟩ := List.mem_flatMap.mp z
    obtain ⟨l, hl, z⟩ := List.mem_flatMap.mp z
    have hsm : s.1 ∈ g.st.map (·.1) := List.mem_map.mpr ⟨s, hs, rfl⟩
    have hh := hb_name (gm_nl gg hl) (gm_isn gg)
    have hnm : nmsD (tps l [.str (nmOf g.le)]) = [nmOf g.le] := stack_nms (nmOf g.le) [l]
    have hls : ∀ x ∈ Pg.litsOf (nmOf g.le) g.mv s.1 l, ∃ m ∈ g.mv, x = litOf (nmOf g.le) m := fun x hx => by
      obtain ⟨m, hm, rfl⟩ := List.mem_map.mp hx
      exact ⟨m, (List.mem_filter.mp hm).1, rfl⟩
    unfold lrRules at z
    by_cases e : s.2 = 1
    · rw [if_pos e, List.mem_singleton] at z
      rw [z]
      refine gm_rb gg hsm hh ?_ hls (.inr hnm)
      unfold Pg.litsOf
      rw [List.length_map]
      exact gg.f s hs e l
    · rw [if_neg e] at z
      obtain ⟨x, hx, rfl⟩ := List.mem_map.mp z
      exact gm_rb gg hsm hh (by show 1 ≤ 4; decide) (fun y hy => by rw [List.mem_singleton] at hy; rw [hy]; exact hls x hx) (.inr hnm)
theorem gm_ok : OkBk (gmSg g) (gmMk g) (gmRules g) := ⟨gm_okSg gg, gm_okMk gg, gm_len gg, List.all_eq_true.mpr (gm_rules gg)⟩
end
end Pg

set_option Elab.async false
set_option linter.all false
set_option maxRecDepth 100000
set_option maxHeartbeats 4000000
namespace Pg
open PySem PySem.Spec PyProof.Rows L2
/-! ### games can be shown -/
theorem Sh.wrd {x : Str} (h : isW x = true) : Sh 0 8 (.str x) := by
  have hl := isW_len h
  refine Sh.str (fun c hc => ?_) (by rw [← cs_len]; exact hl)
  unfold isW at h
  rw [Bool.and_eq_true, Bool.and_eq_true (b := (cs x).all lowC)] at h
  have h3 := List.all_eq_true.mp h.2.2 c hc
  unfold lowC at h3
  rw [Bool.and_eq_true, decide_eq_true_iff, decide_eq_true_iff] at h3
  have : (16 : Nat) ^ 8 = 4294967296 := by decide
  omega
theorem Sh.bool {b : Bool} : Sh 0 0 (.bool b) := by
  refine ⟨by rw [PyData.showable], by cases b <;> decide +kernel, Nat.le_refl _, Nat.le_refl _⟩
theorem Sh.map {α : Type} {D B n : Nat} {e : α → PyData} {ks : List α} (h : ∀ k ∈ ks, Sh D B (e k)) (hn : ks.length ≤ n) : Sh (D + 1) (n * (B + 1)) (.tuple (ks.map e)) := by
  have h1 := Sh.tup (D := D) (B := B) (ds := ks.map e) fun d hd => by obtain ⟨k, hk, rfl⟩ := List.mem_map.mp hd; exact h k hk
  refine h1.mono (Nat.le_refl _) ?_
  rw [List.length_map]
  exact Nat.mul_le_mul_right _ hn
theorem sh2 {D B : Nat} {a b : PyData} (ha : Sh D B a) (hb : Sh D B b) : Sh (D + 1) (2 * (B + 1)) (.tuple [a, b]) := Sh.tup (ds := [a, b]) fun d hd => by
  rcases List.mem_cons.mp hd with z | z
  · rw [z]; exact ha
  · rw [List.mem_singleton.mp z]; exact hb
theorem sh4 {D B : Nat} {a b c e : PyData} (ha : Sh D B a) (hb : Sh D B b) (hc : Sh D B c) (he : Sh D B e) : Sh (D + 1) (4 * (B + 1)) (.tuple [a, b, c, e]) := Sh.tup (ds := [a, b, c, e]) fun d hd => by
  rcases List.mem_cons.mp hd with z | z
  · rw [z]; exact ha
  · rcases List.mem_cons.mp z with z | z
    · rw [z]; exact hb
    · rcases List.mem_cons.mp z with z | z
      · rw [z]; exact hc
      · rw [List.mem_singleton.mp z]; exact he
theorem gm_sh {g : Gm} (gg : GGm g) : Sh 4 12324 (gmD g) := by
  have iw : ∀ x ∈ g.st.map (·.1) ++ g.le, isW x = true := fun x hx => gg.w.isw hx
  have hs : ∀ {x : Str}, x ∈ g.st.map (·.1) → Sh 0 8 (.str x) := fun h => Sh.wrd (iw _ (List.mem_append_left _ h))
  have hl : ∀ {x : Str}, x ∈ g.le → Sh 0 8 (.str x) := fun h => Sh.wrd (iw _ (List.mem_append_right _ h))
  have h1 : Sh 2 114 (.tuple (g.st.map stD)) := Sh.map (D := 1) (B := 18) (n := 6) (fun s h => sh2 (hs (List.mem_map.mpr ⟨s, h, rfl⟩)) ((Sh.int (by have := gg.p s h; omega) (by have := gg.p s h; omega)).mono (Nat.le_refl _) (by decide))) gg.s.2
  have h2 : Sh 1 27 (.tuple (g.le.map .str)) := Sh.map (D := 0) (B := 8) (n := 3) (fun l h => hl h) gg.l.2
  have h3 : Sh 3 3080 (.tuple (g.mv.map mvD)) := Sh.map (D := 2) (B := 76) (n := 40) (fun m h => by
    have ok := gg.m m h
    refine sh4 (D := 1) (B := 18) ((hs ok.1).mono (by decide) (by decide)) ((hl ok.2.1).mono (by decide) (by decide)) ((hs ok.2.2.1).mono (by decide) (by decide)) ?_
    exact Sh.map (D := 0) (B := 8) (n := 2) (fun x hx => hl (ok.2.2.2.2 x hx)) ok.2.2.2.1) gg.ml
  have h4 : Sh 2 57 (.tuple (g.go.map goD)) := Sh.map (D := 1) (B := 18) (n := 3) (fun x h => sh2 (hs (gg.g x h)) (Sh.bool.mono (Nat.le_refl _) (by decide))) gg.gl
  exact sh4 (D := 3) (B := 3080) (h1.mono (by decide) (by decide)) (h2.mono (by decide) (by decide)) h3 (h4.mono (by decide) (by decide))
theorem hd_map {α : Type} {e : α → PyData} : ∀ {ks : List α}, (∀ k ∈ ks, PyData.hasDict (e k) = false) → PyData.hasDictAll (ks.map e) = false
  | [], _ => by rw [List.map_nil, PyData.hasDictAll]
  | k :: ks, h => by rw [List.map_cons, PyData.hasDictAll, h k (List.mem_cons_self ..), hd_map fun y hy => h y (List.mem_cons_of_mem _ hy)]; rfl
theorem gm_nd (g : Gm) : PyData.hasDict (gmD g) = false := by
  have hs : ∀ x : Str, PyData.hasDict (.str x) = false := fun x => by rw [PyData.hasDict]
  have h1 : PyData.hasDictAll (g.st.map stD) = false := hd_map fun s _ => by simp [PyData.hasDict, PyData.hasDictAll]
  have h2 : PyData.hasDictAll (g.le.map .str) = false := hd_map fun s _ => hs s
  have h4 : PyData.hasDictAll (g.go.map goD) = false := hd_map fun s _ => by simp [PyData.hasDict, PyData.hasDictAll]
  have h3 : PyData.hasDictAll (g.mv.map mvD) = false := hd_map fun m _ => by
    have h5 : PyData.hasDictAll (m.w.map .str) = false := hd_map fun s _ => hs s
    simp [PyData.hasDict, PyData.hasDictAll, h5]
  simp [PyData.hasDict, PyData.hasDictAll, h1, h2, h3, h4]
/-! ### no truth values -/
def noB : Nat → PyData → Bool
  | 0, _ => false
  | _ + 1, .str _ => true
  | _ + 1, .int _ => true
  | n + 1, .tuple ds => decide (ds.length ≤ 1000) && ds.all (noB n)
  | _ + 1, _ => false
theorem noB_solid : ∀ (n : Nat) (d : PyData), noB n d = true → solid d = true
  | 0, _, h => by rw [noB] at h; cases h
  | _ + 1, .str _, _ => by rw [solid]
  | _ + 1, .int _, _ => by rw [solid]
  | n + 1, .tuple ds, h => by
    rw [noB, Bool.and_eq_true] at h
    rw [solid]
    exact solidAll_of fun d hd => noB_solid n d (List.all_eq_true.mp h.2 d hd)
  | _ + 1, .none, h => by simp [noB] at h
  | _ + 1, .bool _, h => by simp [noB] at h
  | _ + 1, .list _, h => by simp [noB] at h
  | _ + 1, .dict _, h => by simp [noB] at h
def spBools (K : PySem.W.Frag) (n : Nat) : Sp := fun vs H Q _ => ∃ (v : V) (d : PyData), vs = [v] ∧ Dp K H v d ∧ noB n d = true ∧ ∀ H', Same H H' → Q (.bl false) H'
/-! ### data that is the same as itself -/
theorem bk_of {K : PySem.W.Frag} {H : Hp} {b : Addr} {sg mk : Sg} {rs : List Rul} (h : Dp K H (.ref b) (bkD sg mk rs)) : BkAt K H b sg mk rs := by
  cases h with
  | @tup _ us _ hq ha =>
  cases ha with
  | @cons v1 _ _ _ h1 ha =>
  cases ha with
  | @cons v2 _ _ _ h2 ha =>
  cases ha with
  | @cons v3 _ _ _ h3 ha =>
  cases ha
  have sgc : ∀ {v : V} {st : Sg}, Dp K H v (.tuple (st.map stD)) → ∃ p, v = .ref p ∧ SgAt K H p st := fun {v st} hd => by
    cases hd with
    | @tup p xs _ hq hx =>
    obtain ⟨rs, e, pr⟩ := prs_sg (g := id) (prs_of hx)
    rw [List.map_id] at pr
    exact ⟨p, rfl, rs, by rw [← e]; exact hq, pr⟩
  obtain ⟨p1, rfl, s1⟩ := sgc h1
  obtain ⟨p2, rfl, s2⟩ := sgc h2
  cases h3 with
  | @tup p3 xs _ hq3 hx3 =>
  exact ⟨p1, p2, p3, hq, s1, s2, .tup hq3 hx3⟩
end Pg
namespace Pg
open PySem PySem.Spec PyProof.Rows L2
theorem ns_stack {nm : Str} (h : nm.length ≤ 100000) : ∀ w : List Str, NsZ (w.length + 1) (stackD w (.str nm))
  | [] => NsZ.str h
  | l :: w => NsZ.t2 rfl (ns_stack h w)
theorem gm_bs {g : Gm} (gg : GGm g) : BkS (gmSg g) (gmMk g) (gmRules g) := by
  have o1 := gm_okSg gg
  have o2 := gm_okMk gg
  have iw : ∀ x ∈ g.st.map (·.1), x.length ≤ 8 := fun x hx => isW_len (gg.w.isw (List.mem_append_left _ hx))
  have hnm : (nmOf g.le).length ≤ 100000 := by
    have := gm_isn gg
    unfold isnB at this
    rw [Bool.and_eq_true] at this
    have := isW_len this.1
    omega
  have hlit : ∀ m ∈ g.mv, LitS (litOf (nmOf g.le) m) := fun m hm => by
    have ok := gg.m m hm
    have h1 := iw m.a ok.2.2.1
    exact ⟨by show m.a.length ≤ 100000; omega, (ns_stack hnm m.w).ok (by have := ok.2.2.2.1; omega)⟩
  have nol : ∀ l ∈ ([] : List Lit), LitS l := fun l hl => absurd hl List.not_mem_nil
  refine ⟨by have := o1.l.2; omega, fun s hs => by have := isW_len (o1.w s hs); omega, by have := o2.l.2; omega, fun s hs => by have := isW_len (o2.w s hs); omega, by have := gm_len gg; omega, fun r hr => ?_⟩
  unfold gmRules at hr
  rcases List.mem_append.mp hr with z | z
  · rcases List.mem_append.mp z with z | z
    · obtain ⟨x, hx, rfl⟩ := List.mem_map.mp z
      refine ⟨by have := iw _ (gg.g x hx); show x.1.length ≤ 100000; omega, ?_, Nat.zero_le _, nol⟩
      by_cases e : x.2 = true
      · show NsS (if x.2 then tps "bottom" [] else .str (nmOf g.le)); rw [if_pos e]; exact (NsZ.t1 (a := .str "bottom") rfl).ok (by decide)
      · show NsS (if x.2 then tps "bottom" [] else .str (nmOf g.le)); rw [if_neg e]; exact (NsZ.str hnm).ok (by decide)
    · obtain ⟨x, hx, rfl⟩ := List.mem_map.mp z
      exact ⟨by have := iw x.1 (List.mem_map.mpr ⟨x, (List.mem_filter.mp hx).1, rfl⟩); show x.1.length ≤ 100000; omega, (NsZ.t1 (a := .str "bottom") rfl).ok (by decide), Nat.zero_le _, nol⟩
  · obtain ⟨s, hs, z⟩ := List.mem_flatMap.mp z
    obtain ⟨l, hl, z⟩ := List.mem_flatMap.mp z
    have hsm := iw s.1 (List.mem_map.mpr ⟨s, hs, rfl⟩)
    have hh : NsS (tps l [.str (nmOf g.le)]) := (NsZ.t2 (a := .str l) rfl (NsZ.str hnm)).ok (by decide)
    have hls : ∀ x ∈ Pg.litsOf (nmOf g.le) g.mv s.1 l, LitS x := fun x hx => by
      obtain ⟨m, hm, rfl⟩ := List.mem_map.mp hx
      exact hlit m (List.mem_filter.mp hm).1
    unfold lrRules at z
    by_cases e : s.2 = 1
    · rw [if_pos e, List.mem_singleton] at z
      rw [z]
      refine ⟨by show s.1.length ≤ 100000; omega, hh, ?_, hls⟩
      show (Pg.litsOf (nmOf g.le) g.mv s.1 l).length ≤ 1000
      unfold Pg.litsOf
      rw [List.length_map]
      have := List.length_filter_le (fun m : Mv => decide (m.s = s.1) && decide (m.l = l)) g.mv
      have := gg.ml
      omega
    · rw [if_neg e] at z
      obtain ⟨x, hx, rfl⟩ := List.mem_map.mp z
      exact ⟨by show s.1.length ≤ 100000; omega, hh, by show 1 ≤ 1000; decide, all1 (hls x hx)⟩
/-- a book can be compared with itself -/
theorem lay_map {α : Type} {n : Nat} {e : α → PyData} {ks : List α} (h : ∀ k ∈ ks, LayN n (e k)) : LayN (n + 1) (.tuple (ks.map e)) := .tup (.map h)
theorem LayN.mono {n m : Nat} {d : PyData} (h : LayN n d) (hm : n ≤ m) : LayN m d := ⟨h.l, Nat.le_trans h.d hm⟩
theorem lay_stack {nm : Str} (hn : isW nm = true) : ∀ w : List Str, (∀ l ∈ w, isW l = true) → LayN w.length (stackD w (.str nm))
  | [], _ => .str hn
  | l :: w, h => .tup (.cons (.str (h l (List.mem_cons_self ..))) (.cons (lay_stack hn w fun x hx => h x (List.mem_cons_of_mem _ hx)) .nil))
theorem wB : isW "bottom" = true := by decide +kernel
theorem gm_lay {g : Gm} (gg : GGm g) : LayN 7 (bkD (gmSg g) (gmMk g) (gmRules g)) := by
  have o1 := gm_okSg gg
  have o2 := gm_okMk gg
  have iw : ∀ x ∈ g.st.map (·.1), isW x = true := fun x hx => gg.w.isw (List.mem_append_left _ hx)
  have il : ∀ x ∈ g.le, isW x = true := fun x hx => gg.w.isw (List.mem_append_right _ hx)
  have hnm : isW (nmOf g.le) = true := by
    have := gm_isn gg
    unfold isnB at this
    rw [Bool.and_eq_true] at this
    exact this.1
  have h1 : LayN 6 (.tuple ((gmSg g).map stD)) := (lay_map (n := 1) fun s hs => .tup (.cons (.str (o1.w s hs)) (.cons .int .nil))).mono (by decide)
  have h2 : LayN 6 (.tuple ((gmMk g).map stD)) := (lay_map (n := 1) fun s hs => .tup (.cons (.str (o2.w s hs)) (.cons .int .nil))).mono (by decide)
  have hlit : ∀ m ∈ g.mv, LayN 3 (litD (litOf (nmOf g.le) m)) := fun m hm => by
    have ok := gg.m m hm
    exact .tup (.cons .bool (.cons (.str (iw _ ok.2.2.1)) (.cons ((lay_stack hnm m.w fun l hl => il _ (ok.2.2.2.2 l hl)).mono ok.2.2.2.1) .nil)))
  have hnil : LayN 4 (.tuple (([] : List Lit).map litD)) := .tup .nil
  have h3 : LayN 6 (.tuple ((gmRules g).map rulD)) := lay_map (n := 5) fun r hr => by
    unfold gmRules at hr
    rcases List.mem_append.mp hr with z | z
    · rcases List.mem_append.mp z with z | z
      · obtain ⟨x, hx, rfl⟩ := List.mem_map.mp z
        refine .tup (.cons (.str (iw _ (gg.g x hx))) (.cons ?_ (.cons hnil .nil)))
        by_cases e : x.2 = true
        · show LayN 4 (if x.2 then tps "bottom" [] else .str (nmOf g.le)); rw [if_pos e]; exact .tup (.cons (.str wB) .nil)
        · show LayN 4 (if x.2 then tps "bottom" [] else .str (nmOf g.le)); rw [if_neg e]; exact .str hnm
      · obtain ⟨x, hx, rfl⟩ := List.mem_map.mp z
        exact .tup (.cons (.str (iw _ (List.mem_map.mpr ⟨x, (List.mem_filter.mp hx).1, rfl⟩))) (.cons (.tup (.cons (.str wB) .nil)) (.cons hnil .nil)))
    · obtain ⟨s, hs, z⟩ := List.mem_flatMap.mp z
      obtain ⟨l, hl, z⟩ := List.mem_flatMap.mp z
      have hw := iw s.1 (List.mem_map.mpr ⟨s, hs, rfl⟩)
      have hh : LayN 4 (tps l [.str (nmOf g.le)]) := .tup (.cons (.str (il _ hl)) (.cons (.str hnm) .nil))
      have hls : ∀ x ∈ Pg.litsOf (nmOf g.le) g.mv s.1 l, LayN 3 (litD x) := fun x hx => by
        obtain ⟨m, hm, rfl⟩ := List.mem_map.mp hx
        exact hlit m (List.mem_filter.mp hm).1
      unfold lrRules at z
      by_cases e : s.2 = 1
      · rw [if_pos e, List.mem_singleton] at z
        rw [z]
        exact .tup (.cons (.str hw) (.cons hh (.cons (lay_map hls) .nil)))
      · rw [if_neg e] at z
        obtain ⟨x, hx, rfl⟩ := List.mem_map.mp z
        exact .tup (.cons (.str hw) (.cons hh (.cons (.tup (.cons (hls x hx) .nil)) .nil)))
  exact .tup (.cons h1 (.cons h2 (.cons h3 .nil)))
end Pg
namespace Pg
open PySem PySem.Spec PyProof.Rows L2
mutual
theorem eqv_self : ∀ {d : PyData}, solid d = true → PyData.eqv d d = true
  | .str x, _ => by rw [PyData.eqv]; exact beq_self_eq_true x
  | .int i, _ => by rw [PyData.eqv]; exact beq_self_eq_true i
  | .bool b, _ => by rw [PyData.eqv]; exact beq_self_eq_true b
  | .none, _ => by rw [PyData.eqv]
  | .tuple ds, h => by
    rw [solid] at h
    rw [PyData.eqv]
    exact eqvs_self h
  | .list ds, h => by
    rw [solid] at h
    cases h
    all_goals simp
  | .dict ds, h => by
    rw [solid] at h
    cases h
    all_goals simp
theorem eqvs_self : ∀ {ds : List PyData}, solid.solidAll ds = true → PyData.eqvAll ds ds = true
  | [], _ => by rw [PyData.eqvAll]
  | d :: ds, h => by
    rw [solid.solidAll, Bool.and_eq_true] at h
    rw [PyData.eqvAll, eqv_self h.1, eqvs_self h.2]
    rfl
end
theorem bk_solid {sg mk : Sg} {rs : List Rul} (h : ∀ r ∈ rs, RulS r) : solid (bkD sg mk rs) = true := by
  have h1 : ∀ s : Sg, solid.solidAll (s.map stD) = true := fun s => solidAll_of fun d hd => by obtain ⟨m, _, rfl⟩ := List.mem_map.mp hd; exact nest_solid_st m
  rw [solid, solid.solidAll, solid.solidAll, solid.solidAll, solid.solidAll, solid, solid, solid, h1, h1, so_rul h]
  rfl
theorem gm_solid (g : Gm) : solid (gmD g) = true := by
  have h1 : solid.solidAll (g.st.map stD) = true := solidAll_of fun d hd => by obtain ⟨m, _, rfl⟩ := List.mem_map.mp hd; exact nest_solid_st m
  have h2 : solid.solidAll (g.le.map PyData.str) = true := solidAll_of fun d hd => by obtain ⟨m, _, rfl⟩ := List.mem_map.mp hd; exact nest_solid rfl
  have h3 : solid.solidAll (g.mv.map mvD) = true := solidAll_of fun d hd => by obtain ⟨m, _, rfl⟩ := List.mem_map.mp hd; exact solid_mv m
  have h4 : solid.solidAll (g.go.map goD) = true := solidAll_of fun d hd => by obtain ⟨m, _, rfl⟩ := List.mem_map.mp hd; exact solid_go m
  rw [solid, solid.solidAll, solid.solidAll, solid.solidAll, solid.solidAll, solid.solidAll, solid, solid, solid, solid, h1, h2, h3, h4]
  rfl
end Pg
namespace Pg
open PySem PySem.Spec PyProof.Rows L2
theorem noB_sg {st : Sg} (h : st.length ≤ 1000) {n : Nat} : noB (n + 3) (.tuple (st.map stD)) = true := by
  rw [noB, List.length_map, decide_eq_true h, Bool.true_and, List.all_eq_true]
  intro d hd
  obtain ⟨s, _, rfl⟩ := List.mem_map.mp hd
  show noB (n + 1 + 1) (.tuple [.str s.1, .int s.2]) = true
  rw [noB]
  simp [noB]
end Pg

set_option Elab.async false
set_option linter.all false
set_option maxRecDepth 100000
set_option maxHeartbeats 4000000
namespace Pg
open PySem PySem.Spec PyProof.Rows L2
/-! ### marks as bits -/
def bitsN : Sg → List Str → Nat
  | [], _ => 0
  | s :: mk, ws => (if s.1 ∈ ws then 1 else 0) + 2 * bitsN mk ws
def wordsN : Sg → Nat → List Str
  | [], _ => []
  | s :: mk, b => if b % 2 = 1 then s.1 :: wordsN mk (b / 2) else wordsN mk (b / 2)
def spBto (K : PySem.W.Frag) : Sp := fun vs H Q _ => ∃ (g p : Addr) (mk : Sg) (ws : List Str), vs = [.ref g, .ref p] ∧ SgAt K H g mk ∧ mk.length ≤ 60 ∧ SqT K H p (ws.map V.str) ∧ ∀ H', Same H H' → Q (.int (bitsN mk ws : Nat)) H'
def spWof (K : PySem.W.Frag) : Sp := fun vs H Q _ => ∃ (g : Addr) (mk : Sg) (b : Nat), vs = [.ref g, .int (b : Nat)] ∧ SgAt K H g mk ∧ mk.length ≤ 60 ∧ ∀ p H', H p = none → Same H H' → SqT K H' p ((wordsN mk b).map V.str) → Q (.ref p) H'
end Pg
namespace Pg
open PySem PySem.Spec PyProof.Rows L2
/-! ### enumerate over pairs, in a list comprehension -/
def enF {β : Type} (f : Nat → Str × Int → β) (b : Nat → Str × Int → Bool) : Nat → Sg → List β
  | _, [] => []
  | k, s :: sg => if b k s then f k s :: enF f b (k + 1) sg else enF f b (k + 1) sg
theorem enF_snoc {β : Type} (f : Nat → Str × Int → β) (b : Nat → Str × Int → Bool) (s : Str × Int) : ∀ (k : Nat) (sg : Sg), enF f b k (sg ++ [s]) = enF f b k sg ++ (if b (k + sg.length) s then [f (k + sg.length) s] else [])
  | k, [] => by
    show (if b k s then f k s :: enF f b (k + 1) [] else enF f b (k + 1) []) = _
    simp [enF]
  | k, t :: sg => by
    rw [List.cons_append, enF, enF, enF_snoc f b s (k + 1) sg, List.length_cons, show k + 1 + sg.length = k + (sg.length + 1) by omega]
    split <;> simp
theorem enF_len {β : Type} (f : Nat → Str × Int → β) (b : Nat → Str × Int → Bool) : ∀ (k : Nat) (sg : Sg), (enF f b k sg).length ≤ sg.length
  | k, [] => Nat.le_refl _
  | k, s :: sg => by
    have := enF_len f b (k + 1) sg
    rw [enF]
    split
    · rw [List.length_cons, List.length_cons]; omega
    · rw [List.length_cons]; omega
section
variable {K : PySem.W.Frag} {σ : L2.St} {H : Hp} {Q : VK} {g : Addr} {sg : Sg} {jp js ju i : Nat} {tt : TT} {te : TE}
theorem rd_enN (f : Nat → Str × Int → V) (b : Nat → Str × Int → Bool) (hi : σ[i]? = some (some (.ref g))) (hS : SgAt K H g sg) (hlen : sg.length ≤ 1000)
    (hw : ∀ x y z, wipe ((((wipe σ [jp, js, ju]).set jp (some x)).set js (some y)).set ju (some z)) [jp, js, ju] = wipe σ [jp, js, ju])
    (htt : ∀ k s H', sg[k]? = some s → Same H H' → ∀ Q' : Bool → Hp → Prop, (∀ H2, Same H' H2 → Q' (b k s) H2) → tt ((((wipe σ [jp, js, ju]).set jp (some (.int (k : Nat)))).set js (some (.str s.1))).set ju (some (.int s.2))) H' Q')
    (ht : ∀ k s H', sg[k]? = some s → Same H H' → ∀ Q' : VK, (∀ H2, Same H' H2 → Q' (f k s) H2) → te ((((wipe σ [jp, js, ju]).set jp (some (.int (k : Nat)))).set js (some (.str s.1))).set ju (some (.int s.2))) H' Q')
    (h : ∀ D H', H D = none → Same H H' → H' D = some (.lst (enF f b 0 sg)) → Q (.ref D) H') :
    tLc (iEnumT K (tCons (tVar i) tNil)) (gTup K 2 (gCons (gName jp) (gCons (gTup K 2 (gCons (gName js) (gCons (gName ju) gNil))) gNil))) tt te [jp, js, ju] σ H Q := by
  obtain ⟨rs, hT, pr⟩ := hS.ex
  have hl : (rs.map V.ref).length = sg.length := by rw [List.length_map, paired_len pr]
  refine ⟨_, hi, g, _, rfl, hT, fun D nD => ?_⟩
  refine lc_it (walk_enT (K := K) (a := g) (xs := rs.map V.ref) (n := sg.length) hl.symm) (fun i H' => Same H H' ∧ H' D = some (.lst (enF f b 0 (sg.take i)))) ⟨Same.new nD, upd_same⟩ (fun i H' _ iv => TK.same iv.1 _ _ hT) (fun i y H' H'' hi' iv yv => ?_) (fun H' iv => ?_)
  · obtain ⟨T, y', rfl, nT, rfl, hy⟩ := yv
    obtain ⟨sm, hd⟩ := iv
    rw [List.getElem?_map] at hy
    obtain ⟨r, er, rfl⟩ : ∃ r, rs[i]? = some r ∧ V.ref r = y' := by
      cases e : rs[i]? with
      | none => rw [e] at hy; cases hy
      | some z => rw [e] at hy; exact ⟨z, rfl, Option.some.inj hy⟩
    obtain ⟨s, es, hr⟩ := Pg.paired_get pr er
    have hd2 : (upd H' T (.tup [.int (i : Nat), .ref r])) D = some (.lst (enF f b 0 (sg.take i))) := by rw [upd_ne (ne_of_none hd nT)]; exact hd
    have sm2 := sm.trans (Same.new (o := .tup [.int (i : Nat), .ref r]) nT)
    refine ⟨T, _, rfl, SqT.mk upd_same, rfl, _, _, rfl, _, _, rfl, r, _, rfl, (TK.new nT) _ _ (TK.same sm _ _ hr), rfl, _, _, rfl, _, _, rfl, rfl, rfl, hw _ _ _, ?_⟩
    have hlt : i < sg.length := (List.getElem?_eq_some_iff.mp es).1
    have etl : (sg.take i).length = i := by rw [List.length_take]; omega
    refine htt i s _ es sm2 _ fun H2 s2 => if_of (fun e1 => ?_) (fun e1 => ?_)
    · refine ht i s H2 es (sm2.trans s2) _ fun H3 s3 => ⟨_, (s2.trans s3) _ _ hd2, ?_, Same.mut nD (sm2.trans (s2.trans s3)), ?_⟩
      · have := enF_len f b 0 (sg.take i)
        rw [etl] at this
        exact small1000 (by omega)
      · rw [upd_same, take_snoc es, enF_snoc, etl, Nat.zero_add, if_pos e1]
    · refine ⟨sm2.trans s2, ?_⟩
      rw [take_snoc es, enF_snoc, etl, Nat.zero_add, if_neg (by rw [e1]; decide), List.append_nil]
      exact s2 _ _ hd2
  · obtain ⟨sm, hd⟩ := iv
    rw [List.take_length] at hd
    exact h D H' nD sm hd
end
end Pg
namespace Pg
open PySem PySem.Spec PyProof.Rows L2
theorem enF_map {β γ : Type} (h : β → γ) (f : Nat → Str × Int → β) (b : Nat → Str × Int → Bool) : ∀ (k : Nat) (sg : Sg), enF (fun k s => h (f k s)) b k sg = (enF f b k sg).map h
  | k, [] => rfl
  | k, s :: sg => by
    rw [enF, enF, enF_map h f b (k + 1) sg]
    split <;> rfl
theorem enF_bits (ws : List Str) : ∀ (k : Nat) (mk : Sg), (enF (fun k _ => (1 * 2 ^ ((k : Nat) : Int).toNat : Int)) (fun _ s => decide (s.1 ∈ ws)) k mk).sum = ((2 ^ k * bitsN mk ws : Nat) : Int)
  | k, [] => by simp [enF, bitsN]
  | k, s :: mk => by
    rw [enF, bitsN]
    have ih := enF_bits ws (k + 1) mk
    have e2 : ((2 ^ (k + 1) * bitsN mk ws : Nat) : Int) = ((2 ^ k * (2 * bitsN mk ws) : Nat) : Int) := by
      rw [Nat.pow_succ, Nat.mul_assoc]
    by_cases m : s.1 ∈ ws
    · rw [if_pos (by simpa using m), if_pos m, List.sum_cons, ih, e2, Nat.mul_add, Nat.mul_one]
      rw [Int.toNat_natCast, Int.one_mul, Int.natCast_add, Int.natCast_pow]
      rfl
    · rw [if_neg (by simpa using m), if_neg m, ih, e2, Nat.zero_add]
theorem enF_words (b : Nat) : ∀ (k : Nat) (mk : Sg), enF (fun _ s => s.1) (fun k _ => decide ((b / 2 ^ k) % 2 = 1)) k mk = wordsN mk (b / 2 ^ k)
  | k, [] => rfl
  | k, s :: mk => by
    rw [enF, wordsN, enF_words b (k + 1) mk, show b / 2 ^ (k + 1) = b / 2 ^ k / 2 by rw [Nat.pow_succ, Nat.div_div_eq_div_mul]]
    by_cases m : (b / 2 ^ k) % 2 = 1
    · rw [if_pos (by simpa using m), if_pos m]
    · rw [if_neg (by simpa using m), if_neg m]
theorem bit_tru (b k : Nat) : (Builtin.bitAnd (((b : Nat) : Int) / 2 ^ ((k : Nat) : Int).toNat) 1 != 0) = decide ((b / 2 ^ k) % 2 = 1) := by
  rw [Int.toNat_natCast, show ((b : Nat) : Int) / 2 ^ k = (((b / 2 ^ k : Nat)) : Int) by rw [Int.natCast_ediv, Int.natCast_pow]; rfl]
  have e : Builtin.bitAnd (((b / 2 ^ k : Nat)) : Int) 1 = (((b / 2 ^ k) % 2 : Nat) : Int) := by
    unfold Builtin.bitAnd
    have h1 : decide (0 ≤ (((b / 2 ^ k : Nat)) : Int)) = true := decide_eq_true (Int.natCast_nonneg _)
    rw [h1]
    show (((((b / 2 ^ k : Nat) : Int).toNat &&& (1 : Int).toNat : Nat)) : Int) = _
    rw [Int.toNat_natCast, show (1 : Int).toNat = 1 from rfl, Nat.and_one_is_mod]
  rw [e]
  rcases Nat.mod_two_eq_zero_or_one (b / 2 ^ k) with h | h <;> rw [h] <;> rfl
end Pg
namespace Pg
open PySem PySem.Spec PyProof.Rows L2
def spPos (K : PySem.W.Frag) : Sp := fun vs H Q _ => ∃ (g : Addr) (sg : Sg) (i : Nat) (s : Str × Int), vs = [.ref g, .str s.1] ∧ SgAt K H g sg ∧ sg.length ≤ 60 ∧ sg[i]? = some s ∧ (sg.map Prod.fst).Nodup ∧ ∀ H', Same H H' → Q (.int (i : Nat)) H'
def bitD (mk : Sg) : List (Key × V) := mk.map fun s => (Sum.inr s.1, V.int (bitsN mk [s.1] : Nat))
def isStrD (d : PyData) (x : Str) : Bool := match d with | .str z => decide (z = x) | _ => false
def orN (mk : Sg) (x : Str) (y : Bool) (bd : List Lit) : Nat := bd.foldl (fun acc l => if isStrD l.t x && (l.yes == y) then acc ||| bitsN mk [l.mw] else acc) 0
def spAsk (K : PySem.W.Frag) : Sp := fun vs H Q _ => ∃ (d b : Addr) (x : Str) (mk : Sg) (bd : List Lit), vs = [.ref d, .ref b, .str x] ∧ H d = some (.dK (bitD mk)) ∧ Dp K H (.ref b) (.tuple (bd.map litD)) ∧ bd.length ≤ 1000 ∧ (mk.map Prod.fst).Nodup ∧ (∀ l ∈ bd, l.mw ∈ mk.map Prod.fst ∧ ∃ z, l.t = .str z) ∧
  ∀ p H', H p = none → Same H H' → SqT K H' p [.int (orN mk x true bd : Nat), .int (orN mk x false bd : Nat)] → Q (.ref p) H'
theorem bitD_val {mk : Sg} {s : Str} (h : s ∈ mk.map Prod.fst) : valV (bitD mk) (Sum.inr s) = some (.int (bitsN mk [s] : Nat)) := by
  have key : ∀ (l : Sg), s ∈ l.map Prod.fst → valV (l.map fun s => ((Sum.inr s.1 : Key), V.int (bitsN mk [s.1] : Nat))) (Sum.inr s) = some (.int (bitsN mk [s] : Nat)) := by
    intro l
    induction l with
    | nil => intro h; cases h
    | cons a l ih =>
      intro h
      by_cases e : a.1 = s
      · subst e
        simp [valV]
      · have e2 : (Sum.inr a.1 : Key) ≠ Sum.inr s := fun c => e (Sum.inr.inj c)
        have : s ∈ l.map Prod.fst := by
          rcases List.mem_cons.mp h with h | h
          · exact absurd h.symm e
          · exact h
        rw [← ih this]
        simp [valV, e2, e]
  exact key mk h
end Pg
namespace Pg
open PySem PySem.Spec PyProof.Rows L2
theorem orN_snoc {mk : Sg} {x : Str} {y : Bool} {bd : List Lit} {i : Nat} {l : Lit} (h : bd[i]? = some l) : orN mk x y (bd.take (i + 1)) = if isStrD l.t x && (l.yes == y) then orN mk x y (bd.take i) ||| bitsN mk [l.mw] else orN mk x y (bd.take i) := by
  rw [take_snoc h]
  unfold orN
  rw [List.foldl_append]
  rfl
end Pg
namespace Pg
open PySem PySem.Spec PyProof.Rows L2
def spRsg (K : PySem.W.Frag) : Sp := fun vs H Q _ => ∃ (a n : Addr) (m : Int), vs = [.ref a] ∧ StA H a n m ∧ m < 800000 ∧
  ∀ (p : Addr) (sg : Sg) (H' : Hp), SgAt K H' p sg → GSg sg → GSgB sg → (∃ s ∈ sg, 0 < s.2) → Fr a H H' → StA H' a n (m + 60) → Q (.ref p) H'
def MnOk (mn : List Int) : Prop := 2 ≤ mn.length ∧ mn.length ≤ 4 ∧ (∀ x ∈ mn, 0 ≤ x ∧ x ≤ 2) ∧ mn[0]? = some 0 ∧ ∃ x ∈ mn, 0 < x
def menus : List (List Int) := [[0, 1], [0, 1, 2], [0, 0, 2], [0, 1, 1], [0, 0, 1, 2], [0, 2], [0, 0, 1], [0, 2, 2]]
theorem menus_ok : ∀ mn ∈ menus, MnOk mn := by unfold MnOk menus; decide
end Pg
namespace Pg
open PySem PySem.Spec PyProof.Rows L2
/-- a display of numbers -/
def TaC (ta : TA) (ns : List Int) : Prop := ∀ (σ : L2.St) (H : Hp) (Q : List V → Hp → Prop), Q (ns.map V.int) H → ta σ H Q
theorem TaC.nil : TaC tNil [] := fun _ _ _ q => q
theorem TaC.cons {n : Int} {ta : TA} {ns : List Int} (h : TaC ta ns) : TaC (tCons (tC (.int n)) ta) (n :: ns) := fun σ H Q q => h σ H (fun xs H' => Q (.int n :: xs) H') q
section
variable {K : PySem.W.Frag} {σ : L2.St} {H : Hp}
abbrev MnR (K : PySem.W.Frag) (H : Hp) (vs : List V) (ms : List (List Int)) : Prop := Paired (fun v mn => ∃ p, v = V.ref p ∧ SqT K H p (mn.map V.int)) vs ms
theorem MnR.keep {H H' : Hp} {vs : List V} {ms : List (List Int)} (k : TK K H H') (h : MnR K H vs ms) : MnR K H' vs ms := Paired.imp2 (fun _ _ ⟨p, e, s⟩ => ⟨p, e, k _ _ s⟩) h
def TaM (K : PySem.W.Frag) (ta : TA) (σ : L2.St) (ms : List (List Int)) : Prop := ∀ (H : Hp) (Q : List V → Hp → Prop), (∀ vs H2, Same H H2 → MnR K H2 vs ms → Q vs H2) → ta σ H Q
theorem TaM.nil : TaM K tNil σ [] := fun H Q q => q [] H (Same.refl H) .nil
theorem TaM.cons {ta tb : TA} {ns : List Int} {ms : List (List Int)} (hl : ns.length ≤ 1000) (h : TaC ta ns) (t : TaM K tb σ ms) : TaM K (tCons (tTup ta) tb) σ (ns :: ms) := fun H Q q =>
  h σ H _ ⟨by rw [List.length_map]; exact Nat.le_of_lt (small1000 hl), fun p np => t _ _ fun vs H2 s2 hm => q _ H2 ((Same.new np).trans s2) (.cons ⟨p, rfl, TK.same s2 _ _ (SqT.mk upd_same)⟩ hm)⟩
theorem taM_menus : TaM K
        (
          (tCons (tTup (tCons (tC (V.int 0)) (tCons (tC (V.int 1)) tNil)))
            (tCons (tTup (tCons (tC (V.int 0)) (tCons (tC (V.int 1)) (tCons (tC (V.int 2)) tNil))))
              (tCons (tTup (tCons (tC (V.int 0)) (tCons (tC (V.int 0)) (tCons (tC (V.int 2)) tNil))))
                (tCons (tTup (tCons (tC (V.int 0)) (tCons (tC (V.int 1)) (tCons (tC (V.int 1)) tNil))))
                  (tCons
                    (tTup
                      (tCons (tC (V.int 0)) (tCons (tC (V.int 0)) (tCons (tC (V.int 1)) (tCons (tC (V.int 2)) tNil)))))
                    (tCons (tTup (tCons (tC (V.int 0)) (tCons (tC (V.int 2)) tNil)))
                      (tCons (tTup (tCons (tC (V.int 0)) (tCons (tC (V.int 0)) (tCons (tC (V.int 1)) tNil))))
                        (tCons (tTup (tCons (tC (V.int 0)) (tCons (tC (V.int 2)) (tCons (tC (V.int 2)) tNil))))
                          tNil))))))))) σ menus :=
  have l2 : ∀ {a b : Int}, TaC (tCons (tC (V.int a)) (tCons (tC (V.int b)) tNil)) [a, b] := TaC.cons (TaC.cons TaC.nil)
  have l3 : ∀ {a b c : Int}, TaC (tCons (tC (V.int a)) (tCons (tC (V.int b)) (tCons (tC (V.int c)) tNil))) [a, b, c] := TaC.cons (TaC.cons (TaC.cons TaC.nil))
  have l4 : ∀ {a b c d : Int}, TaC (tCons (tC (V.int a)) (tCons (tC (V.int b)) (tCons (tC (V.int c)) (tCons (tC (V.int d)) tNil)))) [a, b, c, d] := TaC.cons (TaC.cons (TaC.cons (TaC.cons TaC.nil)))
  .cons (by decide) l2 (.cons (by decide) l3 (.cons (by decide) l3 (.cons (by decide) l3 (.cons (by decide) l4 (.cons (by decide) l2 (.cons (by decide) l3 (.cons (by decide) l3 .nil)))))))
end
end Pg
namespace Pg
open PySem PySem.Spec PyProof.Rows L2
/-! ### rules for one tree's top -/
structure DR where
  m : Str
  s : Str
  ns : List Str
  bd : List (Bool × Str × Str)
def DR.lits (r : DR) : List Lit := r.bd.map fun b => ⟨b.1, b.2.1, .str b.2.2⟩
def DR.rul (r : DR) : Rul := ⟨r.m, tps r.s (r.ns.map PyData.str), r.lits⟩
structure DOk (sg mk : Sg) (r : DR) : Prop where
  m : r.m ∈ mk.map (·.1)
  s : (r.s, (r.ns.length : Int)) ∈ sg
  nd : r.ns.Nodup
  nl : ∀ x ∈ r.ns, isW x = true
  bl : r.bd.length ≤ 12
  b : ∀ b ∈ r.bd, b.2.1 ∈ mk.map (·.1) ∧ b.2.2 ∈ r.ns
def spRdn (K : PySem.W.Frag) : Sp := fun vs H Q _ => ∃ (a n g p : Addr) (sg mk : Sg) (m : Int), vs = [.ref a, .ref g, .ref p] ∧ StA H a n m ∧ m < 800000 ∧ SgAt K H g sg ∧ GSg sg ∧ SgAt K H p mk ∧ GMk sg mk ∧
  ∀ (v : V) (r : DR) (H' : Hp), Dp K H' v (rulD r.rul) → DOk sg mk r → Fr a H H' → StA H' a n (m + 60) → Q v H'
def nmenus : List (List Str) := [["x", "v"], ["v", "x"], ["xx", "x"], ["x", "vv"]]
def kmenu : List Int := [0, 1, 1, 2, 2, 3, 12]
end Pg
namespace Pg
open PySem PySem.Spec PyProof.Rows L2
/-! ### a display of lists of texts -/
def TaT (ta : TA) (ns : List Str) : Prop := ∀ (σ : L2.St) (H : Hp) (Q : List V → Hp → Prop), Q (ns.map V.str) H → ta σ H Q
theorem TaT.nil : TaT tNil [] := fun _ _ _ q => q
theorem TaT.cons {n : Str} {ta : TA} {ns : List Str} (h : TaT ta ns) : TaT (tCons (tC (.str n)) ta) (n :: ns) := fun σ H Q q => h σ H (fun xs H' => Q (.str n :: xs) H') q
abbrev NmR (H0 H : Hp) (vs : List V) (ms : List (List Str)) : Prop := Paired (fun v ns => ∃ p, v = V.ref p ∧ H0 p = none ∧ H p = some (.lst (ns.map V.str))) vs ms
def TaN (ta : TA) (σ : L2.St) (ms : List (List Str)) : Prop := ∀ (H : Hp) (Q : List V → Hp → Prop), (∀ vs H2, Same H H2 → NmR H H2 vs ms → Q vs H2) → ta σ H Q
theorem none_back {H : Hp} {p b : Addr} {o : HO} (h : (upd H p o) b = none) : H b = none := by
  by_cases e : b = p
  · subst e; rw [upd_same] at h; cases h
  · rw [upd_ne e] at h; exact h
theorem TaN.nil {σ : L2.St} : TaN tNil σ [] := fun H Q q => q [] H (Same.refl H) .nil
theorem TaN.cons {σ : L2.St} {ta tb : TA} {ns : List Str} {ms : List (List Str)} (hl : ns.length ≤ 1000) (h : TaT ta ns) (t : TaN tb σ ms) : TaN (tCons (tLst ta) tb) σ (ns :: ms) := fun H Q q =>
  h σ H _ ⟨by rw [List.length_map]; exact Nat.le_of_lt (small1000 hl), fun p np => t _ _ fun vs H2 s2 hm => q _ H2 ((Same.new np).trans s2) (.cons ⟨p, rfl, np, s2 _ _ upd_same⟩ (Paired.imp2 (fun _ _ ⟨p, e, z, s⟩ => ⟨p, e, none_back z, s⟩) hm))⟩
theorem TaN.lst {σ : L2.St} {ta : TA} {ms : List (List Str)} {H : Hp} {Q : VK} (h : TaN ta σ ms) (hl : ms.length ≤ 1000) (q : ∀ p vs H', Same H H' → H p = none → H' p = some (.lst vs) → NmR H H' vs ms → Q (.ref p) H') : tLst ta σ H Q :=
  h H _ fun vs H2 s2 hm => ⟨by rw [paired_len hm]; exact Nat.le_of_lt (small1000 hl), fun p np => q p vs _ (s2.trans (Same.new np)) (by
    cases e : H p with
    | none => rfl
    | some o => rw [s2 _ _ e] at np; cases np) upd_same (Paired.imp2 (fun _ _ ⟨b, e, z, s⟩ => ⟨b, e, z, Same.new np _ _ s⟩) hm)⟩
theorem taN_names {σ : L2.St} : TaN
              (
                (tCons (tLst (tCons (tC (V.str (Str.ofString "x"))) (tCons (tC (V.str (Str.ofString "v"))) tNil)))
                  (tCons (tLst (tCons (tC (V.str (Str.ofString "v"))) (tCons (tC (V.str (Str.ofString "x"))) tNil)))
                    (tCons (tLst (tCons (tC (V.str (Str.ofString "xx"))) (tCons (tC (V.str (Str.ofString "x"))) tNil)))
                      (tCons
                        (tLst (tCons (tC (V.str (Str.ofString "x"))) (tCons (tC (V.str (Str.ofString "vv"))) tNil)))
                        tNil))))) σ nmenus :=
  have l2 : ∀ {a b : Str}, TaT (tCons (tC (V.str a)) (tCons (tC (V.str b)) tNil)) [a, b] := TaT.cons (TaT.cons TaT.nil)
  .cons (by decide) l2 (.cons (by decide) l2 (.cons (by decide) l2 (.cons (by decide) l2 .nil)))
theorem nmenus_ok : ∀ ns ∈ nmenus, ns.length = 2 ∧ ns.Nodup ∧ ∀ x ∈ ns, isW x = true := by unfold nmenus; decide +kernel
end Pg
namespace Pg
open PySem PySem.Spec PyProof.Rows L2
theorem sl_lst {r : V → Option Int → Option Int → Hp → VK → Prop} {r2 : R2} {te : TE} {ta : TA} {tl tu} {σ : L2.St} {H : Hp} {Q : VK} (h : tLst ta σ H fun x H1 => te σ H1 fun y H2 => r2 x y H2 fun z H3 => tl σ H3 fun l H4 => tu σ H4 fun u H5 => r z l u H5 Q) : tSl r (tOp r2 (tLst ta) te) tl tu σ H Q := h
end Pg

set_option Elab.async false
set_option linter.all false
set_option maxRecDepth 100000
set_option maxHeartbeats 4000000
namespace Pg
open PySem PySem.Spec PyProof.Rows L2
/-! ### zip of a tuple and a list -/
def ItzM (K : PySem.W.Frag) (a b : Addr) : It :=
  ⟨fun i H => ∃ (xs ys : List V) (x y : V), SqT K H a xs ∧ SqL K H b ys ∧ xs[i]? = some x ∧ ys[i]? = some y,
    fun i H v H' => ∃ T x y, v = .ref T ∧ H T = none ∧ H' = upd H T (.tup [x, y]) ∧ (∀ xs, SqT K H a xs → xs[i]? = some x) ∧ ∀ ys, SqL K H b ys → ys[i]? = some y,
    fun i H => ∃ xs ys : List V, SqT K H a xs ∧ SqL K H b ys ∧ i = min xs.length ys.length⟩
/-- where the zip, its iterators and its pairs stand -/
def ZmAt (z TI TO i1 i2 a b : Addr) (i : Nat) (h : Heap) : Prop := IsZip h z TI TO .none ∧ IsTupOf2 h TI (.ref i1) (.ref i2) ∧ (∃ x y, IsTupOf2 h TO x y) ∧ h.IsTupleIter i1 a i ∧ h.IsListIter i2 b i
theorem zm_sep {z TI TO i1 i2 a b : Addr} (D : ZipApart z TI TO i1 i2 a b) : ZipSep2 z TI TO i1 i2 [i1, a] [i2, b] where
  TIz := D.TIz
  TOz := D.TOz
  TITO := D.TITO
  TIi1 := D.TIi1
  mem1 := by simp
  zf1 := by simp [D.i1z.symm, D.l1z.symm]
  Tf1 := by simp [D.TOi1, D.l1TO.symm]
  TIi2 := D.TIi2
  mem2 := by simp
  zf2 := by simp [D.i2z.symm, D.l2z.symm]
  Tf2 := by simp [D.TOi2, D.l2TO.symm]
  sep1_2 := by simp [D.i12, D.l2i1.symm]
  sep2_1 := by simp [D.i12.symm, D.l1i2.symm]
theorem turn_zipM {P : Program} {w : World} {K : PySem.W.Frag} {elts : List Expr} {kk : Nat} {tpos : Pos} {a b z TI TO i1 i2 : Addr} (D : ZipApart z TI TO i1 i2 a b) :
    Turn P w K (.Tuple elts kk tpos) (ItzM K a b) [z, TI, TO, i1, i2] z (ZmAt z TI TO i1 i2 a b) where
  mem := by simp
  obj := fun i h ⟨hz, hTI, ⟨x, y, hTO⟩, ⟨o1, e1, _, d1⟩, ⟨o2, e2, _, d2⟩⟩ c hc => by
    simp only [List.mem_cons, List.not_mem_nil, or_false] at hc
    rcases hc with rfl | rfl | rfl | rfl | rfl
    · exact ⟨_, hz, fun v q => nomatch q⟩
    · exact ⟨_, hTI, fun v q => nomatch q⟩
    · exact ⟨_, hTO, fun v q => nomatch q⟩
    · exact ⟨o1, e1, fun v q => by rw [d1] at q; cases q⟩
    · exact ⟨o2, e2, fun v q => by rw [d2] at q; cases q⟩
  keep := fun i h h' ⟨hz, hTI, ⟨x, y, hTO⟩, h1, h2⟩ k =>
    ⟨k z (by simp) _ hz, k TI (by simp) _ hTI, ⟨x, y, k TO (by simp) _ hTO⟩, h1.at fun o q => k i1 (by simp) o q, h2.at fun o q => k i2 (by simp) o q⟩
  item := by
    rintro X rfl rfl rfl hc i pins s σ H E I hf ⟨hz, hTI, ⟨x0, y0, hTO⟩, h1, h2⟩ ⟨xs, ys, x, y, hqx, hqy, hx, hy⟩
    obtain ⟨its, rv, p, _⟩ := I.tuple hqx
    obtain ⟨its2, rv2, p2, _⟩ := I.list hqy
    obtain ⟨u, hu, ru⟩ := rv.get hx
    obtain ⟨u2, hu2, ru2⟩ := rv2.get hy
    have hd : X.A.in1.handled = none := I.ok.hd hc
    refine wpAny_pyNext_zipD2_item (zm_sep D) (Draws.tuple hd i1 a D.l1i1 its.toArray) (Draws.list hd i2 b D.l2i2 its2.toArray) hz hTI hTO ⟨h1, p⟩ ⟨h2, p2.isList⟩ (by simpa using (List.getElem?_eq_some_iff.mp hu).1) (by simpa using (List.getElem?_eq_some_iff.mp hu2).1) fun x1 x2 h' tk e1 e2 z' TO' st1 st2 hT hsz hk => ?_
    obtain rfl : u = x1 := by
      have := hu.symm.trans (by simpa using e1)
      exact Option.some.inj this
    obtain rfl : u2 = x2 := by
      have := hu2.symm.trans (by simpa using e2)
      exact Option.some.inj this
    have hzl : z < s.heap.objs.size := Heap.lt_size hz
    refine ⟨_, rfl, wpAny_letOwnedTupleGo_zip (s := { s with heap := h', toks := tk }) z' fun h'' z'' sb => ?_⟩
    have hT2 : h''.get? s.heap.objs.size = some { cls := .type "tuple", data := .seq #[u, u2] } := (sb.2 _ (Nat.ne_of_gt hzl)).trans hT
    have new : ObjOk X.prog X.w (upd H s.heap.objs.size (.tup [x, y])) h'' s.heap.objs.size (.tup [x, y]) :=
      ⟨by show 2 ≤ sizeLine; decide, [u, u2], .cons ru (.cons ru2 .nil), ⟨_, hT2, rfl, _, rfl⟩⟩
    have I1 : Inv X pins σ (upd H s.heap.objs.size (.tup [x, y])) { s with heap := h'', toks := tk } :=
      I.turnedNew (ch := [z, TI, TO, i1, i2]) (fun c o hb q => (sb.2 c (fun q' => hb (by simp [q']))).trans (hk c o (fun q' => hb (by simp [q'])) (fun q' => hb (by simp [q'])) (fun q' => hb (by simp [q'])) (fun q' => hb (by simp [q'])) q)) hf (Nat.le_refl _) new
    refine ⟨.ref s.heap.objs.size, _, I1, rfl, ⟨_, x, y, rfl, I.hok.fresh (Nat.le_refl _), rfl, fun l hl => by rw [I.tuple_inj hl hqx]; exact hx, fun l hl => by rw [I.list_inj hl hqy]; exact hy⟩, ⟨z'', ?_, ⟨u, u2, ?_⟩, ?_, ?_⟩, fun c hcm => ?_⟩
    · exact (sb.2 _ D.TIz).trans (hk _ _ D.TIz D.TITO D.TIi1 D.TIi2 hTI)
    · exact (sb.2 _ D.TOz).trans TO'
    · exact st1.1.at fun o q => (sb.2 _ D.i1z).trans q
    · exact st2.1.at fun o q => (sb.2 _ D.i2z).trans q
    · have hlt : c < s.heap.objs.size := by
        simp only [List.mem_cons, List.not_mem_nil, or_false] at hcm
        rcases hcm with rfl | rfl | rfl | rfl | rfl
        · exact hzl
        · exact Heap.lt_size hTI
        · exact Heap.lt_size hTO
        · obtain ⟨_, e1, _⟩ := h1; exact Heap.lt_size e1
        · obtain ⟨_, e2, _⟩ := h2; exact Heap.lt_size e2
      rw [upd_ne (Nat.ne_of_lt hlt)]
      exact (hf c hcm).1
  done := by
    rintro X rfl rfl rfl hc i pins s σ H E I hf ⟨hz, hTI, ⟨x0, y0, hTO⟩, h1, h2⟩ ⟨xs, ys, hqx, hqy, hend⟩
    obtain ⟨its, rv, p, _⟩ := I.tuple hqx
    obtain ⟨its2, rv2, p2, _⟩ := I.list hqy
    have hd : X.A.in1.handled = none := I.ok.hd hc
    have l1 := rv.length
    have l2 := rv2.length
    refine wpAny_pyNext_zipD2_end (i := i) (zm_sep D) (Draws.tuple hd i1 a D.l1i1 its.toArray) (Draws.list hd i2 b D.l2i2 its2.toArray) hz hTI hTO ⟨h1, p⟩ ⟨h2, p2.isList⟩ (by simp; omega) (by simp; omega) (by simp; omega) fun h' tk hk => ⟨rfl, I.turnedL (t' := tk) (ch := [z, TI, TO, i1, i2]) (fun c o hb q =>
      hk c o (fun q' => hb (by simp [q'])) (fun q' => hb (by simp [q'])) (fun q' => hb (by simp [q'])) (fun q' => hb (by simp [q'])) q) hf⟩
  self := fun A i s Q E st h => wpAny_pyIter_zip st.1 h
def iZipM (K : PySem.W.Frag) (ta : TA) : TI := fun σ H R => ta σ H fun vs H1 => ∃ a b xs ys, vs = [.ref a, .ref b] ∧ SqT K H1 a xs ∧ SqL K H1 b ys ∧ R (ItzM K a b) H1
theorem pi_zipM {X : Cx} {e e2 : Expr} {ta : TA} {p pos tpos : Pos} {elts : List Expr} {kk : Nat} (hg : Gl X "zip") (hm : X.mg "zip" = none) (ha : PA X [e, e2] ta)
    (hs : starEach [e, e2] X.env = (false, eval e X.env) :: starEach [e2] X.env := by rfl) (hpl : (backTo pos (starEach [e2] X.env)).any (·.1) = false := by rfl) :
    PI X (.Tuple elts kk tpos) (.Call (.Name "zip" p) [e, e2] [] pos) (iZipM X.K ta) := by
  refine ⟨fun pins s σ H R I h => ?_⟩
  refine Call_ (ld_blt I hg hm PyProof.Rows.boot_zip (PyProof.Rows.callWith_type1 (thn (ha.run pos pins s σ H _ I h) fun us s1 ⟨vs, H1, I1, r1, q1⟩ => ?_) hs hpl))
  obtain ⟨a, b, xs, ys, rfl, hqx, hqy, q⟩ := q1
  cases r1 with
  | cons r rr =>
  cases rr with
  | cons r' rr =>
  cases rr
  cases r
  cases r'
  have fresh5 : ∀ c, c ∈ [s1.heap.objs.size + 4, s1.heap.objs.size + 2, s1.heap.objs.size + 3, s1.heap.objs.size, s1.heap.objs.size + 1] → FpOk X pins H1 c := fun c hcm => by
    simp only [List.mem_cons, List.not_mem_nil, or_false] at hcm
    have hle : s1.heap.objs.size ≤ c := by
      rcases hcm with z | z | z | z | z <;> rw [z]
      · exact Nat.le_add_right _ _
      · exact Nat.le_add_right _ _
      · exact Nat.le_add_right _ _
      · exact Nat.le_refl _
      · exact Nat.le_add_right _ _
    exact I1.fpOk hle (I1.hok.fresh hle)
  obtain ⟨its, rv, p1, _⟩ := I1.tuple hqx
  obtain ⟨its2, rv2, p2, _⟩ := I1.list hqy
  obtain ⟨o1, ho1, _⟩ := id p1
  have lb : b < s1.heap.objs.size := p2.lt
  refine zip_begins2 (begins_tuple a its.toArray) (begins_list b its2.toArray) (show s1.heap.IsTuple a its.toArray from p1) p2.isList fun h' hz hTI hTO h1 h2 hsz hk => wpAny_pyIter_zip hz ?_
  have I2 : Inv X pins σ H1 { s1 with heap := h' } := I1.kept (t' := s1.toks) hk
  exact ⟨s1.heap.objs.size + 4, [s1.heap.objs.size + 4, s1.heap.objs.size + 2, s1.heap.objs.size + 3, s1.heap.objs.size, s1.heap.objs.size + 1], _, _, H1, rfl, I2, turn_zipM (PySem.W.ktu_apart s1.heap.objs.size a b (Heap.lt_size ho1) lb), ⟨hz, hTI, ⟨_, _, hTO⟩, ⟨_, h1, rfl, rfl⟩, ⟨_, h2, rfl, rfl⟩⟩, fresh5, q⟩
theorem walk_zipM {K : PySem.W.Frag} {a b : Addr} {xs ys : List V} {n : Nat} (hn : n = min xs.length ys.length) : Walk (ItzM K a b) n (fun H => SqT K H a xs ∧ SqL K H b ys) (YPair (fun i => xs[i]?) (fun i => ys[i]?)) := by
  subst hn
  refine ⟨fun i _ hi q => ?_, fun _ q => ⟨xs, ys, q.1, q.2, rfl⟩, fun i H v H' _ q y => ?_⟩
  · have h1 : i < xs.length := by omega
    have h2 : i < ys.length := by omega
    exact ⟨xs, ys, xs[i], ys[i], q.1, q.2, by simp [h1], by simp [h2]⟩
  · obtain ⟨T, x, z, h1, h2, h3, h4, h5⟩ := y
    exact ⟨T, x, z, h1, h2, h3, h4 xs q.1, h5 ys q.2⟩
end Pg

set_option Elab.async false
set_option linter.all false
set_option maxRecDepth 100000
set_option maxHeartbeats 4000000
namespace Pg
open PySem PySem.Spec PyProof.Rows L2
theorem andNat (a b : Nat) : Builtin.bitAnd (a : Int) (b : Int) = ((a &&& b : Nat) : Int) := by
  unfold Builtin.bitAnd
  have h1 : decide (0 ≤ (a : Int)) = true := decide_eq_true (Int.natCast_nonneg _)
  have h2 : decide (0 ≤ (b : Int)) = true := decide_eq_true (Int.natCast_nonneg _)
  rw [h1, h2]
  rfl
/-! ### what a rule asks of the parts: what is needed, what is barred -/
abbrev Ask := List (Nat × Nat)
def okZ (z : Nat × (Nat × Nat)) : Bool := decide (z.1 &&& z.2.1 = z.2.1) && decide (z.1 &&& z.2.2 = 0)
def aaaB (ps : List Nat) (as : Ask) : Bool := (ps.zip as).all okZ
abbrev nsV (ps : List Nat) : List V := ps.map fun k => V.int (k : Nat)
structure AskAt (K : PySem.W.Frag) (H : Hp) (l : Addr) (as : Ask) : Prop where
  ex : ∃ rs : List Addr, H l = some (.lst (rs.map V.ref)) ∧ Paired (fun r (a : Nat × Nat) => SqT K H r [.int (a.1 : Nat), .int (a.2 : Nat)]) rs as
def spAaa (K : PySem.W.Frag) : Sp := fun vs H Q _ => ∃ (p l : Addr) (ps : List Nat) (as : Ask), vs = [.ref p, .ref l] ∧ SqT K H p (nsV ps) ∧ AskAt K H l as ∧ ∀ H', Same H H' → Q (.bl (aaaB ps as)) H'
end Pg

set_option Elab.async false
set_option linter.all false
set_option maxRecDepth 100000
set_option maxHeartbeats 4000000
namespace Pg
open PySem PySem.Spec PyProof.Rows L2 LamX NdefX
/-! ### lambdas that change what they hold: all is kept but one object -/
/-- v may be called with this promise, by any state behind s that keeps what is opaque -/
def CalE (P : Program) (w : World) (K : PySem.W.Frag) (mg : Str → Option Value) (base : Heap) (k : Nat) (sp : Sp) (s : Shared) (H : Hp) (v : V) : Prop :=
  Calb P w K mg base k sp H v ∨
  ∃ (f : Addr) (F : NF) (body : Expr) (fr : List Str) (ws : List (Option V)) (sp' : List (Option V) → Sp), v = .ref f ∧ LamNOk P w K mg base k F body fr sp' ∧ H f = some (LamOC f F body) ∧ H F.c = some (CodeO F.c F.qual) ∧ CellsAt F.cl fr ws s.heap H ∧ ∀ vs H1 Q E, ExtK H H1 → sp vs H1 Q E → sp' ws vs H1 Q E
section
variable {X : Cx} {k j i : Nat} {x : Str} {sp : Sp} {p pos : Pos} {e : Expr} {es : List Expr} {t : TA}
def tCallVE (X : Cx) (k i : Nat) (sp : Sp) (t : TA) : TE := fun σ H Q => ∃ v, σ[i]? = some (some v) ∧ CalE X.prog X.w X.K X.mg X.base k sp X.s_0 X.H_0 v ∧ ExtK X.H_0 H ∧ t σ H fun vs H1 => ExtK X.H_0 H1 ∧ sp vs H1 Q E0
theorem pe_callVE (hr : Room j X.A) (hk : k ≤ j) (hex : X.ex = []) (hN : X.N[i]? = some x) (hv : Vis X.env.scope x) (ha : PA X (e :: es) t)
    (hdb : (x == ("__debug__" : Str)) = false := by decide) (hcd : (x == ("__classdict__" : Str)) = false := by decide)
    (he : starEach (e :: es) X.env = (false, eval e X.env) :: starEach es X.env := by rfl) (hpl : (backTo pos (starEach es X.env)).any (·.1) = false := by rfl) :
    PE X (.Call (.Name x p) (e :: es) [] pos) (tCallVE X k i sp t) := by
  refine ⟨fun pins s σ H Q I h => ?_⟩
  obtain ⟨v, hs, hc, hx0, ht⟩ := h
  refine wpAny_Call_Name_kw (thn ((pe_var (pos := p) hN hv hdb hcd).run pins s σ H (fun y Hy => y = v ∧ Hy = H) I ⟨v, hs, rfl, rfl⟩) fun u s1 ⟨y, Hy, I1, ry, ey, eH⟩ => ?_)
  rw [ey] at ry
  rw [eH] at I1
  have un : ∀ {s' : Shared} {H' : Hp}, Inv X pins σ H' s' → Un X.fs [] X.H_0 H' X.s_0.heap s'.heap := fun J => by
    have b := J.base
    rw [hex] at b
    exact b
  rcases hc with (⟨f, fd, ps, rfl, F, hkp, hbd⟩ | ⟨f, c', q, pa, bo, sc, rfl, L, hf, hcode⟩) | ⟨f, F, bo, fr, ws, sp', rfl, L, hf, hcode, hcl, himp⟩
  · obtain rfl : u = Value.ref f := ry
    refine PySem.W.callWith_K (h₀ := X.base) I.ok.mod.kin hkp (thn (ha.run pos pins s1 σ H _ I1 ht) fun us s2 ⟨vs, H2, I2, r, z⟩ => ⟨I2.kIn, ?_⟩) he hpl
    exact run_fn F (hr.mono hk) hbd .nil pass0 I2 r (by rw [List.append_nil]; exact z.2)
  · obtain rfl : u = Value.ref f := ry
    have here : ∀ {s' : Shared} {H' : Hp}, Inv X pins σ H' s' → H' f = some (LamO f q pa bo sc c') → PySem.W.FnAt f s'.heap := fun J hf' => by
      obtain ⟨⟨pm, ctv, ho⟩, _, _⟩ := J.hok f _ hf'
      exact ⟨_, _, _, _, ho⟩
    refine PySem.W.callWith_F (first := []) (here I1 (hx0 f _ hf)) (thn (ha.run pos pins s1 σ H _ I1 ht) fun us s2 ⟨vs, H2, I2, r, z1, z2⟩ => ⟨here I2 (z1 f _ hf), ?_⟩) he hpl
    show wpAny _ _ (call (.ref f) us) _ _ _
    refine wpAny_call (codeAny_mono (L.run f c' X.A X.stack s2 H2 us vs Q (hr.mono hk) I2.env0 (z1 f _ hf) (z1 c' _ hcode) r z2) fun r s' hq => ?_)
    cases r with
    | error e => exact (show False from hq).elim
    | ok fl =>
      cases fl with
      | ret u => exact I2.after hq
      | next => exact False.elim hq
      | brk => exact False.elim hq
      | cont => exact False.elim hq
  · obtain rfl : u = Value.ref f := ry
    have here : ∀ {s' : Shared} {H' : Hp}, Inv X pins σ H' s' → H' f = some (LamOC f F bo) → PySem.W.FnAt f s'.heap := fun J hf' => by
      obtain ⟨⟨pm, ctv, ho⟩, _, _⟩ := J.hok f _ hf'
      exact ⟨_, _, _, _, ho⟩
    refine PySem.W.callWith_F (first := []) (here I1 (hx0 f _ hf)) (thn (ha.run pos pins s1 σ H _ I1 ht) fun us s2 ⟨vs, H2, I2, r, z1, z2⟩ => ⟨here I2 (z1 f _ hf), ?_⟩) he hpl
    show wpAny _ _ (call (.ref f) us) _ _ _
    refine wpAny_call (codeAny_mono (L.run f X.A X.stack s2 H2 us vs ws Q (hr.mono hk) I2.env0 (z1 f _ hf) (z1 F.c _ hcode) (cells_un hcl (un I2)) r (himp _ _ _ _ z1 z2)) fun r s' hq => ?_)
    cases r with
    | error e => exact (show False from hq).elim
    | ok fl =>
      cases fl with
      | ret u => exact I2.after hq
      | next => exact False.elim hq
      | brk => exact False.elim hq
      | cont => exact False.elim hq
end
/-- a lambda just made may be called -/
theorem calE_lam {X : Cx} {pins : List (Addr × Obj)} {σ : L2.St} {H : Hp} {s : Shared} {k : Nat} {f c' : Addr} {params : Arguments} {body : Expr} {scope : Scope} {fr : List Str} {js : List Nat} {sp : Sp} {sp' : List (Option V) → Sp} (I : Inv X pins σ H s)
    (hk : ∀ y ∈ scope.names, y.2 = .free → X.env.scope.names.lookup y.1 = some .cell ∨ X.env.scope.names.lookup y.1 = some .free) (hfr : ∀ y ∈ fr, (y, NameKind.free) ∈ scope.names) (hjs : js.map (fun j => X.N[j]?) = fr.map some)
    (L : LamNOk X.prog X.w X.K X.mg X.base k (lamF X params scope c') body fr sp') (hf : H f = some (LamOC f (lamF X params scope c') body)) (hc : H c' = some (CodeO c' (X.env.qual ++ "<lambda>"))) (imp : ∀ vs H1 Q E, ExtK H H1 → sp vs H1 Q E → sp' (js.map (slotAt σ)) vs H1 Q E) :
    CalE X.prog X.w X.K X.mg X.base k sp s H (.ref f) :=
  .inr ⟨f, _, body, fr, js.map (slotAt σ), sp', rfl, L, hf, hc, cells_of I (Caps.made I.ok hk hfr hjs), imp⟩
/-! fold with such lambdas: M tells of the object at D, He is the heap where the fold began -/
def spOnE (D : Addr) (M : Option HO → Prop) (He : Hp) (Ok : Tr → Prop) (R : Hp → Tr → V → Prop) : Sp := fun vs H Q _ => ∃ x : Str, vs = [.str x] ∧ Ok (.nm x) ∧ ButP D He H ∧ M (H D) ∧ ∀ r H', ButP D H H' → M (H' D) → R H' (.nm x) r → Q r H'
def spOsE (D : Addr) (M : Option HO → Prop) (He : Hp) (Ok : Tr → Prop) (R : Hp → Tr → V → Prop) : Sp := fun vs H Q _ => ∃ (t : Tr) (p : Addr) (rs : List V), vs = [.str t.sym, .ref p] ∧ (∀ x, t ≠ .nm x) ∧ Ok t ∧ H p = some (.lst rs) ∧ Paired (fun r k => R H k r) rs t.kids ∧ ButP D He H ∧ M (H D) ∧ ∀ r H', ButP D H H' → M (H' D) → R H' t r → Q r H'
def spFoldE (P : Program) (w : World) (K : PySem.W.Frag) (mg : Str → Option Value) (base : Heap) (k : Nat) (M : Option HO → Prop) (Ok : Tr → Prop) (R : Hp → Tr → V → Prop) : Shared → Sp := fun s vs H Q _ => ∃ (D : Addr) (v fn fs : V) (t : Tr), vs = [v, fn, fs] ∧ TrAt K H t v ∧ t.size ≤ 100000 ∧ (∀ k ∈ pre t, Ok k) ∧ M (H D) ∧ CalE P w K mg base k (spOnE D M H Ok R) s H fn ∧ CalE P w K mg base k (spOsE D M H Ok R) s H fs ∧
  ∀ r H', ButP D H H' → M (H' D) → R H' t r → Q r H'
end Pg
namespace Pg
open PySem PySem.Spec PyProof.Rows L2 LamX
/-! all is kept but two objects -/
def FrD (d D : Addr) (H H' : Hp) : Prop := ∀ b o, b ≠ d → b ≠ D → H b = some o → H' b = some o
/-- no tuple, nothing opaque -/
def NoT (x : Option HO) : Prop := ∃ o, x = some o ∧ (∀ xs, o ≠ .tup xs) ∧ (∀ ob xs, o ≠ .frz ob (.tup xs)) ∧ ∀ φ, o ≠ .ext φ
section
variable {d D p : Addr} {H H1 H2 : Hp} {o : HO} {K : PySem.W.Frag}
theorem FrD.refl : FrD d D H H := fun _ _ _ _ h => h
theorem FrD.trans (a : FrD d D H H1) (b : FrD d D H1 H2) : FrD d D H H2 := fun c u n1 n2 h => b c u n1 n2 (a c u n1 n2 h)
theorem FrD.of (s : Same H H1) : FrD d D H H1 := fun c u _ _ h => s c u h
theorem FrD.but (s : ButP D H H1) : FrD d D H H1 := fun c u _ n h => s c u n h
theorem FrD.own : FrD d D H (upd H d o) := fun c u n _ h => by rw [upd_ne n]; exact h
theorem FrD.mut (a : FrD d D H H1) (h : H p = none) : FrD d D H (upd H1 p o) := fun c u n1 n2 e => by rw [upd_ne (ne_of_none e h)]; exact a c u n1 n2 e
theorem FrD.tk {xs : List V} (a : FrD d D H H1) (h1 : H d = some (.lst xs)) (h2 : NoT (H D)) : TK K H H1 := by
  obtain ⟨oD, e, n1, n2, _⟩ := h2
  rintro q ys ((h | ⟨ob, h⟩) | h)
  · exact .inl (.inl (a _ _ (ne_of h h1 (by intro z; cases z)) (ne_of h e (fun z => n1 _ z.symm)) h))
  · exact .inl (.inr ⟨ob, a _ _ (ne_of h h1 (by intro z; cases z)) (ne_of h e (fun z => n2 _ _ z.symm)) h⟩)
  · exact .inr h
theorem but_tk (a : ButP D H H1) (h2 : NoT (H D)) : TK K H H1 := by
  obtain ⟨oD, e, n1, n2, _⟩ := h2
  rintro q ys ((h | ⟨ob, h⟩) | h)
  · exact .inl (.inl (a _ _ (ne_of h e (fun z => n1 _ z.symm)) h))
  · exact .inl (.inr ⟨ob, a _ _ (ne_of h e (fun z => n2 _ _ z.symm)) h⟩)
  · exact .inr h
theorem but_ext (a : ButP D H H1) (h2 : NoT (H D)) : ExtK H H1 := by
  obtain ⟨oD, e, _, _, n3⟩ := h2
  intro b φ h
  exact a _ _ (ne_of h e (fun z => n3 _ z.symm)) h
theorem but_of (s : Same H H1) : ButP D H H1 := fun c u _ h => s c u h
end
end Pg

set_option Elab.async false
set_option linter.all false
set_option maxRecDepth 100000
set_option maxHeartbeats 4000000
namespace Pg
open PySem PySem.Spec PyProof.Rows L2
/-! ### rules that look down, as a world -/
abbrev DEnt := Nat × Ask
/-- the marks that rules give over parts with these marks -/
def ovS (ps : List Nat) (v : Nat) (e : DEnt) : Nat := if v &&& e.1 = 0 ∧ aaaB ps e.2 = true then v ||| e.1 else v
def ovN (rs : List DEnt) (ps : List Nat) : Nat := rs.foldl (ovS ps) 0
theorem ovN_snoc {rs : List DEnt} {ps : List Nat} {i : Nat} {e : DEnt} (h : rs[i]? = some e) : ovN (rs.take (i + 1)) ps = ovS ps (ovN (rs.take i) ps) e := by
  rw [take_snoc h]
  unfold ovN
  rw [List.foldl_append]
  rfl
theorem ovN_lt {n : Nat} {ps : List Nat} : ∀ {rs : List DEnt}, (∀ e ∈ rs, e.1 < 2 ^ n) → ovN rs ps < 2 ^ n := by
  have go : ∀ (rs : List DEnt) (v : Nat), v < 2 ^ n → (∀ e ∈ rs, e.1 < 2 ^ n) → rs.foldl (ovS ps) v < 2 ^ n := by
    intro rs
    induction rs with
    | nil => intro v h _; exact h
    | cons e rs ih =>
      intro v h hr
      refine ih _ ?_ fun x hx => hr x (List.mem_cons_of_mem _ hx)
      unfold ovS
      split
      · exact Nat.or_lt_two_pow h (hr e (List.mem_cons_self ..))
      · exact h
  intro rs h
  exact go rs 0 (Nat.two_pow_pos n) h
/-- an entry: the bit of its mark, what is asked of each part -/
def EntAt (K : PySem.W.Frag) (H : Hp) (v : V) (e : DEnt) : Prop := ∃ t l, v = .ref t ∧ SqT K H t [.int (e.1 : Nat), .ref l] ∧ AskAt K H l e.2
/-- the rules for one sign -/
def RlsAt (K : PySem.W.Frag) (H : Hp) (l : Addr) (rs : List DEnt) : Prop := ∃ vs, H l = some (.lst vs) ∧ Paired (EntAt K H) vs rs
/-- those for each sign -/
structure RssAt (K : PySem.W.Frag) (H : Hp) (rl : Addr) (rss : List (List DEnt)) : Prop where
  ex : ∃ ls : List Addr, H rl = some (.lst (ls.map V.ref)) ∧ Paired (RlsAt K H) ls rss
/-- keys: a sign's place and the bits of the parts -/
def keyOf (i : Nat) (ps : List Nat) : List Key := Sum.inl (i : Int) :: ps.map fun k : Nat => Sum.inl ((k : Nat) : Int)
def KeyOk (n : Nat) (k : List Key) : Prop := ∃ i ps, k = keyOf i ps ∧ i < n ∧ ps.length ≤ 2 ∧ ∀ p ∈ ps, p < 64
def codeK : List Key → Nat
  | [.inl i] => i.toNat * 3 * 4096
  | [.inl i, .inl a] => (i.toNat * 3 + 1) * 4096 + a.toNat
  | [.inl i, .inl a, .inl b] => (i.toNat * 3 + 2) * 4096 + a.toNat * 64 + b.toNat
  | _ => 0
theorem keyOf_inj {i j : Nat} {ps qs : List Nat} (h : keyOf i ps = keyOf j qs) : i = j ∧ ps = qs := by
  unfold keyOf at h
  obtain ⟨h1, h2⟩ := List.cons.inj h
  have e := Sum.inl.inj h1
  refine ⟨by omega, ?_⟩
  have : ∀ (ps qs : List Nat), ps.map (fun k : Nat => (Sum.inl ((k : Nat) : Int) : Key)) = qs.map (fun k : Nat => (Sum.inl ((k : Nat) : Int) : Key)) → ps = qs := by
    intro ps
    induction ps with
    | nil =>
      intro qs h
      cases qs with
      | nil => rfl
      | cons q qs => cases h
    | cons p ps ih =>
      intro qs h
      cases qs with
      | nil => cases h
      | cons q qs =>
        obtain ⟨a, b⟩ := List.cons.inj h
        have := Sum.inl.inj a
        rw [ih qs b, show p = q by omega]
  exact this ps qs h2
theorem code_lt {n : Nat} {k : List Key} (h : KeyOk n k) : codeK k < n * 3 * 4096 := by
  obtain ⟨i, ps, rfl, hi, hl, hp⟩ := h
  match ps, hl, hp with
  | [], _, _ => show ((i : Nat) : Int).toNat * 3 * 4096 < _; omega
  | [a], _, hp => have := hp a (by simp); show (((i : Nat) : Int).toNat * 3 + 1) * 4096 + ((a : Nat) : Int).toNat < _; omega
  | [a, b], _, hp => have := hp a (by simp); have := hp b (by simp); show (((i : Nat) : Int).toNat * 3 + 2) * 4096 + ((a : Nat) : Int).toNat * 64 + ((b : Nat) : Int).toNat < _; omega
theorem code_inj {n : Nat} {k k' : List Key} (h : KeyOk n k) (h' : KeyOk n k') (e : codeK k = codeK k') : k = k' := by
  obtain ⟨i, ps, rfl, hi, hl, hp⟩ := h
  obtain ⟨j, qs, rfl, hj, hl', hq⟩ := h'
  match ps, hl, hp, qs, hl', hq with
  | [], _, _, [], _, _ => replace e : ((i : Nat) : Int).toNat * 3 * 4096 = ((j : Nat) : Int).toNat * 3 * 4096 := e; rw [show i = j by omega]
  | [], _, _, [a], _, hq => have := hq a (by simp); replace e : ((i : Nat) : Int).toNat * 3 * 4096 = (((j : Nat) : Int).toNat * 3 + 1) * 4096 + ((a : Nat) : Int).toNat := e; omega
  | [], _, _, [a, b], _, hq => have := hq a (by simp); have := hq b (by simp); replace e : ((i : Nat) : Int).toNat * 3 * 4096 = (((j : Nat) : Int).toNat * 3 + 2) * 4096 + ((a : Nat) : Int).toNat * 64 + ((b : Nat) : Int).toNat := e; omega
  | [a], _, hp, [], _, _ => have := hp a (by simp); replace e : (((i : Nat) : Int).toNat * 3 + 1) * 4096 + ((a : Nat) : Int).toNat = ((j : Nat) : Int).toNat * 3 * 4096 := e; omega
  | [a], _, hp, [b], _, hq => have := hp a (by simp); have := hq b (by simp); replace e : (((i : Nat) : Int).toNat * 3 + 1) * 4096 + ((a : Nat) : Int).toNat = (((j : Nat) : Int).toNat * 3 + 1) * 4096 + ((b : Nat) : Int).toNat := e; rw [show i = j by omega, show a = b by omega]
  | [a], _, hp, [c, d], _, hq => have := hp a (by simp); have := hq c (by simp); have := hq d (by simp); replace e : (((i : Nat) : Int).toNat * 3 + 1) * 4096 + ((a : Nat) : Int).toNat = (((j : Nat) : Int).toNat * 3 + 2) * 4096 + ((c : Nat) : Int).toNat * 64 + ((d : Nat) : Int).toNat := e; omega
  | [a, b], _, hp, [], _, _ => have := hp a (by simp); have := hp b (by simp); replace e : (((i : Nat) : Int).toNat * 3 + 2) * 4096 + ((a : Nat) : Int).toNat * 64 + ((b : Nat) : Int).toNat = ((j : Nat) : Int).toNat * 3 * 4096 := e; omega
  | [a, b], _, hp, [c], _, hq => have := hp a (by simp); have := hp b (by simp); have := hq c (by simp); replace e : (((i : Nat) : Int).toNat * 3 + 2) * 4096 + ((a : Nat) : Int).toNat * 64 + ((b : Nat) : Int).toNat = (((j : Nat) : Int).toNat * 3 + 1) * 4096 + ((c : Nat) : Int).toNat := e; omega
  | [a, b], _, hp, [c, d], _, hq =>
    have := hp a (by simp)
    have := hp b (by simp)
    have := hq c (by simp)
    have := hq d (by simp)
    replace e : (((i : Nat) : Int).toNat * 3 + 2) * 4096 + ((a : Nat) : Int).toNat * 64 + ((b : Nat) : Int).toNat = (((j : Nat) : Int).toNat * 3 + 2) * 4096 + ((c : Nat) : Int).toNat * 64 + ((d : Nat) : Int).toNat := e
    rw [show i = j by omega, show a = c by omega, show b = d by omega]
/-- what was worked out so far -/
structure MemoOk (rss : List (List DEnt)) (kvs : List (List Key × V)) : Prop where
  nd : (kvs.map (·.1)).Nodup
  ok : ∀ e ∈ kvs, ∃ i ps rs, e.1 = keyOf i ps ∧ rss[i]? = some rs ∧ ps.length ≤ 2 ∧ (∀ p ∈ ps, p < 64) ∧ e.2 = .int (ovN rs ps : Nat)
theorem nd_codes {n : Nat} : ∀ {ks : List (List Key)}, ks.Nodup → (∀ k ∈ ks, KeyOk n k) → (ks.map codeK).Nodup
  | [], _, _ => List.nodup_nil
  | k :: ks, h, ok => by
    rw [List.nodup_cons] at h
    rw [List.map_cons, List.nodup_cons]
    refine ⟨fun m => ?_, nd_codes h.2 fun x hx => ok x (List.mem_cons_of_mem _ hx)⟩
    obtain ⟨x, hx, e⟩ := List.mem_map.mp m
    rw [code_inj (ok x (List.mem_cons_of_mem _ hx)) (ok k (List.mem_cons_self ..)) e] at hx
    exact h.1 hx
theorem nd_len : ∀ (l D : List Nat), l.Nodup → (∀ x ∈ l, x ∈ D) → l.length ≤ D.length
  | [], _, _, _ => Nat.zero_le _
  | x :: l, D, h, m => by
    rw [List.nodup_cons] at h
    have hx := m x (List.mem_cons_self ..)
    have := nd_len l (D.erase x) h.2 fun y hy => (List.mem_erase_of_ne (fun e : y = x => h.1 (by rw [← e]; exact hy))).mpr (m y (List.mem_cons_of_mem _ hy))
    rw [List.length_erase_of_mem hx] at this
    have hp := List.length_pos_of_mem hx
    rw [List.length_cons]
    omega
theorem MemoOk.len {rss : List (List DEnt)} {kvs : List (List Key × V)} (m : MemoOk rss kvs) (h : rss.length ≤ 4) : kvs.length ≤ 50000 := by
  have h1 := nd_codes (n := 4) m.nd fun k hk => by
    obtain ⟨e, he, rfl⟩ := List.mem_map.mp hk
    obtain ⟨i, ps, rs, e1, e2, e3, e4, _⟩ := m.ok e he
    exact ⟨i, ps, e1, by have := (List.getElem?_eq_some_iff.mp e2).1; omega, e3, e4⟩
  have h2 := nd_len _ (List.range 50000) h1 fun x hx => by
    obtain ⟨k, hk, rfl⟩ := List.mem_map.mp hx
    obtain ⟨e, he, rfl⟩ := List.mem_map.mp hk
    obtain ⟨i, ps, rs, e1, e2, e3, e4, _⟩ := m.ok e he
    have := code_lt (n := 4) ⟨i, ps, e1, by have := (List.getElem?_eq_some_iff.mp e2).1; omega, e3, e4⟩
    rw [List.mem_range]
    omega
  rw [List.length_range, List.length_map, List.length_map] at h2
  exact h2
theorem valT_mem : ∀ {kvs : List (List Key × V)} {k : List Key} {v : V}, valV kvs k = some v → (k, v) ∈ kvs
  | [], _, _, h => by cases h
  | e :: kvs, k, v, h => by
    by_cases q : e.1 = k
    · rw [valV_pos q] at h
      obtain rfl := Option.some.inj h
      rw [← q]
      exact List.mem_cons_self ..
    · rw [valV_neg q] at h
      exact List.mem_cons_of_mem _ (valT_mem h)
theorem valT_none : ∀ {kvs : List (List Key × V)} {k : List Key}, valV kvs k = none → k ∉ kvs.map (·.1)
  | [], _, _ => List.not_mem_nil
  | e :: kvs, k, h => by
    by_cases q : e.1 = k
    · rw [valV_pos q] at h; cases h
    · rw [valV_neg q] at h
      intro m
      rcases List.mem_cons.mp m with z | z
      · exact q z.symm
      · exact valT_none h z
theorem putT_new {kvs : List (List Key × V)} {k : List Key} {v : V} (h : k ∉ kvs.map (·.1)) : putK kvs k v = kvs ++ [(k, v)] := by
  unfold putK
  rw [if_neg]
  intro e
  obtain ⟨p, hp, e2⟩ := List.any_eq_true.mp e
  exact h (List.mem_map.mpr ⟨p, hp, of_decide_eq_true e2⟩)
theorem MemoOk.put {rss : List (List DEnt)} {kvs : List (List Key × V)} (m : MemoOk rss kvs) {i : Nat} {ps : List Nat} {rs : List DEnt} (h : rss[i]? = some rs) (hl : ps.length ≤ 2) (hp : ∀ p ∈ ps, p < 64) (hn : valV kvs (keyOf i ps) = none) :
    MemoOk rss (putK kvs (keyOf i ps) (.int (ovN rs ps : Nat))) := by
  rw [putT_new (valT_none hn)]
  refine ⟨?_, fun e he => ?_⟩
  · rw [List.map_append, List.nodup_append]
    refine ⟨m.nd, List.nodup_cons.mpr ⟨List.not_mem_nil, List.nodup_nil⟩, fun x hx y hy e => ?_⟩
    rw [List.map_cons, List.map_nil, List.mem_singleton] at hy
    subst hy e
    exact valT_none hn hx
  · rcases List.mem_append.mp he with z | z
    · exact m.ok e z
    · rw [List.mem_singleton] at z
      subst z
      exact ⟨i, ps, rs, rfl, h, hl, hp, rfl⟩
/-- the object Down: its rules, its memo at md -/
structure DwAt (K : PySem.W.Frag) (H : Hp) (C o md : Addr) (rss : List (List DEnt)) : Prop where
  ex : ∃ dx rl : Addr, H o = some (.ins C dx [("rules_for", .ref rl), ("moves", .ref md)]) ∧ RssAt K H rl rss
def Memo (rss : List (List DEnt)) (x : Option HO) : Prop := ∃ kvs, x = some (.dT kvs) ∧ MemoOk rss kvs
theorem Memo.noT {rss : List (List DEnt)} (x : Option HO) (h : Memo rss x) : NoT x := by
  obtain ⟨kvs, rfl, _⟩ := h
  exact ⟨_, rfl, (fun _ z => nomatch z), (fun _ _ z => nomatch z), (fun _ z => nomatch z)⟩
def spMov (K : PySem.W.Frag) (C : Addr) : Sp := fun vs H Q _ => ∃ (o md p : Addr) (rss : List (List DEnt)) (i : Nat) (ps : List Nat) (rs : List DEnt), vs = [.ref o, .int (i : Nat), .ref p] ∧ DwAt K H C o md rss ∧ rss[i]? = some rs ∧ SqT K H p (nsV ps) ∧ ∀ H', Same H H' → Q (.int (ovN rs ps : Nat)) H'
def spStp (K : PySem.W.Frag) (C : Addr) : Sp := fun vs H Q _ => ∃ (o md p : Addr) (rss : List (List DEnt)) (i : Nat) (ps : List Nat) (rs : List DEnt), vs = [.ref o, .int (i : Nat), .ref p] ∧ DwAt K H C o md rss ∧ Memo rss (H md) ∧ rss.length ≤ 4 ∧ rss[i]? = some rs ∧ SqT K H p (nsV ps) ∧ ps.length ≤ 2 ∧ (∀ k ∈ ps, k < 64) ∧
  ∀ H', ButP md H H' → Memo rss (H' md) → Q (.int (ovN rs ps : Nat)) H'
end Pg
namespace Pg
open PySem PySem.Spec PyProof.Rows L2
theorem AskAt.keep {K : PySem.W.Frag} {H H' : Hp} {l : Addr} {as : Ask} (s : Same H H') (h : AskAt K H l as) : AskAt K H' l as := by
  obtain ⟨rs, h1, h2⟩ := h.ex
  exact ⟨rs, s _ _ h1, Paired.imp2 (fun _ _ q => TK.same s _ _ q) h2⟩
theorem valT_end {kvs : List (List Key × V)} {k : List Key} {v : V} (h : valV kvs k = none) : valV (putK kvs k v) k = some v := by
  rw [putT_new (valT_none h)]
  have : ∀ (l : List (List Key × V)), valV l k = none → valV (l ++ [(k, v)]) k = some v := by
    intro l
    induction l with
    | nil => intro _; exact valV_pos rfl
    | cons e l ih =>
      intro h
      rw [List.cons_append]
      by_cases q : e.1 = k
      · rw [valV_pos q] at h; cases h
      · rw [valV_neg q] at h ⊢
        exact ih h
  exact this kvs h
theorem keyOf_kV (i : Nat) (ps : List Nat) : (keyOf i ps).map kV = V.int (i : Nat) :: nsV ps := by
  unfold keyOf
  rw [List.map_cons, List.map_map]
  rfl
theorem MemoOk.get {rss : List (List DEnt)} {kvs : List (List Key × V)} (m : MemoOk rss kvs) {i : Nat} {ps : List Nat} {rs : List DEnt} {v : V} (h : rss[i]? = some rs) (e : valV kvs (keyOf i ps) = some v) : v = .int (ovN rs ps : Nat) := by
  obtain ⟨j, qs, rs', e1, e2, _, _, e3⟩ := m.ok _ (valT_mem e)
  obtain ⟨rfl, rfl⟩ := keyOf_inj e1
  rw [h] at e2
  cases e2
  exact e3
end Pg

set_option Elab.async false
set_option linter.all false
set_option maxRecDepth 100000
set_option maxHeartbeats 4000000
namespace Pg
open PySem PySem.Spec PyProof.Rows L2
/-! ### how Down is made -/
def entR (mk : Sg) (r : DR) : DEnt := (bitsN mk [r.m], r.ns.map fun x => (orN mk x true r.lits, orN mk x false r.lits))
def rlsOf (mk : Sg) (rs : List DR) (x : Str) : List DEnt := (rs.filter fun r => decide (r.s = x)).map (entR mk)
def rssOf (sg mk : Sg) (rs : List DR) : List (List DEnt) := sg.map fun s => rlsOf mk rs s.1
theorem rls_snoc {mk : Sg} {rs : List DR} {j : Nat} {r : DR} {x : Str} (h : rs[j]? = some r) : rlsOf mk (rs.take (j + 1)) x = rlsOf mk (rs.take j) x ++ (if r.s = x then [entR mk r] else []) := by
  unfold rlsOf
  rw [take_snoc h, List.filter_append, List.map_append]
  by_cases e : r.s = x
  · rw [if_pos e, filt1 (b := fun r : DR => decide (r.s = x)) (decide_eq_true e)]; rfl
  · rw [if_neg e, filt0 (b := fun r : DR => decide (r.s = x)) (decide_eq_false e)]; rfl
/-- an entry whose list of what is asked is none of ls -/
def EntX (K : PySem.W.Frag) (ls : List Addr) (H : Hp) (v : V) (e : DEnt) : Prop := ∃ t l, v = .ref t ∧ l ∉ ls ∧ SqT K H t [.int (e.1 : Nat), .ref l] ∧ AskAt K H l e.2
/-- the lists for the signs while they are filled -/
structure RlX (K : PySem.W.Frag) (H : Hp) (ls : List Addr) (sg mk : Sg) (rs : List DR) : Prop where
  len : ls.length = sg.length
  nd : ls.Nodup
  at_ : ∀ (i : Nat) (s : Str × Int), sg[i]? = some s → ∃ l vs, ls[i]? = some l ∧ H l = some (.lst vs) ∧ Paired (EntX K ls H) vs (rlsOf mk rs s.1)
theorem paired_ix {α β : Type} {F : α → β → Prop} : ∀ {xs : List α} {ys : List β}, xs.length = ys.length → (∀ (i : Nat) (x : α) (y : β), xs[i]? = some x → ys[i]? = some y → F x y) → Paired F xs ys
  | [], [], _, _ => .nil
  | x :: xs, y :: ys, h, f => .cons (f 0 x y rfl rfl) (paired_ix (by simpa using h) fun i a b ha hb => f (i + 1) a b (by simpa using ha) (by simpa using hb))
  | [], y :: ys, h, _ => by simp at h
  | x :: xs, [], h, _ => by simp at h
theorem RlX.done {K : PySem.W.Frag} {H : Hp} {ls : List Addr} {sg mk : Sg} {rs : List DR} {rl : Addr} (h : RlX K H ls sg mk rs) (hr : H rl = some (.lst (ls.map V.ref))) : RssAt K H rl (rssOf sg mk rs) := by
  refine ⟨ls, hr, paired_ix (by unfold rssOf; rw [List.length_map, h.len]) fun i l x hl hx => ?_⟩
  unfold rssOf at hx
  rw [List.getElem?_map] at hx
  cases e : sg[i]? with
  | none => rw [e] at hx; cases hx
  | some s =>
    rw [e] at hx
    obtain rfl := Option.some.inj hx
    obtain ⟨l', vs, h1, h2, h3⟩ := h.at_ i s e
    rw [hl] at h1
    cases h1
    exact ⟨vs, h2, Paired.imp2 (fun v d ⟨t, al, a1, _, a2, a3⟩ => ⟨t, al, a1, a2, a3⟩) h3⟩
theorem RlX.same {K : PySem.W.Frag} {H H' : Hp} {ls : List Addr} {sg mk : Sg} {rs : List DR} (s : Same H H') (h : RlX K H ls sg mk rs) : RlX K H' ls sg mk rs :=
  ⟨h.len, h.nd, fun i x e => by
    obtain ⟨l, vs, h1, h2, h3⟩ := h.at_ i x e
    exact ⟨l, vs, h1, s _ _ h2, Paired.imp2 (fun v d ⟨t, al, a1, a0, a2, a3⟩ => ⟨t, al, a1, a0, TK.same s _ _ a2, a3.keep s⟩) h3⟩⟩
/-- one more rule -/
theorem RlX.put {K : PySem.W.Frag} {H : Hp} {ls : List Addr} {sg mk : Sg} {rs : List DR} {j i : Nat} {r : DR} {s : Str × Int} {l t al : Addr} {vs : List V} (h : RlX K H ls sg mk (rs.take j)) (hr : rs[j]? = some r) (hs : sg[i]? = some s) (nd : (sg.map Prod.fst).Nodup) (es : s.1 = r.s) (el : ls[i]? = some l) (hl : H l = some (.lst vs))
    (ht : SqT K H t [.int ((entR mk r).1 : Nat), .ref al]) (ha : AskAt K H al (entR mk r).2) (nal : al ∉ ls) : RlX K (upd H l (.lst (vs ++ [.ref t]))) ls sg mk (rs.take (j + 1)) := by
  have lm : l ∈ ls := List.mem_of_getElem? el
  have keep : ∀ {v : V} {d : DEnt}, EntX K ls H v d → EntX K ls (upd H l (.lst (vs ++ [.ref t]))) v d := fun {v d} ⟨t', al', a1, a0, a2, a3⟩ => by
    obtain ⟨qs, b1, b2⟩ := a3.ex
    refine ⟨t', al', a1, a0, TK.put hl _ _ a2, qs, ?_, Paired.imp2 (fun _ _ q => TK.put hl _ _ q) b2⟩
    rw [upd_ne (fun z : al' = l => a0 (by rw [z]; exact lm))]
    exact b1
  refine ⟨h.len, h.nd, fun i' s' e' => ?_⟩
  obtain ⟨l', vs', h1, h2, h3⟩ := h.at_ i' s' e'
  rw [rls_snoc hr]
  by_cases e : i' = i
  · subst e
    rw [hs] at e'
    cases e'
    rw [el] at h1
    cases h1
    rw [hl] at h2
    cases h2
    refine ⟨l, _, el, upd_same, ?_⟩
    rw [if_pos es.symm]
    exact paired_app (Paired.imp2 (fun _ _ q => keep q) h3) (.cons (keep ⟨t, al, rfl, nal, ht, ha⟩) .nil)
  · have ne : l' ≠ l := fun z => by
      subst z
      exact e ((List.getElem?_inj (List.getElem?_eq_some_iff.mp h1).1 h.nd).mp (h1.trans el.symm))
    have ns : ¬ r.s = s'.1 := fun z => by
      have h5 : (sg.map Prod.fst)[i']? = some r.s := by rw [List.getElem?_map, e', z]; rfl
      have h6 : (sg.map Prod.fst)[i]? = some r.s := by rw [List.getElem?_map, hs, ← es]; rfl
      exact e ((List.getElem?_inj (List.getElem?_eq_some_iff.mp h5).1 nd).mp (h5.trans h6.symm))
    refine ⟨l', vs', h1, by rw [upd_ne ne]; exact h2, ?_⟩
    rw [if_neg ns, List.append_nil]
    exact Paired.imp2 (fun _ _ q => keep q) h3
def spDini (K : PySem.W.Frag) (C : Addr) : Sp := fun vs H Q _ => ∃ (o dx g p l : Addr) (sg mk : Sg) (rs : List DR) (us : List V), vs = [.ref o, .ref g, .ref p, .ref l] ∧ H o = some (.ins C dx []) ∧ SgAt K H g sg ∧ GSg sg ∧ SgAt K H p mk ∧ mk.length ≤ 6 ∧ (mk.map Prod.fst).Nodup ∧ H l = some (.lst us) ∧ DpAll K H us (rs.map fun r => rulD r.rul) ∧ (∀ r ∈ rs, DOk sg mk r) ∧ rs.length ≤ 1000 ∧
  ∀ md H', Pg.Fr o H H' → DwAt K H' C o md (rssOf sg mk rs) → Memo (rssOf sg mk rs) (H' md) → H md = none → Q .non H'
end Pg

set_option Elab.async false
set_option linter.all false
set_option maxRecDepth 100000
set_option maxHeartbeats 4000000
namespace Pg
open PySem PySem.Spec PyProof.Rows L2
theorem key_new {sg : Sg} {i : Nat} {s : Str × Int} (nd : (sg.map (·.1)).Nodup) (e : sg[i]? = some s) : (Sum.inr s.1 : Key) ∉ (sg.take i).map fun s => (Sum.inr s.1 : Key) := by
  intro h
  obtain ⟨s', hs', e'⟩ := List.mem_map.mp h
  have e' : s'.1 = s.1 := Sum.inr.inj e'
  obtain ⟨hi, es⟩ := List.getElem?_eq_some_iff.mp e
  obtain ⟨j, hj, ej⟩ := List.getElem_of_mem hs'
  rw [List.getElem_take] at ej
  have hj2 : j < i := by rw [List.length_take] at hj; omega
  have h1 : (sg.map (·.1))[j]'(by rw [List.length_map]; omega) = (sg.map (·.1))[i]'(by rw [List.length_map]; exact hi) := by
    rw [List.getElem_map, List.getElem_map, ej, es, e']
  have := (List.getElem_inj nd).mp h1
  omega
/-- {sign: place for place, (sign, _) in enumerate(signs)} -/
def plD (n : Nat) (sg : Sg) : List (Key × V) := (sg.zipIdx n).map fun p => ((Sum.inr p.1.1 : Key), V.int ((p.2 : Nat) : Int))
theorem plD_keys (sg : Sg) : ∀ n, (plD n sg).map (·.1) = sg.map fun s => (Sum.inr s.1 : Key) := by
  induction sg with
  | nil => intro n; rfl
  | cons x xs ih =>
    intro n
    unfold plD at ih ⊢
    rw [List.zipIdx_cons, List.map_cons, List.map_cons, List.map_cons, ih (n + 1)]
theorem plD_snoc {sg : Sg} {i : Nat} {s : Str × Int} (e : sg[i]? = some s) : plD 0 (sg.take (i + 1)) = plD 0 (sg.take i) ++ [((Sum.inr s.1 : Key), V.int ((i : Nat) : Int))] := by
  have hi := (List.getElem?_eq_some_iff.mp e).1
  unfold plD
  rw [take_snoc e, List.zipIdx_append, List.map_append]
  have hl : (sg.take i).length = i := by rw [List.length_take]; omega
  rw [hl]
  simp
theorem plD_val : ∀ {sg : Sg} {n : Nat} {s : Str}, s ∈ sg.map (·.1) → valV (plD n sg) (Sum.inr s) = some (.int ((n + place sg s : Nat) : Int))
  | [], n, s, h => absurd h List.not_mem_nil
  | x :: xs, n, s, h => by
    unfold plD
    rw [List.zipIdx_cons, List.map_cons]
    by_cases e : x.1 = s
    · rw [valV_pos (by rw [e])]
      have : place (x :: xs) s = 0 := by unfold place; rw [List.map_cons, List.idxOf_cons]; simp [e]
      rw [this]
      rfl
    · rw [valV_neg (by intro z; exact e (Sum.inr.inj z))]
      have hm : s ∈ xs.map (·.1) := by
        rcases List.mem_cons.mp h with z | z
        · exact absurd z.symm e
        · exact z
      have ih := plD_val (n := n + 1) hm
      unfold plD at ih
      rw [ih]
      have : place (x :: xs) s = place xs s + 1 := by
        unfold place
        rw [List.map_cons, List.idxOf_cons]
        have : (x.1 == s) = false := by simpa using e
        rw [this]
        rfl
      rw [this]
      congr 2
      omega
/-- {sign: entry for (sign, _), entry in zip(signs, moves)} -/
def enD (sg : Sg) (us : List V) : List (Key × V) := (sg.zip us).map fun p => ((Sum.inr p.1.1 : Key), p.2)
theorem enD_keys : ∀ {sg : Sg} {us : List V}, sg.length = us.length → (enD sg us).map (·.1) = sg.map fun s => (Sum.inr s.1 : Key)
  | [], [], _ => rfl
  | x :: xs, u :: us, h => by
    have ih := enD_keys (sg := xs) (us := us) (by simpa using h)
    unfold enD at ih ⊢
    rw [List.zip_cons_cons, List.map_cons, List.map_cons, List.map_cons, ih]
theorem enD_snoc {sg : Sg} {us : List V} {i : Nat} {s : Str × Int} {u : V} (hl : sg.length = us.length) (e : sg[i]? = some s) (eu : us[i]? = some u) : enD (sg.take (i + 1)) (us.take (i + 1)) = enD (sg.take i) (us.take i) ++ [((Sum.inr s.1 : Key), u)] := by
  unfold enD
  rw [take_snoc e, take_snoc eu, List.zip_append (by rw [List.length_take, List.length_take, hl]), List.map_append]
  rfl
theorem enD_val : ∀ {sg : Sg} {us : List V} {s : Str}, sg.length = us.length → s ∈ sg.map (·.1) → valV (enD sg us) (Sum.inr s) = us[place sg s]?
  | [], _, s, _, h => absurd h List.not_mem_nil
  | x :: xs, u :: us, s, hl, h => by
    unfold enD
    rw [List.zip_cons_cons, List.map_cons]
    by_cases e : x.1 = s
    · rw [valV_pos (by rw [e])]
      have : place (x :: xs) s = 0 := by unfold place; rw [List.map_cons, List.idxOf_cons]; simp [e]
      rw [this]
      rfl
    · rw [valV_neg (by intro z; exact e (Sum.inr.inj z))]
      have hm : s ∈ xs.map (·.1) := by
        rcases List.mem_cons.mp h with z | z
        · exact absurd z.symm e
        · exact z
      have ih := enD_val (us := us) (by simpa using hl) hm
      unfold enD at ih
      rw [ih]
      have : place (x :: xs) s = place xs s + 1 := by
        unfold place
        rw [List.map_cons, List.idxOf_cons]
        have : (x.1 == s) = false := by simpa using e
        rw [this]
        rfl
      rw [this, List.getElem?_cons_succ]
section
variable {K : PySem.W.Frag} {σ : L2.St} {H : Hp} {Q : VK} {g mv : Addr} {sg : Sg} {us : List V} {i j jp js ju je : Nat}
theorem rd_plc (hi : σ[i]? = some (some (.ref g))) (hS : SgAt K H g sg) (gs : GSg sg)
    (hw : ∀ x y z, wipe ((((wipe σ [jp, js, ju]).set jp (some x)).set js (some y)).set ju (some z)) [jp, js, ju] = wipe σ [jp, js, ju])
    (hjs : ∀ x y z, ((((wipe σ [jp, js, ju]).set jp (some x)).set js (some y)).set ju (some z))[js]? = some (some y)) (hjp : ∀ x y z, ((((wipe σ [jp, js, ju]).set jp (some x)).set js (some y)).set ju (some z))[jp]? = some (some x))
    (h : ∀ D H', H D = none → Same H H' → H' D = some (.dK (plD 0 sg)) → Q (.ref D) H') :
    tDc (iEnumT K (tCons (tVar i) tNil)) (gTup K 2 (gCons (gName jp) (gCons (gTup K 2 (gCons (gName js) (gCons (gName ju) gNil))) gNil))) tYes (tVar js) (tVar jp) [jp, js, ju] σ H Q := by
  obtain ⟨rs, hT, pr⟩ := hS.ex
  refine ⟨_, hi, g, _, rfl, hT, fun D nD => ?_⟩
  have hl : (rs.map V.ref).length = sg.length := by rw [List.length_map, paired_len pr]
  have g4 := gs.len
  refine dc_any (n := sg.length) (fun i H' => Same H H' ∧ H' D = some (.dK (plD 0 (sg.take i)))) ⟨Same.new nD, upd_same⟩ (fun i H' hi iv => ?_) (fun H' iv => ?_) (fun i x H1 H' hi iv hy => ?_) (fun H' iv => ?_)
  · exact ⟨_, _, TK.same iv.1 _ _ hT, List.getElem?_eq_getElem (by rw [hl]; exact hi)⟩
  · exact ⟨_, TK.same iv.1 _ _ hT, hl⟩
  · obtain ⟨T, y, rfl, nT, rfl, hy⟩ := hy
    have hx := hy _ (TK.same iv.1 _ _ hT)
    rw [List.getElem?_map] at hx
    obtain ⟨r, er, rfl⟩ : ∃ r, rs[i]? = some r ∧ V.ref r = y := by
      cases e : rs[i]? with
      | none => rw [e] at hx; cases hx
      | some z => rw [e] at hx; exact ⟨z, rfl, Option.some.inj hx⟩
    obtain ⟨s, es, hr⟩ := Pg.paired_get pr er
    have hD2 : (upd H1 T (.tup [.int (i : Nat), .ref r])) D = some (.dK (plD 0 (sg.take i))) := by rw [upd_ne (ne_of_none iv.2 nT)]; exact iv.2
    refine ⟨T, _, rfl, SqT.mk upd_same, rfl, _, _, rfl, _, _, rfl, r, _, rfl, (TK.new nT) _ _ (TK.same iv.1 _ _ hr), rfl, _, _, rfl, _, _, rfl, rfl, rfl, hw _ _ _, yes_turn ?_⟩
    refine ⟨_, hjs _ _ _, _, hjp _ _ _, _, .inr s.1, rfl, hD2, ?_, Same.mut nD (iv.1.trans (Same.new nT)), ?_⟩
    · unfold plD; rw [List.length_map, List.length_zipIdx, List.length_take]; exact small1000 (by omega)
    · rw [upd_same, putK_new (by rw [plD_keys]; exact key_new gs.nd es), plD_snoc es]
  · rw [List.take_length] at iv
    exact h D H' nD iv.1 iv.2
theorem rd_ents (hi : σ[i]? = some (some (.ref g))) (hj : σ[j]? = some (some (.ref mv))) (hS : SgAt K H g sg) (gs : GSg sg) (hM : SqT K H mv us) (hlen : sg.length = us.length)
    (hw : ∀ x y z, wipe ((((wipe σ [js, ju, je]).set js (some x)).set ju (some y)).set je (some z)) [js, ju, je] = wipe σ [js, ju, je])
    (hjs : ∀ x y z, ((((wipe σ [js, ju, je]).set js (some x)).set ju (some y)).set je (some z))[js]? = some (some x)) (hje : ∀ x y z, ((((wipe σ [js, ju, je]).set js (some x)).set ju (some y)).set je (some z))[je]? = some (some z))
    (h : ∀ D H', H D = none → Same H H' → H' D = some (.dK (enD sg us)) → Q (.ref D) H') :
    tDc (RZ.iZipA K (tCons (tVar i) (tCons (tVar j) tNil))) (gTup K 2 (gCons (gTup K 2 (gCons (gName js) (gCons (gName ju) gNil))) (gCons (gName je) gNil))) tYes (tVar js) (tVar je) [js, ju, je] σ H Q := by
  obtain ⟨rs, hT, pr⟩ := hS.ex
  have hl : (rs.map V.ref).length = sg.length := by rw [List.length_map, paired_len pr]
  have g4 := gs.len
  refine ⟨_, hi, _, hj, g, mv, _, _, rfl, .inr ⟨hT, hM, fun D nD => ?_⟩⟩
  refine dc_any (n := sg.length) (fun i H' => Same H H' ∧ H' D = some (.dK (enD (sg.take i) (us.take i)))) ⟨Same.new nD, upd_same⟩ (fun i H' hi iv => ?_) (fun H' iv => ?_) (fun i x H1 H' hi iv hy => ?_) (fun H' iv => ?_)
  · exact ⟨_, _, _, _, TK.same iv.1 _ _ hT, TK.same iv.1 _ _ hM, List.getElem?_eq_getElem (by rw [hl]; exact hi), List.getElem?_eq_getElem (by omega)⟩
  · exact ⟨_, _, TK.same iv.1 _ _ hT, TK.same iv.1 _ _ hM, .inl (by omega)⟩
  · obtain ⟨T, y, z, rfl, nT, rfl, hy, hz⟩ := hy
    have hx := hy _ (TK.same iv.1 _ _ hT)
    have hz := hz _ (TK.same iv.1 _ _ hM)
    rw [List.getElem?_map] at hx
    obtain ⟨r, er, rfl⟩ : ∃ r, rs[i]? = some r ∧ V.ref r = y := by
      cases e : rs[i]? with
      | none => rw [e] at hx; cases hx
      | some z => rw [e] at hx; exact ⟨z, rfl, Option.some.inj hx⟩
    obtain ⟨s, es, hr⟩ := Pg.paired_get pr er
    have hD2 : (upd H1 T (.tup [.ref r, z])) D = some (.dK (enD (sg.take i) (us.take i))) := by rw [upd_ne (ne_of_none iv.2 nT)]; exact iv.2
    refine ⟨T, _, rfl, SqT.mk upd_same, rfl, _, _, rfl, r, _, rfl, (TK.new nT) _ _ (TK.same iv.1 _ _ hr), rfl, _, _, rfl, _, _, rfl, rfl, _, _, rfl, rfl, hw _ _ _, yes_turn ?_⟩
    refine ⟨_, hjs _ _ _, _, hje _ _ _, _, .inr s.1, rfl, hD2, ?_, Same.mut nD (iv.1.trans (Same.new nT)), ?_⟩
    · unfold enD; rw [List.length_map, List.length_zip, List.length_take]; exact small1000 (by omega)
    · have hlt : (sg.take i).length = (us.take i).length := by rw [List.length_take, List.length_take, hlen]
      rw [upd_same, putK_new (by rw [enD_keys hlt]; exact key_new gs.nd es), enD_snoc hlen es hz]
  · rw [List.take_length, hlen, List.take_length] at iv
    exact h D H' nD iv.1 iv.2
end
end Pg

set_option Elab.async false
set_option linter.all false
set_option maxRecDepth 100000
set_option maxHeartbeats 4000000
namespace Pg
open PySem PySem.Spec PyProof.Rows L2
section
variable {K : PySem.W.Frag} {σ : L2.St} {H : Hp} {Q : VK} {g : Addr} {sg : Sg} {i j u : Nat} {te : TE}
/-- {word: f(word) for word, _ in pairs} -/
theorem rd_dcT (f : Str × Int → V) (hi : σ[i]? = some (some (.ref g))) (hS : SgAt K H g sg) (hlen : sg.length ≤ 1000) (nd : (sg.map (·.1)).Nodup)
    (hw : ∀ x y, wipe (((wipe σ [j, u]).set j (some x)).set u (some y)) [j, u] = wipe σ [j, u]) (hj : ∀ x y, (((wipe σ [j, u]).set j (some x)).set u (some y))[j]? = some (some x))
    (hv : ∀ s H', s ∈ sg → Same H H' → ∀ Q' : VK, (∀ H2, Same H' H2 → Q' (f s) H2) → te (((wipe σ [j, u]).set j (some (.str s.1))).set u (some (.int s.2))) H' Q')
    (h : ∀ D H', H D = none → Same H H' → H' D = some (.dK (sg.map fun s => ((Sum.inr s.1 : Key), f s))) → Q (.ref D) H') :
    tDc (iTup K (tVar i)) (gTup K 2 (gCons (gName j) (gCons (gName u) gNil))) tYes (tVar j) te [j, u] σ H Q := by
  obtain ⟨rs, hT, pr⟩ := hS.ex
  have hl : (rs.map V.ref).length = sg.length := by rw [List.length_map, paired_len pr]
  refine ⟨_, hi, g, rfl, ⟨_, hT⟩, fun D nD => ?_⟩
  refine dc_any (n := sg.length) (fun i H' => Same H H' ∧ H' D = some (.dK ((sg.take i).map fun s => ((Sum.inr s.1 : Key), f s)))) ⟨Same.new nD, upd_same⟩ (fun i H' hi iv => ?_) (fun H' iv => ?_) (fun i x H1 H' hi iv hy => ?_) (fun H' iv => ?_)
  · exact ⟨_, _, TK.same iv.1 _ _ hT, List.getElem?_eq_getElem (by rw [hl]; exact hi)⟩
  · exact ⟨_, TK.same iv.1 _ _ hT, Nat.le_of_eq hl⟩
  · obtain ⟨rfl, hy⟩ := hy
    have hx := hy _ (TK.same iv.1 _ _ hT)
    rw [List.getElem?_map] at hx
    obtain ⟨r, er, rfl⟩ : ∃ r, rs[i]? = some r ∧ V.ref r = x := by
      cases e : rs[i]? with
      | none => rw [e] at hx; cases hx
      | some z => rw [e] at hx; exact ⟨z, rfl, Option.some.inj hx⟩
    obtain ⟨s, es, hr⟩ := Pg.paired_get pr er
    refine ⟨r, _, rfl, TK.same iv.1 _ _ hr, rfl, _, _, rfl, _, _, rfl, rfl, hw _ _, yes_turn ?_⟩
    refine ⟨_, hj _ _, hv s _ (List.mem_of_getElem? es) iv.1 _ fun H2 s2 => ⟨_, .inr s.1, rfl, s2 _ _ iv.2, ?_, Same.mut nD (iv.1.trans s2), ?_⟩⟩
    · rw [List.length_map, List.length_take]; exact small1000 (by omega)
    · rw [upd_same, putK_new, take_snoc es, List.map_append]
      · rfl
      · intro m
        rw [List.map_map] at m
        obtain ⟨s', hs', e'⟩ := List.mem_map.mp m
        have e1 : s'.1 = s.1 := Sum.inr.inj e'
        obtain ⟨k, hk, ek⟩ := List.getElem_of_mem hs'
        rw [List.length_take] at hk
        rw [List.getElem_take] at ek
        have h5 : (sg.map (·.1))[k]? = some s.1 := by rw [List.getElem?_map, List.getElem?_eq_getElem (by omega), ek, ← e1]; rfl
        have h6 : (sg.map (·.1))[i]? = some s.1 := by rw [List.getElem?_map, es]; rfl
        have := (List.getElem?_inj (by rw [List.length_map]; omega) nd).mp (h5.trans h6.symm)
        omega
  · rw [List.take_length] at iv
    exact h D H' nD iv.1 iv.2
/-- [[] for _ in pairs] -/
theorem rd_nils {p : Addr} {us : List V} (hi : σ[i]? = some (some (.ref p))) (hS : SqT K H p us) (hlen : us.length ≤ 1000) (hw : ∀ x, wipe ((wipe σ [j]).set j (some x)) [j] = wipe σ [j])
    (h : ∀ D H' (ls : List Addr), H D = none → Same H H' → H' D = some (.lst (ls.map V.ref)) → ls.length = us.length → ls.Nodup → D ∉ ls → (∀ l ∈ ls, H' l = some (.lst []) ∧ H l = none) → Q (.ref D) H') :
    tLc (iTup K (tVar i)) (gName j) tYes (tLst tNil) [j] σ H Q := by
  refine ⟨_, hi, p, rfl, ⟨_, hS⟩, fun D nD => ?_⟩
  refine lc_tup (K := K) (xs := us) (fun i H' => Same H H' ∧ ∃ ls : List Addr, H' D = some (.lst (ls.map V.ref)) ∧ ls.length = i ∧ ls.Nodup ∧ D ∉ ls ∧ ∀ l ∈ ls, H' l = some (.lst []) ∧ H l = none)
    ⟨Same.new nD, [], upd_same, rfl, List.nodup_nil, List.not_mem_nil, fun l h => absurd h List.not_mem_nil⟩ (fun i H' _ iv => TK.same iv.1 _ _ hS) (fun i x H' hx iv => ?_) (fun H' iv => ?_)
  · obtain ⟨sm, ls, hD, hl, nd, nm, hall⟩ := iv
    have hlt := (List.getElem?_eq_some_iff.mp hx).1
    refine ⟨hw _, yes_turn ⟨(by show 0 ≤ sizeLine; decide), fun a na => ?_⟩⟩
    have naD : D ≠ a := ne_of_none hD na
    have nal : a ∉ ls := fun m => by rw [(hall a m).1] at na; cases na
    refine ⟨_, by rw [upd_ne naD]; exact hD, by rw [List.length_map]; exact small1000 (by omega), Same.mut nD (sm.trans (Same.new na)), ls ++ [a], by rw [upd_same, List.map_append]; rfl, by rw [List.length_append, hl]; rfl, ?_, ?_, fun l hm => ?_⟩
    · rw [List.nodup_append]
      exact ⟨nd, List.nodup_cons.mpr ⟨List.not_mem_nil, List.nodup_nil⟩, fun x hx y hy e => by rw [List.mem_singleton] at hy; rw [e, hy] at hx; exact nal hx⟩
    · intro m
      rcases List.mem_append.mp m with z | z
      · exact nm z
      · rw [List.mem_singleton] at z; exact naD z
    · rcases List.mem_append.mp hm with z | z
      · have nlD : l ≠ D := fun e => nm (by rw [← e]; exact z)
        have nla : l ≠ a := fun e => nal (by rw [← e]; exact z)
        rw [upd_ne nlD, upd_ne nla]
        exact hall l z
      · rw [List.mem_singleton] at z
        subst z
        rw [upd_ne (Ne.symm naD), upd_same]
        exact ⟨rfl, same_free sm na⟩
  · obtain ⟨sm, ls, hD, hl, nd, nm, hall⟩ := iv
    exact h D H' ls nD sm hD hl nd nm hall
end
/-- all is kept but some lists -/
def FrS (ls : List Addr) (H H' : Hp) : Prop := ∀ b u, b ∉ ls → H b = some u → H' b = some u
theorem FrS.refl {ls : List Addr} {H : Hp} : FrS ls H H := fun _ _ _ h => h
theorem FrS.trans {ls : List Addr} {H H1 H2 : Hp} (a : FrS ls H H1) (b : FrS ls H1 H2) : FrS ls H H2 := fun c u n h => b c u n (a c u n h)
theorem FrS.of {ls : List Addr} {H H1 : Hp} (s : Same H H1) : FrS ls H H1 := fun c u _ h => s c u h
theorem FrS.put {ls : List Addr} {H : Hp} {l : Addr} {o : HO} (h : l ∈ ls) : FrS ls H (upd H l o) := fun c u n e => by
  rw [upd_ne (fun z : c = l => n (by rw [z]; exact h))]
  exact e
theorem FrS.tk {K : PySem.W.Frag} {ls : List Addr} {H H1 : Hp} (a : FrS ls H H1) (h : ∀ l ∈ ls, ∃ xs, H l = some (.lst xs)) : TK K H H1 := by
  rintro q ys ((e | ⟨ob, e⟩) | e)
  · exact .inl (.inl (a _ _ (fun m => by obtain ⟨xs, z⟩ := h q m; rw [z] at e; cases e) e))
  · exact .inl (.inr ⟨ob, a _ _ (fun m => by obtain ⟨xs, z⟩ := h q m; rw [z] at e; cases e) e⟩)
  · exact .inr e
/-- what asked_of gave -/
abbrev askD (a : Nat × Nat) : PyData := .tuple [.int (a.1 : Nat), .int (a.2 : Nat)]
theorem asks_of {K : PySem.W.Frag} {H : Hp} : ∀ {vs : List V} {as : Ask}, DpAll K H vs (as.map askD) → ∃ rs : List Addr, vs = rs.map V.ref ∧ Paired (fun r (a : Nat × Nat) => SqT K H r [.int (a.1 : Nat), .int (a.2 : Nat)]) rs as
  | _, [], .nil => ⟨[], rfl, .nil⟩
  | _, a :: as, .cons h t => by
    obtain ⟨rs, e, p⟩ := asks_of t
    cases h with
    | @tup r us _ hq ha =>
    cases ha with
    | cons h1 ha =>
    cases ha with
    | cons h2 ha =>
    cases ha
    cases h1
    cases h2
    exact ⟨r :: rs, by rw [e]; rfl, .cons hq p⟩
end Pg
namespace Pg
open PySem PySem.Spec PyProof.Rows L2
theorem dr_solid (r : DR) : solid (rulD r.rul) = true := by
  have h1 : ∀ ks : List Str, solid.solidAll (ks.map PyData.str) = true := fun ks => solidAll_of fun d hd => by obtain ⟨m, _, rfl⟩ := List.mem_map.mp hd; exact nest_solid rfl
  have h2 : solid.solidAll (r.lits.map litD) = true := solidAll_of fun d hd => by
    obtain ⟨l, hl, rfl⟩ := List.mem_map.mp hd
    obtain ⟨b, _, rfl⟩ := List.mem_map.mp hl
    show solid (.tuple [.bool b.1, .str b.2.1, .str b.2.2]) = true
    rw [solid, solid.solidAll, solid.solidAll, solid.solidAll, solid.solidAll, solid, solid, solid]
    rfl
  show solid (.tuple [.str r.m, .tuple (.str r.s :: r.ns.map PyData.str), .tuple (r.lits.map litD)]) = true
  rw [solid, solid.solidAll, solid.solidAll, solid.solidAll, solid.solidAll, solid, solid, solid, solid.solidAll, solid, h1, h2]
  rfl
end Pg
namespace Pg
open PySem PySem.Spec PyProof.Rows L2
theorem askD_solid (a : Nat × Nat) : solid (askD a) = true := by
  rw [solid, solid.solidAll, solid.solidAll, solid.solidAll, solid, solid]
  rfl
theorem rls_len {mk : Sg} {rs : List DR} {x : Str} : (rlsOf mk rs x).length ≤ rs.length := by
  unfold rlsOf
  rw [List.length_map]
  exact List.length_filter_le _ _
end Pg

set_option Elab.async false
set_option linter.all false
set_option maxRecDepth 100000
set_option maxHeartbeats 4000000
namespace Pg
open PySem PySem.Spec PyProof.Rows L2 LamX
/-! ### marks by rules -/
def dnT (mk : Sg) (rs : List DR) : Tr → Nat
  | .nm _ => 0
  | .c0 s => ovN (rlsOf mk rs s) []
  | .c1 s t => ovN (rlsOf mk rs s) [dnT mk rs t]
  | .c2 s t u => ovN (rlsOf mk rs s) [dnT mk rs t, dnT mk rs u]
theorem dnT_eq {mk : Sg} {rs : List DR} {t : Tr} (h : ∀ x, t ≠ .nm x) : dnT mk rs t = ovN (rlsOf mk rs t.sym) (t.kids.map (dnT mk rs)) := by
  cases t with
  | nm x => exact absurd rfl (h x)
  | c0 s => rfl
  | c1 s t => rfl
  | c2 s t u => rfl
theorem bitsN_lt : ∀ (mk : Sg) (ws : List Str), bitsN mk ws < 2 ^ mk.length
  | [], _ => by show 0 < 2 ^ 0; decide
  | s :: mk, ws => by
    have := bitsN_lt mk ws
    unfold bitsN
    rw [List.length_cons, Nat.pow_succ]
    split <;> omega
theorem rls_lt {mk : Sg} {rs : List DR} {x : Str} : ∀ e ∈ rlsOf mk rs x, e.1 < 2 ^ mk.length := fun e he => by
  obtain ⟨r, _, rfl⟩ := List.mem_map.mp he
  exact bitsN_lt _ _
theorem dnT_lt {mk : Sg} {rs : List DR} (t : Tr) : dnT mk rs t < 2 ^ mk.length := by
  cases t with
  | nm x => exact Nat.two_pow_pos _
  | c0 s => exact ovN_lt rls_lt
  | c1 s t => exact ovN_lt rls_lt
  | c2 s t u => exact ovN_lt rls_lt
def rDn (mk : Sg) (rs : List DR) (_ : Hp) (t : Tr) (r : V) : Prop := r = .int (dnT mk rs t : Nat)
def okDn (sg : Sg) (t : Tr) : Prop := (∃ x, t = .nm x) ∨ ∃ s ∈ sg, s.1 = t.sym
theorem tab_but {D P : Addr} {q : Str} {H H' : Hp} (t : TabS H P q) (b : ButP D H H') (h : NoT (H D)) (n : P ≠ D) : TabS H' P q := by
  obtain ⟨ps, h1, h2, h3⟩ := t
  refine ⟨ps, b _ _ n h1, h2, fun pos cv e => ?_⟩
  obtain ⟨c, e1, e2⟩ := h3 pos cv e
  exact ⟨c, e1, but_ext b h _ _ e2⟩
def spMbr (K : PySem.W.Frag) (P : Addr) (q : Str) : Sp := fun vs H Q _ => ∃ (g p l : Addr) (v : V) (sg mk : Sg) (rs : List DR) (us : List V) (t : Tr), vs = [.ref g, .ref p, .ref l, v] ∧ SgAt K H g sg ∧ GSg sg ∧ SgAt K H p mk ∧ mk.length ≤ 6 ∧ (mk.map Prod.fst).Nodup ∧ H l = some (.lst us) ∧ DpAll K H us (rs.map fun r => rulD r.rul) ∧ (∀ r ∈ rs, DOk sg mk r) ∧ rs.length ≤ 1000 ∧
  TrAt K H t v ∧ t.size ≤ 100000 ∧ (∀ k ∈ pre t, okDn sg k) ∧ TabS H P q ∧ ∀ w H', ButP P H H' → TabS H' P q → SqT K H' w ((wordsN mk (dnT mk rs t)).map V.str) → Q (.ref w) H'
end Pg
namespace Pg
open PySem PySem.Spec PyProof.Rows L2 LamX
theorem dw_but {K : PySem.W.Frag} {H H' : Hp} {C o md D : Addr} {rss : List (List DEnt)} {kvs : List (List Key × V)} (d : DwAt K H C o md rss) (b : ButP D H H') (h : H D = some (.dT kvs)) : DwAt K H' C o md rss := by
  have kp : ∀ {c : Addr} {u : HO}, H c = some u → (∀ k, u ≠ .dT k) → H' c = some u := fun {c u} e ne => b _ _ (ne_of e h (fun z => ne _ z)) e
  have tk : TK K H H' := but_tk b ⟨_, h, (fun _ z => nomatch z), (fun _ _ z => nomatch z), (fun _ z => nomatch z)⟩
  obtain ⟨dx', rl, h1, hR⟩ := d.ex
  obtain ⟨ls, h2, h3⟩ := hR.ex
  exact ⟨dx', rl, kp h1 (fun _ z => nomatch z), ls, kp h2 (fun _ z => nomatch z), Paired.imp2 (fun l rs' ⟨vs, a1, a2⟩ => ⟨vs, kp a1 (fun _ z => nomatch z), Paired.imp2 (fun v e ⟨t', al, b1, b2, b3⟩ => by
    obtain ⟨qs, d1, d2⟩ := b3.ex
    exact ⟨t', al, b1, tk _ _ b2, qs, kp d1 (fun _ z => nomatch z), Paired.imp2 (fun _ _ q => tk _ _ q) d2⟩) a2⟩) h3⟩
theorem dns_of {mk : Sg} {rs : List DR} {H : Hp} : ∀ {rs' : List V} {ks : List Tr}, Paired (fun r k => rDn mk rs H k r) rs' ks → rs' = nsV (ks.map (dnT mk rs))
  | _, _, .nil => rfl
  | _, _, .cons a t => by
    rw [dns_of t, List.map_cons, a]
    rfl
end Pg

set_option Elab.async false
set_option linter.all false
set_option maxRecDepth 100000
set_option maxHeartbeats 4000000
namespace Pg
open PySem PySem.Spec PyProof.Rows L2
/-! ### the marks by the law's walk -/
def hsF (rs : List DR) (s : Str) (ps : List (Str → Bool)) (m : Str) : Bool := rs.any fun r => decide (r.m = m) && decide (r.s = s) && r.bd.all fun b => (ps.getD (r.ns.idxOf b.2.2) (fun _ => false)) b.2.1 == b.1
def hsT (rs : List DR) : Tr → Str → Bool
  | .nm _ => fun _ => false
  | .c0 s => hsF rs s []
  | .c1 s t => hsF rs s [hsT rs t]
  | .c2 s t u => hsF rs s [hsT rs t, hsT rs u]
theorem hsT_eq {rs : List DR} {t : Tr} (h : ∀ x, t ≠ .nm x) : hsT rs t = hsF rs t.sym (t.kids.map (hsT rs)) := by
  cases t with
  | nm x => exact absurd rfl (h x)
  | c0 s => rfl
  | c1 s t => rfl
  | c2 s t u => rfl
def msT (mk : Sg) (rs : List DR) (t : Tr) : List Str := (mk.map Prod.fst).filter (hsT rs t)
def BOk (mk : Sg) (b : Nat) (S : Str → Bool) : Prop := ∀ j s, mk[j]? = some s → b.testBit j = S s.1
theorem words_ok : ∀ {mk : Sg} {b : Nat} {S : Str → Bool}, BOk mk b S → wordsN mk b = (mk.map Prod.fst).filter S
  | [], _, _, _ => rfl
  | s :: mk, b, S, h => by
    have h0 := h 0 s rfl
    have hr : BOk mk (b / 2) S := fun j t e => by
      have := h (j + 1) t (by simpa using e)
      rw [Nat.testBit_succ] at this
      exact this
    rw [wordsN, words_ok hr, List.map_cons]
    rw [Nat.testBit_zero] at h0
    by_cases e : b % 2 = 1
    · rw [if_pos e, List.filter_cons_of_pos (by rw [← h0]; simpa using e)]
    · rw [if_neg e, List.filter_cons_of_neg (by rw [← h0]; simpa using e)]
theorem bits_test (ws : List Str) : ∀ (mk : Sg) (j : Nat), (bitsN mk ws).testBit j = (match mk[j]? with | some s => decide (s.1 ∈ ws) | none => false)
  | [], j => by simp [bitsN]
  | s :: mk, 0 => by
    rw [Nat.testBit_zero]
    unfold bitsN
    by_cases h : s.1 ∈ ws
    · rw [if_pos h]
      simp [h]
    · rw [if_neg h]
      simp [h]
  | s :: mk, j + 1 => by
    rw [Nat.testBit_succ]
    have e : bitsN (s :: mk) ws / 2 = bitsN mk ws := by
      show ((if s.1 ∈ ws then 1 else 0) + 2 * bitsN mk ws) / 2 = bitsN mk ws
      split <;> omega
    rw [e, bits_test ws mk j, List.getElem?_cons_succ]
theorem bit1 {mk : Sg} {m : Str} {j : Nat} : (bitsN mk [m]).testBit j = true ↔ ∃ s, mk[j]? = some s ∧ s.1 = m := by
  rw [bits_test]
  cases e : mk[j]? with
  | none => simp
  | some s => simp
theorem bit_one {mk : Sg} (nd : (mk.map Prod.fst).Nodup) {m : Str} {i j : Nat} (hi : (bitsN mk [m]).testBit i = true) (hj : (bitsN mk [m]).testBit j = true) : i = j := by
  obtain ⟨s, h1, h2⟩ := bit1.mp hi
  obtain ⟨t, h3, h4⟩ := bit1.mp hj
  have a : (mk.map Prod.fst)[i]? = some m := by rw [List.getElem?_map, h1, ← h2]; rfl
  have b : (mk.map Prod.fst)[j]? = some m := by rw [List.getElem?_map, h3, ← h4]; rfl
  exact (List.getElem?_inj (List.getElem?_eq_some_iff.mp a).1 nd).mp (a.trans b.symm)
/-- one more rule -/
theorem ovS_test {mk : Sg} (nd : (mk.map Prod.fst).Nodup) {ps : List Nat} {v : Nat} {m : Str} {as : Ask} (j : Nat) : (ovS ps v (bitsN mk [m], as)).testBit j = (v.testBit j || ((bitsN mk [m]).testBit j && aaaB ps as)) := by
  unfold ovS
  by_cases ha : aaaB ps as = true
  · by_cases h0 : v &&& bitsN mk [m] = 0
    · rw [if_pos ⟨h0, ha⟩, Nat.testBit_or, ha, Bool.and_true]
    · rw [if_neg (fun z => h0 z.1), ha, Bool.and_true]
      by_cases hb : (bitsN mk [m]).testBit j = true
      · obtain ⟨i, hi⟩ := Nat.exists_testBit_of_ne_zero h0
        rw [Nat.testBit_and, Bool.and_eq_true] at hi
        have := bit_one nd hi.2 hb
        subst this
        rw [hi.1, Bool.true_or]
      · have hb : (bitsN mk [m]).testBit j = false := by simpa using hb
        rw [hb, Bool.or_false]
  · have ha' : aaaB ps as = false := by simpa using ha
    rw [if_neg (fun z => ha z.2), ha', Bool.and_false, Bool.or_false]
theorem ovN_test {mk : Sg} (nd : (mk.map Prod.fst).Nodup) {ps : List Nat} {x : Str} (j : Nat) (rs : List DR) : (ovN (rlsOf mk rs x) ps).testBit j = rs.any fun r => decide (r.s = x) && ((bitsN mk [r.m]).testBit j && aaaB ps (entR mk r).2) := by
  unfold ovN rlsOf
  have go : ∀ (rs : List DR) (v : Nat), (((rs.filter fun r => decide (r.s = x)).map (entR mk)).foldl (ovS ps) v).testBit j = (v.testBit j || rs.any fun r => decide (r.s = x) && ((bitsN mk [r.m]).testBit j && aaaB ps (entR mk r).2)) := by
    intro rs
    induction rs with
    | nil => intro v; simp
    | cons r rs ih =>
      intro v
      by_cases e : r.s = x
      · rw [List.filter_cons_of_pos (by simpa using e), List.map_cons, List.foldl_cons, ih, List.any_cons, decide_eq_true e, Bool.true_and, ← Bool.or_assoc]
        congr 1
        exact ovS_test nd j
      · rw [List.filter_cons_of_neg (by simpa using e), ih, List.any_cons, decide_eq_false e, Bool.false_and, Bool.false_or]
  rw [go rs 0, Nat.zero_testBit, Bool.false_or]
theorem or_test {mk : Sg} {x : Str} {y : Bool} {j : Nat} (bd : List Lit) : (orN mk x y bd).testBit j = bd.any fun l => isStrD l.t x && (l.yes == y) && (bitsN mk [l.mw]).testBit j := by
  unfold orN
  have go : ∀ (bd : List Lit) (v : Nat), (bd.foldl (fun acc l => if isStrD l.t x && (l.yes == y) then acc ||| bitsN mk [l.mw] else acc) v).testBit j = (v.testBit j || bd.any fun l => isStrD l.t x && (l.yes == y) && (bitsN mk [l.mw]).testBit j) := by
    intro bd
    induction bd with
    | nil => intro v; simp
    | cons l bd ih =>
      intro v
      rw [List.foldl_cons, ih, List.any_cons]
      by_cases e : (isStrD l.t x && (l.yes == y)) = true
      · rw [if_pos e, e, Bool.true_and, Nat.testBit_or, Bool.or_assoc]
      · have e' : (isStrD l.t x && (l.yes == y)) = false := by simpa using e
        rw [if_neg e, e', Bool.false_and, Bool.false_or]
  rw [go bd 0, Nat.zero_testBit, Bool.false_or]
theorem lits_test {mk : Sg} {x : Str} {y : Bool} {j : Nat} {r : DR} : (orN mk x y r.lits).testBit j = true ↔ ∃ b ∈ r.bd, b.2.2 = x ∧ b.1 = y ∧ (bitsN mk [b.2.1]).testBit j = true := by
  rw [or_test, List.any_eq_true]
  unfold DR.lits
  constructor
  · rintro ⟨l, hl, e⟩
    obtain ⟨b, hb, rfl⟩ := List.mem_map.mp hl
    rw [Bool.and_eq_true, Bool.and_eq_true] at e
    refine ⟨b, hb, ?_, ?_, e.2⟩
    · have := e.1.1
      simpa [isStrD] using this
    · simpa using e.1.2
  · rintro ⟨b, hb, e1, e2, e3⟩
    refine ⟨_, List.mem_map.mpr ⟨b, hb, rfl⟩, ?_⟩
    rw [Bool.and_eq_true, Bool.and_eq_true]
    refine ⟨⟨?_, ?_⟩, e3⟩
    · simp [isStrD, e1]
    · simp [e2]
theorem and_eq_iff {a n : Nat} : a &&& n = n ↔ ∀ j, n.testBit j = true → a.testBit j = true := by
  constructor
  · intro h j hj
    rw [← h, Nat.testBit_and, Bool.and_eq_true] at hj
    exact hj.1
  · intro h
    apply Nat.eq_of_testBit_eq
    intro j
    rw [Nat.testBit_and]
    cases e : n.testBit j with
    | false => rw [Bool.and_false]
    | true => rw [h j e]; rfl
theorem and_zero_iff {a n : Nat} : a &&& n = 0 ↔ ∀ j, n.testBit j = true → a.testBit j = false := by
  constructor
  · intro h j hj
    have := congrArg (fun x => x.testBit j) h
    simp only [Nat.testBit_and, Nat.zero_testBit, hj, Bool.and_true] at this
    exact this
  · intro h
    apply Nat.eq_of_testBit_eq
    intro j
    rw [Nat.testBit_and, Nat.zero_testBit]
    cases e : n.testBit j with
    | false => rw [Bool.and_false]
    | true => rw [h j e]; rfl
/-- what is asked of the parts, said of their marks -/
theorem ask_ok {sg mk : Sg} {r : DR} {ps : List Nat} {Ss : List (Str → Bool)} (ok : DOk sg mk r) (hp : Paired (BOk mk) ps Ss) (hl : ps.length = r.ns.length) :
    aaaB ps (entR mk r).2 = r.bd.all fun b => (Ss.getD (r.ns.idxOf b.2.2) (fun _ => false)) b.2.1 == b.1 := by
  have key : ∀ (k : Nat) (b : Bool × Str × Str), b ∈ r.bd → r.ns[k]? = some b.2.2 → ∀ (a : Nat) (S : Str → Bool), ps[k]? = some a → Ss[k]? = some S → ∀ j, (bitsN mk [b.2.1]).testBit j = true → a.testBit j = S b.2.1 := by
    intro k b hb hk a S ha hS j hj
    obtain ⟨s, h1, h2⟩ := bit1.mp hj
    obtain ⟨S', e1, e2⟩ := Pg.paired_get hp ha
    rw [hS] at e1
    cases e1
    rw [e2 j s h1, h2]
  have someBit : ∀ b ∈ r.bd, ∃ j, (bitsN mk [b.2.1]).testBit j = true := by
    intro b hb
    obtain ⟨s, hs, e⟩ := List.mem_map.mp (ok.b b hb).1
    obtain ⟨j, hj, ej⟩ := List.getElem_of_mem hs
    exact ⟨j, bit1.mpr ⟨s, by rw [List.getElem?_eq_getElem hj, ej], e⟩⟩
  have hSl : Ss.length = r.ns.length := by rw [← paired_len hp, hl]
  rw [Bool.eq_iff_iff]
  unfold aaaB
  rw [List.all_eq_true, List.all_eq_true]
  constructor
  · intro h b hb
    have hm := (ok.b b hb).2
    have hlt : r.ns.idxOf b.2.2 < r.ns.length := List.idxOf_lt_length_of_mem hm
    have hk : r.ns[r.ns.idxOf b.2.2]? = some b.2.2 := by rw [List.getElem?_eq_getElem hlt, List.getElem_idxOf]
    generalize r.ns.idxOf b.2.2 = k at hlt hk ⊢
    obtain ⟨a, ea⟩ : ∃ a, ps[k]? = some a := ⟨_, List.getElem?_eq_getElem (by omega)⟩
    obtain ⟨S, eS⟩ : ∃ S, Ss[k]? = some S := ⟨_, List.getElem?_eq_getElem (by omega)⟩
    have hz := h (a, (orN mk b.2.2 true r.lits, orN mk b.2.2 false r.lits)) (by
      refine List.mem_of_getElem? (i := k) ?_
      rw [List.getElem?_zip_eq_some]
      refine ⟨ea, ?_⟩
      show (r.ns.map _)[k]? = _
      rw [List.getElem?_map, hk]
      rfl)
    unfold okZ at hz
    rw [Bool.and_eq_true, decide_eq_true_iff, decide_eq_true_iff] at hz
    rw [List.getD_eq_getElem?_getD, eS, Option.getD_some, beq_iff_eq]
    obtain ⟨j, hj⟩ := someBit b hb
    have hv := key k b hb hk a S ea eS j hj
    cases hy : b.1 with
    | true =>
      have := and_eq_iff.mp hz.1 j (lits_test.mpr ⟨b, hb, rfl, hy, hj⟩)
      rw [← hv, this]
    | false =>
      have := and_zero_iff.mp hz.2 j (lits_test.mpr ⟨b, hb, rfl, hy, hj⟩)
      rw [← hv, this]
  · intro h z hz
    obtain ⟨k, hk, ek⟩ := List.getElem_of_mem hz
    have ez : (ps.zip (entR mk r).2)[k]? = some z := by rw [List.getElem?_eq_getElem hk, ek]
    rw [List.getElem?_zip_eq_some] at ez
    obtain ⟨ea, eb⟩ := ez
    have eb : (r.ns.map fun x => (orN mk x true r.lits, orN mk x false r.lits))[k]? = some z.2 := eb
    rw [List.getElem?_map] at eb
    obtain ⟨x, ex⟩ : ∃ x, r.ns[k]? = some x := by
      cases e : r.ns[k]? with
      | none => rw [e] at eb; cases eb
      | some x => exact ⟨x, rfl⟩
    rw [ex] at eb
    have eb := (Option.some.inj eb).symm
    have hlt : k < r.ns.length := (List.getElem?_eq_some_iff.mp ex).1
    obtain ⟨S, eS⟩ : ∃ S, Ss[k]? = some S := ⟨_, List.getElem?_eq_getElem (by omega)⟩
    have ix : ∀ b : Bool × Str × Str, b.2.2 = x → r.ns.idxOf b.2.2 = k := fun b e => by
      rw [e]
      have hm := List.mem_of_getElem? ex
      have h1 := List.idxOf_lt_length_of_mem hm
      have h2 : r.ns[r.ns.idxOf x]? = some x := by rw [List.getElem?_eq_getElem h1, List.getElem_idxOf]
      exact (List.getElem?_inj h1 ok.nd).mp (h2.trans ex.symm)
    unfold okZ
    rw [Bool.and_eq_true, decide_eq_true_iff, decide_eq_true_iff, eb]
    constructor
    · refine and_eq_iff.mpr fun j hj => ?_
      obtain ⟨b, hb, e1, e2, e3⟩ := lits_test.mp hj
      have h1 := h b hb
      rw [ix b e1, List.getD_eq_getElem?_getD, eS, Option.getD_some, beq_iff_eq, e2] at h1
      rw [key k b hb (by rw [ex, e1]) z.1 S ea eS j e3, h1]
    · refine and_zero_iff.mpr fun j hj => ?_
      obtain ⟨b, hb, e1, e2, e3⟩ := lits_test.mp hj
      have h1 := h b hb
      rw [ix b e1, List.getD_eq_getElem?_getD, eS, Option.getD_some, beq_iff_eq, e2] at h1
      rw [key k b hb (by rw [ex, e1]) z.1 S ea eS j e3, h1]
/-- the world's marks are those of the walk -/
theorem dn_bits {sg mk : Sg} {rs : List DR} (nd : (mk.map Prod.fst).Nodup) (ok : ∀ r ∈ rs, DOk sg mk r) {s : Str} {ps : List Nat} {Ss : List (Str → Bool)} (hp : Paired (BOk mk) ps Ss) (hl : ∀ r ∈ rs, r.s = s → ps.length = r.ns.length) : BOk mk (ovN (rlsOf mk rs s) ps) (hsF rs s Ss) := by
  intro j m hm
  rw [ovN_test nd]
  unfold hsF
  have : ∀ r ∈ rs, (decide (r.s = s) && ((bitsN mk [r.m]).testBit j && aaaB ps (entR mk r).2)) = (decide (r.m = m.1) && decide (r.s = s) && r.bd.all fun b => (Ss.getD (r.ns.idxOf b.2.2) (fun _ => false)) b.2.1 == b.1) := by
    intro r hr
    by_cases e : r.s = s
    · rw [ask_ok (ok r hr) hp (hl r hr e), decide_eq_true e, Bool.true_and, Bool.and_true]
      congr 1
      rw [Bool.eq_iff_iff, bit1, decide_eq_true_iff]
      constructor
      · rintro ⟨t, h1, h2⟩
        rw [hm] at h1
        cases h1
        exact h2.symm
      · intro h
        exact ⟨m, hm, h.symm⟩
    · rw [decide_eq_false e, Bool.false_and, Bool.and_false, Bool.false_and]
  rw [Bool.eq_iff_iff, List.any_eq_true, List.any_eq_true]
  constructor
  · rintro ⟨r, hr, e⟩
    exact ⟨r, hr, by rw [← this r hr]; exact e⟩
  · rintro ⟨r, hr, e⟩
    exact ⟨r, hr, by rw [this r hr]; exact e⟩
/-- each sign has as many parts as it is to have -/
def WfT (sg : Sg) : Tr → Prop
  | .nm _ => False
  | .c0 s => (s, (0 : Int)) ∈ sg
  | .c1 s t => (s, (1 : Int)) ∈ sg ∧ WfT sg t
  | .c2 s t u => (s, (2 : Int)) ∈ sg ∧ WfT sg t ∧ WfT sg u
theorem ar_one {sg mk : Sg} (nd : (sg.map (·.1)).Nodup) {r : DR} (ok : DOk sg mk r) {s : Str} {k : Nat} (h : (s, (k : Int)) ∈ sg) (e : r.s = s) : k = r.ns.length := by
  have a := numB_in nd h
  have b := numB_in nd ok.s
  rw [e] at b
  rw [a] at b
  omega
theorem dnT_bits {sg mk : Sg} {rs : List DR} (nds : (sg.map (·.1)).Nodup) (nd : (mk.map Prod.fst).Nodup) (ok : ∀ r ∈ rs, DOk sg mk r) : ∀ {t : Tr}, WfT sg t → BOk mk (dnT mk rs t) (hsT rs t)
  | .c0 s, h => dn_bits nd ok .nil fun r hr e => ar_one (k := 0) nds (ok r hr) h e
  | .c1 s t, h => dn_bits nd ok (.cons (dnT_bits nds nd ok h.2) .nil) fun r hr e => ar_one (k := 1) nds (ok r hr) h.1 e
  | .c2 s t u, h => dn_bits nd ok (.cons (dnT_bits nds nd ok h.2.1) (.cons (dnT_bits nds nd ok h.2.2) .nil)) fun r hr e => ar_one (k := 2) nds (ok r hr) h.1 e
theorem dn_words {sg mk : Sg} {rs : List DR} (nds : (sg.map (·.1)).Nodup) (nd : (mk.map Prod.fst).Nodup) (ok : ∀ r ∈ rs, DOk sg mk r) {t : Tr} (h : WfT sg t) : wordsN mk (dnT mk rs t) = msT mk rs t := words_ok (dnT_bits nds nd ok h)
/-- the order of the rules is of no matter -/
theorem hsF_perm {rs rs' : List DR} (h : ∀ r, r ∈ rs ↔ r ∈ rs') (s : Str) (ps : List (Str → Bool)) : hsF rs s ps = hsF rs' s ps := by
  funext m
  unfold hsF
  rw [Bool.eq_iff_iff, List.any_eq_true, List.any_eq_true]
  exact ⟨fun ⟨r, hr, e⟩ => ⟨r, (h r).mp hr, e⟩, fun ⟨r, hr, e⟩ => ⟨r, (h r).mpr hr, e⟩⟩
theorem hsT_perm {rs rs' : List DR} (h : ∀ r, r ∈ rs ↔ r ∈ rs') : ∀ t : Tr, hsT rs t = hsT rs' t
  | .nm _ => rfl
  | .c0 s => hsF_perm h s _
  | .c1 s t => by rw [hsT, hsT, hsT_perm h t, hsF_perm h]
  | .c2 s t u => by rw [hsT, hsT, hsT_perm h t, hsT_perm h u, hsF_perm h]
theorem msT_perm {mk : Sg} {rs rs' : List DR} (h : ∀ r, r ∈ rs ↔ r ∈ rs') (t : Tr) : msT mk rs t = msT mk rs' t := by
  unfold msT
  rw [hsT_perm h]
end Pg

set_option Elab.async false
set_option linter.all false
set_option maxRecDepth 100000
set_option maxHeartbeats 4000000
namespace Pg
open PySem PySem.Spec PyProof.Rows L2
def spMby (K : PySem.W.Frag) (lvl : Nat) : Sp := fun vs H Q _ => ∃ (p l : Addr) (v : V) (sg mk : Sg) (rs : List DR) (us : List V) (t : Tr), vs = [.ref p, .ref l, v] ∧ (sg.map (·.1)).Nodup ∧ SgAt K H p mk ∧ mk.length ≤ 6 ∧ H l = some (.lst us) ∧ DpAll K H us (rs.map fun r => rulD r.rul) ∧ (∀ r ∈ rs, DOk sg mk r) ∧ rs.length ≤ 1000 ∧
  TrAt K H t v ∧ WfT sg t ∧ t.dep ≤ lvl ∧ ∀ w H', Same H H' → SqT K H' w ((msT mk rs t).map V.str) → Q (.ref w) H'
end Pg
namespace Pg
open PySem PySem.Spec PyProof.Rows L2
section
variable {K : PySem.W.Frag} {σ : L2.St} {H : Hp} {Q : VK} {p : Addr} {us : List V} {i a b c : Nat} {te : TE}
/-- [f(literal) for yes, mark, name in body] -/
theorem rd_lits {r : DR} (f : Bool × Str × Str → V) (hi : σ[i]? = some (some (.ref p))) (hS : SqT K H p us) (ha : DpAll K H us (r.lits.map litD)) (hlen : r.bd.length ≤ 1000)
    (hw : ∀ x y z, wipe ((((wipe σ [a, b, c]).set a (some x)).set b (some y)).set c (some z)) [a, b, c] = wipe σ [a, b, c])
    (ht : ∀ l H', l ∈ r.bd → Same H H' → ∀ Q' : VK, (∀ H2, Same H' H2 → Q' (f l) H2) → te ((((wipe σ [a, b, c]).set a (some (.bl l.1))).set b (some (.str l.2.1))).set c (some (.str l.2.2))) H' Q')
    (h : ∀ D H', H D = none → Same H H' → H' D = some (.lst (r.bd.map f)) → Q (.ref D) H') :
    tLc (iTup K (tVar i)) (gTup K 3 (gCons (gName a) (gCons (gName b) (gCons (gName c) gNil)))) tYes te [a, b, c] σ H Q := by
  have hul : us.length = r.bd.length := by have := dpAll_len ha; unfold DR.lits at this; rw [List.length_map, List.length_map] at this; exact this
  refine ⟨_, hi, p, rfl, ⟨_, hS⟩, fun D nD => lc_tup (K := K) (xs := us) (fun i H' => Same H H' ∧ H' D = some (.lst ((r.bd.take i).map f))) ⟨Same.new nD, upd_same⟩ (fun i H' _ iv => TK.same iv.1 _ _ hS) (fun i x H' hx iv => ?_) (fun H' iv => ?_)⟩
  · obtain ⟨sm, hd⟩ := iv
    have hlt := (List.getElem?_eq_some_iff.mp hx).1
    obtain ⟨l, el⟩ : ∃ l, r.bd[i]? = some l := ⟨_, List.getElem?_eq_getElem (by omega)⟩
    obtain ⟨d, ed, hdl⟩ := dpAll_at ha hx
    unfold DR.lits at ed
    rw [List.getElem?_map, List.getElem?_map, el] at ed
    obtain rfl := Option.some.inj ed
    have so : solid (litD ⟨l.1, l.2.1, .str l.2.2⟩) = true := by
      show solid (.tuple [.bool l.1, .str l.2.1, .str l.2.2]) = true
      rw [solid, solid.solidAll, solid.solidAll, solid.solidAll, solid.solidAll, solid, solid, solid]
      rfl
    have hdl2 := dp_so (TK.same (K := K) sm) _ _ so hdl
    cases hdl2 with
    | @tup pl ul _ hpl hal =>
    cases hal with
    | cons h1 hal =>
    cases hal with
    | cons h2 hal =>
    cases hal with
    | cons h3 hal =>
    cases hal
    cases h1
    cases h2
    cases h3
    refine ⟨pl, _, rfl, hpl, rfl, _, _, rfl, _, _, rfl, _, _, rfl, rfl, hw _ _ _, yes_turn ?_⟩
    refine ht l H' (List.mem_of_getElem? el) sm _ fun H2 s2 => ⟨_, s2 _ _ hd, ?_, Same.mut nD (sm.trans s2), ?_⟩
    · rw [List.length_map, List.length_take]; exact small1000 (by omega)
    · rw [upd_same, take_snoc el, List.map_append]; rfl
  · obtain ⟨sm, hd⟩ := iv
    rw [hul, List.take_length] at hd
    exact h D H' nD sm hd
end
/-- names for parts -/
def nmK (ns : List Str) (ws : List V) : List (Key × V) := (ns.zip ws).map fun z => ((Sum.inr z.1 : Key), z.2)
theorem nmK_snoc {ns : List Str} {ws : List V} {k : Nat} {x : Str} {v : V} (nd : ns.Nodup) (e1 : ns[k]? = some x) (e2 : ws[k]? = some v) : putK (nmK (ns.take k) (ws.take k)) (Sum.inr x) v = nmK (ns.take (k + 1)) (ws.take (k + 1)) := by
  have h1 := (List.getElem?_eq_some_iff.mp e1).1
  have h2 := (List.getElem?_eq_some_iff.mp e2).1
  rw [putK_new]
  · unfold nmK
    rw [take_snoc e1, take_snoc e2, List.zip_append (by rw [List.length_take, List.length_take]; omega), List.map_append]
    rfl
  · intro m
    unfold nmK at m
    rw [List.map_map] at m
    obtain ⟨z, hz, e⟩ := List.mem_map.mp m
    have e : z.1 = x := Sum.inr.inj e
    have hz1 : z.1 ∈ ns.take k := (List.of_mem_zip (a := z.1) (b := z.2) hz).1
    obtain ⟨j, hj, ej⟩ := List.getElem_of_mem hz1
    rw [List.length_take] at hj
    rw [List.getElem_take] at ej
    have a : ns[j]? = some x := by rw [List.getElem?_eq_getElem (by omega), ej, e]
    have := (List.getElem?_inj (by omega) nd).mp (a.trans e1.symm)
    omega
theorem nmK_val : ∀ {ns : List Str} {ws : List V} {x : Str}, ns.length = ws.length → x ∈ ns → valV (nmK ns ws) (Sum.inr x) = ws[ns.idxOf x]?
  | [], _, _, _, h => absurd h List.not_mem_nil
  | y :: ns, w :: ws, x, hl, h => by
    unfold nmK
    rw [List.zip_cons_cons, List.map_cons]
    by_cases e : y = x
    · subst e
      rw [valV_pos rfl]
      simp
    · rw [valV_neg (fun z => e (Sum.inr.inj z))]
      have hm : x ∈ ns := by
        rcases List.mem_cons.mp h with z | z
        · exact absurd z.symm e
        · exact z
      have ih := nmK_val (ws := ws) (by simpa using hl) hm
      unfold nmK at ih
      rw [ih, List.idxOf_cons]
      have : (y == x) = false := by simpa using e
      rw [this]
      rfl
/-- does the rule give its mark to a sign over these parts -/
def hlB (s : Str) (ps : List (Str → Bool)) (r : DR) : Bool := decide (r.s = s) && r.bd.all fun b => (ps.getD (r.ns.idxOf b.2.2) (fun _ => false)) b.2.1 == b.1
theorem hsF_mem {rs : List DR} {s : Str} {ps : List (Str → Bool)} {m : Str} : hsF rs s ps m = decide (m ∈ (rs.filter (hlB s ps)).map DR.m) := by
  unfold hsF
  rw [Bool.eq_iff_iff, List.any_eq_true, decide_eq_true_iff, List.mem_map]
  constructor
  · rintro ⟨r, hr, e⟩
    rw [Bool.and_assoc, Bool.and_eq_true, decide_eq_true_iff] at e
    exact ⟨r, List.mem_filter.mpr ⟨hr, e.2⟩, e.1⟩
  · rintro ⟨r, hr, e⟩
    obtain ⟨h1, h2⟩ := List.mem_filter.mp hr
    refine ⟨r, h1, ?_⟩
    rw [Bool.and_assoc, Bool.and_eq_true, decide_eq_true_iff]
    exact ⟨e, h2⟩
end Pg
namespace Pg
open PySem PySem.Spec PyProof.Rows L2
theorem wf_pl {sg : Sg} : ∀ {t : Tr}, WfT sg t → Pl t
  | .c0 _, _ => trivial
  | .c1 _ t, h => show Pl t from wf_pl h.2
  | .c2 _ t u, h => show Pl t ∧ Pl u from ⟨wf_pl h.2.1, wf_pl h.2.2⟩
theorem wf_kid {sg : Sg} {t k : Tr} (h : WfT sg t) (hk : k ∈ t.kids) : WfT sg k := by
  cases t with
  | nm x => exact h.elim
  | c0 s => cases hk
  | c1 s t => rw [List.mem_singleton.mp hk]; exact h.2
  | c2 s t u =>
    rcases List.mem_cons.mp hk with e | e
    · rw [e]; exact h.2.1
    · rw [List.mem_singleton.mp e]; exact h.2.2
theorem wf_ar {sg : Sg} {t : Tr} (h : WfT sg t) : (t.sym, ((t.kids.length : Nat) : Int)) ∈ sg := by
  cases t with
  | nm x => exact h.elim
  | c0 s => exact h
  | c1 s t => exact h.1
  | c2 s t u => exact h.1
theorem wf_no {sg : Sg} {t : Tr} (h : WfT sg t) (x : Str) : t ≠ .nm x := fun e => by rw [e] at h; exact h
theorem dep_kid {t k : Tr} {n : Nat} (h : t.dep ≤ n + 1) (hk : k ∈ t.kids) : k.dep ≤ n := by
  cases t with
  | nm x => cases hk
  | c0 s => cases hk
  | c1 s t =>
    rw [List.mem_singleton.mp hk]
    have h : 1 + t.dep ≤ n + 1 := h
    omega
  | c2 s t u =>
    have h : 1 + max t.dep u.dep ≤ n + 1 := h
    rcases List.mem_cons.mp hk with e | e
    · rw [e]; omega
    · rw [List.mem_singleton.mp e]; omega
theorem dep_pos (t : Tr) : 1 ≤ t.dep := by
  cases t with
  | nm x => exact Nat.le_refl _
  | c0 s => exact Nat.le_refl _
  | c1 s t => show 1 ≤ 1 + t.dep; omega
  | c2 s t u => show 1 ≤ 1 + max t.dep u.dep; omega
theorem in_msT {mk : Sg} {rs : List DR} {t : Tr} {x : Str} (h : x ∈ mk.map Prod.fst) : decide (x ∈ msT mk rs t) = hsT rs t x := by
  unfold msT
  rw [Bool.eq_iff_iff, decide_eq_true_iff, List.mem_filter]
  exact ⟨fun z => z.2, fun z => ⟨h, z⟩⟩
theorem msT_eq {mk : Sg} {rs : List DR} {t : Tr} (h : ∀ x, t ≠ .nm x) : (mk.filter fun s => decide (s.1 ∈ (rs.filter (hlB t.sym (t.kids.map (hsT rs)))).map DR.m)).map (fun s => V.str s.1) = (msT mk rs t).map V.str := by
  unfold msT
  rw [List.filter_map, List.map_map]
  have : ∀ s : Str × Int, decide (s.1 ∈ (rs.filter (hlB t.sym (t.kids.map (hsT rs)))).map DR.m) = (hsT rs t ∘ Prod.fst) s := fun s => by
    show _ = hsT rs t s.1
    rw [hsT_eq h, hsF_mem]
  rw [List.filter_congr fun s _ => this s]
  rfl
theorem hl_snoc {rs : List DR} {j : Nat} {r : DR} {s : Str} {ps : List (Str → Bool)} (h : rs[j]? = some r) : ((rs.take (j + 1)).filter (hlB s ps)).map DR.m = ((rs.take j).filter (hlB s ps)).map DR.m ++ (if hlB s ps r = true then [r.m] else []) := by
  rw [take_snoc h, List.filter_append, List.map_append]
  by_cases e : hlB s ps r = true
  · rw [if_pos e, filt1 (b := hlB s ps) e]; rfl
  · rw [if_neg e, filt0 (b := hlB s ps) (by simpa using e)]; rfl
end Pg
namespace Pg
open PySem PySem.Spec PyProof.Rows L2
theorem lits_solid (r : DR) : solid.solidAll (r.lits.map litD) = true := solidAll_of fun d hd => by
  obtain ⟨l, hl, rfl⟩ := List.mem_map.mp hd
  obtain ⟨b, _, rfl⟩ := List.mem_map.mp hl
  show solid (.tuple [.bool b.1, .str b.2.1, .str b.2.2]) = true
  rw [solid, solid.solidAll, solid.solidAll, solid.solidAll, solid.solidAll, solid, solid, solid]
  rfl
end Pg
namespace Pg
open PySem PySem.Spec PyProof.Rows L2 LamX
theorem wfT_of {sg : Sg} : ∀ {t : Tr}, Wf sg [] t → WfT sg t
  | .nm x, h => absurd (show x ∈ ([] : List Str) from h) List.not_mem_nil
  | .c0 s, h => h
  | .c1 s t, h => ⟨h.1, wfT_of h.2⟩
  | .c2 s t u, h => ⟨h.1, wfT_of h.2.1, wfT_of h.2.2⟩
theorem wf_pre {sg : Sg} : ∀ {t : Tr}, WfT sg t → ∀ k ∈ pre t, okDn sg k
  | .c0 s, h, k, hk => by
    rw [List.mem_singleton.mp hk]
    exact .inr ⟨_, h, rfl⟩
  | .c1 s t, h, k, hk => by
    rcases List.mem_cons.mp hk with e | e
    · rw [e]; exact .inr ⟨_, h.1, rfl⟩
    · exact wf_pre h.2 k e
  | .c2 s t u, h, k, hk => by
    rcases List.mem_cons.mp hk with e | e
    · rw [e]; exact .inr ⟨_, h.1, rfl⟩
    · rcases List.mem_append.mp e with e | e
      · exact wf_pre h.2.1 k e
      · exact wf_pre h.2.2 k e
theorem dep_size (t : Tr) : t.dep ≤ t.size := by
  induction t with
  | nm x => exact Nat.le_refl _
  | c0 s => exact Nat.le_refl _
  | c1 s t ih => show 1 + t.dep ≤ 1 + t.size; omega
  | c2 s t u ih1 ih2 => show 1 + max t.dep u.dep ≤ 1 + t.size + u.size; omega
def spLaw48 (K : PySem.W.Frag) (P : Addr) (q : Str) : Sp := fun vs H Q _ => ∃ (a : Addr) (ns : List Int), vs = [.ref a] ∧ SqL K H a (ns.map V.int) ∧ ns.length ≤ 63 ∧ TabS H P q ∧ ∀ H', Q (.bl true) H'
end Pg

set_option Elab.async false
set_option linter.all false
set_option maxRecDepth 100000
set_option maxHeartbeats 4000000
namespace Pg
open PySem PySem.Spec PyProof.Rows L2
/-! ### a class whose __init__ may raise -/
section
variable {X : Cx} {CX : CXT} {k : Nat} {f C : Addr} {fd : FuncData} {ps : List Str} {sp : Sp} {E : L2.St → XK} {x : Str} {p pos : Pos} {e : Expr} {es : List Expr} {t : TA}
/-- the object is made, its __init__ called; what that may raise hangs on the slots -/
def tMakeS (C : Addr) (sp : Sp) (E : L2.St → XK) (t : TA) : TE := fun σ H Q => t σ H fun vs H1 => ∀ x dx, H1 x = none → H1 dx = none → dx ≠ x →
  sp (.ref x :: vs) (upd (upd H1 dx (.own x)) x (.ins C dx [])) (fun v H2 => v = .non ∧ Q (.ref x) H2) (E σ)
/-- a class of the program whose __init__ may raise -/
structure MakX (P : Program) (w : World) (K : PySem.W.Frag) (mg : Str → Option Value) (base : Heap) (k : Nat) (x : Str) (C : Addr) (sp : Sp) : Prop where
  ex : ∃ (f : Addr) (fd : FuncData) (ps : List Str), Mk K C f ∧ FnOk P w K mg base (L2.CX P w) k f fd ps sp ∧ mg x = some (.ref C) ∧ Binds K fd ps []
theorem pe_makeX {j : Nat} {W : WX} (c : MakX X.prog X.w X.K X.mg X.base k x C sp) (hr : Room j X.A) (hk : k + 1 ≤ j) (hg : Gl X x) (tk : Takes X W) (ha : PA X (e :: es) t)
    (hdb : (x == ("__debug__" : Str)) = false := by decide) (he : starEach (e :: es) X.env = (false, eval e X.env) :: starEach es X.env := by rfl) (hpl : (backTo pos (starEach es X.env)).any (·.1) = false := by rfl) :
    PE X (.Call (.Name x p) (e :: es) [] pos) (tMakeS C sp (WE W) t) := by
  obtain ⟨f, fd, ps, M, F, hm, b⟩ := c.ex
  refine ⟨fun pins s σ H Q I h => ?_⟩
  refine wpAny_Call_Name_kw (ld_glob I hg hm ?_ hdb)
  refine PySem.W.callWith_K (h₀ := X.base) I.ok.mod.kin M.kp (thn (ha.run pos pins s σ H _ I h) fun us s1 ⟨vs, H1, I1, r, q⟩ => ⟨I1.kIn, ?_⟩) he hpl
  have room : Room (k + 1) X.A := hr.mono hk
  have fr1 := I1.hok.fresh (Nat.le_succ s1.heap.objs.size)
  have fr2 := I1.hok.fresh (Nat.le_refl s1.heap.objs.size)
  have J := Inv.made (C := C) I1
  have wish := q _ _ fr1 fr2 (Nat.ne_of_lt (Nat.lt_succ_self _))
  have rv : Vals (V.ref (s1.heap.objs.size + 1) :: vs) (Value.ref (s1.heap.objs.size + 1) :: us) := .cons rfl r
  have ln : (Value.ref (s1.heap.objs.size + 1) :: us).length = ps.length := rv.length.symm.trans (F.len _ _ _ _ wish)
  have bd := b _ (Value.ref (s1.heap.objs.size + 1) :: us) J.kIn (by rw [List.append_nil]; exact ln)
  rw [List.append_nil] at bd
  have runs := F.run _ X.stack _ _ ⟨Value.ref (s1.heap.objs.size + 1) :: us, []⟩ _ _ _ (WE W σ) (room.make C us []) (J.env0.make C us []) bd rv wish
  refine wpAny_call (make_map (f := f) I1.kIn M.makes M.init (beq_iff_eq.mp M.fn) (codeAny_mono runs fun res s2 hres => ?_))
  match res, hres with
  | .error u, hres => exact passAt tk σ _ _ _ u s2 J hres
  | .ok (.ret u), hres =>
    obtain ⟨v, H2, J2, rel, ev, q2⟩ := J.after hres
    subst ev
    exact ⟨rel, ⟨V.ref (s1.heap.objs.size + 1), H2, J2, rfl, q2⟩⟩
  | .ok .next, hres => exact hres.elim
  | .ok .brk, hres => exact hres.elim
  | .ok .cont, hres => exact hres.elim
end
section
variable {P : Program} {w : World} {K : PySem.W.Frag} {mg : Str → Option Value} {base : Heap} {f C : Addr} {fd : FuncData} {N ps : List Str} {k : Nat} {sp : Sp} {st : Stmt} {x y q : Str}
theorem mk_makX (M : Mk K C f) (hm : mg x = some (.ref C)) (F : FunD K "__init__" q (defArgs st) (defBody st) (defScope st) [] [] f fd) (S : FnScope N ps (defScope st))
    (hb : ∀ (kV doc pm : Value) (an : Option Addr) (cdv ct : Value) (us : List Value), us.length = ps.length → bindArgs (PySem.W.fnOf "__init__" q (defArgs st) (defBody st) (defScope st) .none kV doc pm an cdv ct) ⟨us, []⟩ = pure (ps.zip us))
    (len : ∀ vs H Q E, sp vs H Q E → vs.length = ps.length)
    (body : ∀ (cdv : Value) (A : Around) (outer : List Env) (s : Shared) (H : Hp) (vs : List V) (Q : VK) (E : XK), Room k (A.deeper (envOfC q (defScope st) s.heap.objs.size f cdv)) → sp vs H Q E →
      ∃ t, PSs (cxOf (L2.CX P w) P w K mg base N q (defScope st) f cdv A outer s H E) (defBody st) t ∧ t { nx := fun _ H' => Q .non H', rt := Q } (start N vs) H) : MakX P w K mg base (k + 1) x C sp :=
  ⟨f, fd, ps, M, F.ok S len body, hm, F.bindsN hb⟩
/-- a def under another name -/
theorem mk_calXA (F : FnP K x st f fd) (hm : mg y = some (.ref f)) (S : FnScope N ps (defScope st))
    (hb : ∀ (kV doc pm : Value) (an : Option Addr) (cdv ct : Value) (us : List Value), us.length = ps.length → bindArgs (PySem.W.fnOf x x (defArgs st) (defBody st) (defScope st) .none kV doc pm an cdv ct) ⟨us, []⟩ = pure (ps.zip us))
    (len : ∀ vs H Q E, sp vs H Q E → vs.length = ps.length)
    (body : ∀ (cdv : Value) (A : Around) (outer : List Env) (s : Shared) (H : Hp) (vs : List V) (Q : VK) (E : XK), Room k (A.deeper (envOfC x (defScope st) s.heap.objs.size f cdv)) → sp vs H Q E →
      ∃ t, PSs (cxOf (L2.CX P w) P w K mg base N x (defScope st) f cdv A outer s H E) (defBody st) t ∧ t { nx := fun _ H' => Q .non H', rt := Q } (start N vs) H) : CalX P w K mg base (k + 1) y sp :=
  ⟨f, fd, ps, F.ok S len body, hm, F.kp, F.bindsN hb⟩
end
/-! ### several except clauses with names -/
section
variable {X : Cx} {pins : List (Addr × Obj)} {σ : L2.St} {H : Hp} {a : Addr} {B : Heap} {cls : Value} {d : Option Addr} {sI s : Shared}
/-- the exception at a has come down to the clauses of X; sI is the state without it -/
structure Down (X : Cx) (pins : List (Addr × Obj)) (σ : L2.St) (H : Hp) (a : Addr) (B : Heap) (cls : Value) (d : Option Addr) (sI s : Shared) : Prop where
  inv : Inv X pins σ H sI
  nb : ∀ b o, sI.heap.get? b = some o → b ∉ frs X.stack → B.get? b = some o
  up : sI.heap.UpToSlots s.heap
  fly : HandSPX.FlyingZ B X.stack a (Zc cls d) s.heap
  na : H a = none
  os : s.os = sI.os
  ag : AllBare s.gens
theorem Down.here (x : Down X pins σ H a B cls d sI s) : Inv X pins σ H s := x.inv.landed x.nb x.fly.1 x.up x.os x.ag
/-- in the suite of a clause -/
theorem Down.suite (x : Down X pins σ H a B cls d sI s) (hs : X.stack = X.env :: X.outer) (hf : X.env.frame = some X.env.locals) :
    ∃ oe, s.heap.get? a = some oe ∧ Zc cls d oe ∧ (∃ vs, oe.data = .fields vs) ∧ Inv (X.suite a ((a, oe) :: (X.pn ++ pins))) [] σ H s := by
  obtain ⟨oe, vs, he, hz, hd⟩ := x.fly.there
  have away : ∀ L, L ∈ frs X.stack → a ≠ L := fun L hL z => by
    obtain ⟨_, o', e', hnf⟩ := x.fly.2.2.1.mem (z.symm ▸ hL : a ∈ frs X.stack)
    rw [he] at e'
    cases e'
    exact hnf _ hd
  refine ⟨oe, he, hz, ⟨vs, hd⟩, x.here.suite he hd x.na (away _ ?_) fun hm => ?_⟩
  · rw [hs]
    exact List.mem_filterMap.mpr ⟨X.env, List.mem_cons_self, by rw [hf]⟩
  · obtain ⟨e, h1, h2⟩ := List.mem_filterMap.mp hm
    exact away a (by rw [hs]; exact List.mem_filterMap.mpr ⟨e, List.mem_cons_of_mem _ h1, h2⟩) rfl
/-- a clause «except x as n» whose slot is i -/
structure Cl where
  c : Value
  i : Nat
  ts : Addr → Value → Option Addr → TS
/-- what the clauses wish of an exception of the body, one after the other -/
def wAsM (K : PySem.W.Frag) (Wout : WX) (D : Ends) : List Cl → WX
  | [] => Wout
  | z :: r => wAs K z.c z.i z.ts (wAsM K Wout D r) D
inductive ClsOk (X : Cx) : List ExceptHandler → List Cl → Prop
  | nil : ClsOk X [] []
  | cons {x n : Str} {c : Value} {i : Nat} {ts : Addr → Value → Option Addr → TS} {b₀ : Stmt} {suite : List Stmt} {np pos' : Pos} {hds : List ExceptHandler} {l : List Cl} (hc : Names X x c) (hi : X.N[i]? = some n) (hln : X.env.kindOf n = some .local)
      (hsu : ∀ (a : Addr) (oe : Obj) (cls : Value) (d : Option Addr) (pn : List (Addr × Obj)), Zc cls d oe → (∃ vs, oe.data = .fields vs) → PSs (X.suite a ((a, oe) :: pn)) (b₀ :: suite) (ts a cls d)) (r : ClsOk X hds l) :
      ClsOk X (.ExceptHandler (some (.Name x np)) (some n) (b₀ :: suite) pos' :: hds) (⟨c, i, ts⟩ :: l)
theorem Down.handle {hds : List ExceptHandler} {l : List Cl} {Wout : WX} {D : Ends} (hs : X.stack = X.env :: X.outer) (hf : X.env.frame = some X.env.locals) (hN : X.N.Nodup) (tk : Takes X Wout) (h : ClsOk X hds l) :
    Down X pins σ H a B cls d sI s → wAsM X.K Wout D l cls d σ H → wpAny (model X.prog X.w) X.A (handleBy (.ref a) X.env hds) (SP X pins D) X.xe s := by
  intro x wi
  have ok := x.inv.ok
  induction h with
  | nil =>
    refine wpAny_handleBy_nil ?_
    have fl := x.fly
    obtain ⟨_, _, _, oe, vs, T, _, _, he, _, hd, h1, _⟩ := id fl
    have last : wpAny (model X.prog X.w) X.A (setFlight (.ref a) X.env.frame) (fun _ s4 => wpAny (model X.prog X.w) X.A (throw (.ref a) : Sem Flow) (SP X pins D) X.xe s4) X.xe s := by
      rw [hf]
      refine HandSPX.setFlight_upZ fl fun h4 held up4 => wpAny_throw (tk _ _ ⟨a, B, sI, pins, σ, H, cls, d, rfl, x.inv, x.nb, x.up.trans up4, .inr (.inr held), x.na, x.os, x.ag, wi⟩)
    unfold PySem.passOn
    refine wpAny_bind (wpAny_field he hd h1 ?_)
    rw [if_neg (show ¬ ((Value.ref T == Value.none) = true) from by simp)]
    first
      | exact wpAny_bind (wpAny_pure (wpAny_bind last))
      | exact wpAny_bind last
  | @cons y n c i ts b₀ suite np pos' hds l hc hi hln hsu _ ih =>
    obtain ⟨b, known, hyes, hno⟩ := wi
    obtain ⟨oe, he, hz, _, S⟩ := x.suite hs hf
    refine wpAny_handleBy_cons (codeAny_handlers_test ?_) (by intro q; cases q)
    have is : PySem.W.Looks (model X.prog X.w) s.heap (typeOf (.ref a)) cls := fun A Q E s k q => wpAny_typeOf_ref (k _ _ he) (by rw [hz.1]; exact q)
    have answer := PySem.W.exm_one (M := model X.prog X.w) x.here.kIn is known
    have name : ∀ {Q : Value → Shared → Prop} {E : Value → Shared → Prop}, Q c s → wpAny (model X.prog X.w) (X.A.mark (some (.ref a))) (eval (.Name y np) X.env) Q E s := fun {Q E} q => by
      obtain ⟨hg, hdbg, hm | ⟨hm, hv, hnn⟩⟩ := hc
      · exact ld_glob (X := X.suite a ((a, oe) :: (X.pn ++ pins))) S hg hm q hdbg
      · exact ld_blt (X := X.suite a ((a, oe) :: (X.pn ++ pins))) S hg hm hv q hnn hdbg
    refine name (answer.here ?_)
    cases b with
    | false => exact ih (hno rfl)
    | true =>
      refine codeAny_handlers_suite_as ?_
      refine HandSPX.lands_againZ x.fly fun h4 fl4 up4 => ?_
      have x4 : Down X pins σ H a B cls d sI { s with heap := h4 } := ⟨x.inv, x.nb, x.up.trans up4, fl4, x.na, x.os, x.ag⟩
      obtain ⟨oe4, he4, hz4, hd4, S4⟩ := x4.suite hs hf
      refine store_ok (X := X.suite a ((a, oe4) :: (X.pn ++ pins))) (v := .ref a) S4 hN hi (.inl hln) rfl (fun s5 S5 => ?_) (.inr hln)
      refine wpAny_mono ((hsu a oe4 cls d (X.pn ++ pins) hz4 hd4).run [] s5 _ H _ S5 (hyes rfl a x.na)) (fun f s6 ends => ?_) (fun _ _ z => z.elim)
      have goes : ∀ {σ6 : L2.St} {H6 : Hp} {Q : Shared → Prop}, Inv (X.suite a ((a, oe4) :: (X.pn ++ pins))) [] σ6 H6 s6 → (∀ s7, Inv X pins (σ6.set i none) H6 s7 → Q s7) →
          wpAny (model X.prog X.w) X.A (do bindName X.env n .none; unbindBehindTheSuite X.env n pos') (fun _ s7 => Q s7) X.xe s6 := fun {σ6 H6 Q} S6 hq => gone_ok (S6.unsuite ok) hN hi hln hq
      match f, ends with
      | .next, ⟨σ6, H6, S6, q6⟩ => exact goes S6 fun s7 J7 => ⟨_, _, J7, q6⟩
      | .brk, ⟨σ6, H6, S6, q6⟩ => exact goes S6 fun s7 J7 => ⟨_, _, J7, q6⟩
      | .cont, ⟨σ6, H6, S6, q6⟩ => exact goes S6 fun s7 J7 => ⟨_, _, J7, q6⟩
      | .ret u, ⟨v6, σ6, H6, S6, r6, q6⟩ => exact goes S6 fun s7 J7 => ⟨_, _, _, J7, r6, q6⟩
theorem ps_try_asM {body : List Stmt} {h₀ : ExceptHandler} {hds : List ExceptHandler} {l : List Cl} {pos : Pos} {tb : WX → TS} {Wout : WX} (hs : X.stack = X.env :: X.outer) (hf : X.env.frame = some X.env.locals) (hN : X.N.Nodup) (tk : Takes X Wout)
    (hb : ∀ (W : WX) (pn : List (Addr × Obj)) (xe : Value → Shared → Prop), Takes (X.tr pn xe) W → PassesOwn (model X.prog X.w) X.A X.env xe → PSs (X.tr pn xe) body (tb W))
    (hh : ClsOk X (h₀ :: hds) l) : PS X (.Try body (h₀ :: hds) [] [] pos) (fun D σ H => tb (wAsM X.K Wout D l) D σ H) := by
  refine ⟨fun pins s σ H D I h => ?_⟩
  have ok := I.ok
  have hfr : X.A.frames = some (X.env :: X.outer) := by rw [ok.frames, hs]
  refine wpAny_Try_except ?_
  have tkb : Takes (X.tr (X.pn ++ pins) (fun e s₁ => wpAny (model X.prog X.w) X.A (noteFrame e X.env) (fun _ s₂ => wpAny (model X.prog X.w) X.A (setFlight e none) (fun _ s₃ =>
      wpAny (model X.prog X.w) X.A (handleBy e X.env (h₀ :: hds)) (SP X pins D) X.xe s₃) X.xe s₂) X.xe s₁)) (wAsM X.K Wout D l) := by
    rintro u s' ⟨a, B, sI, pins', σ', H', cls, d, rfl, J, nb, up, sky, na, os, ag, wi⟩
    refine Sky.land Zc.steady hfr hf (by rw [← hs]; exact sky) fun h3 fl3 up3 => ?_
    exact Down.handle hs hf hN tk hh ⟨J.ofTry ok, nb, up.trans up3, by rw [hs]; exact fl3, na, os, ag⟩ wi
  refine wpAny_mono ((hb _ _ _ tkb PassesOwn.looking).run [] s σ H D (I.toTry _) h) (fun f s1 ends => ?_) (fun e s1 he => he)
  match f, ends with
  | .next, ⟨σ', H', J, q⟩ => exact wpAny_execs_nil ⟨σ', H', J.ofTry ok, q⟩
  | .brk, ⟨σ', H', J, q⟩ => exact ⟨σ', H', J.ofTry ok, q⟩
  | .cont, ⟨σ', H', J, q⟩ => exact ⟨σ', H', J.ofTry ok, q⟩
  | .ret u, ⟨v, σ', H', J, r, q⟩ => exact ⟨v, σ', H', J.ofTry ok, r, q⟩
end
end Pg
namespace Pg
open PySem PySem.Spec PyProof.Rows L2
/-! ### data in a tuple -/
section
variable {X : Cx}
def rInT (K : PySem.W.Frag) : R2 := fun x y H Q => ∃ d ds, Dp K H x d ∧ Dp K H y (.tuple ds) ∧ SeqAt.shaped d = true ∧ SeqAt.shaped (.tuple ds) = true ∧ Q (.bl (ds.any fun z => PyData.eqv z d)) H
theorem op_inT (hu : X.A.units + 65 < cLine) : OpR X (compareOp .In) (rInT X.K) := by
  rintro pins s σ H x y v u Q I rx ry ⟨d, ds, hd, he, sd, se, q⟩
  obtain ⟨as, r1⟩ := Dp.reads I d x v hd rx
  obtain ⟨bs, r2⟩ := Dp.reads I (.tuple ds) y u he ry
  exact SeqAt.in_tuple_reads r2 r1 (SeqAt.canLay_of_shaped se) (SeqAt.canLay_of_shaped sd) (room_in_shaped sd hu) ⟨.bl _, H, I, rfl, q⟩
end
end Pg

set_option Elab.async false
set_option linter.all false
set_option maxRecDepth 100000
set_option maxHeartbeats 4000000
namespace Pg
open PySem PySem.Spec PyProof.Rows L2
/-! ### positions of games -/
def topW (w : List Str) : Str := w.headD "bottom"
def goalB (g : Gm) (x t : Str) : Bool := decide ((x, false) ∈ g.go) || (decide (t = "bottom") && decide ((x, true) ∈ g.go))
def optB (g : Gm) (x t : Str) : List Nat := if goalB g x t then [] else mvIx g.mv x t
def inSt (g : Gm) (x : Str) : Prop := x ∈ g.st.map (·.1)
def okW (g : Gm) (w : List Str) : Prop := w.length ≤ 99 ∧ ∀ l ∈ w, l ∈ g.le
structure PosA (K : PySem.W.Frag) (H : Hp) (p q : Addr) (g : Gm) (w : List Str) : Prop where
  d : Dp K H (.ref p) (gmD g)
  s : SqT K H q (w.map V.str)
  g : GGm g
  l : w.length ≤ 1000
theorem PosA.same {K : PySem.W.Frag} {H H' : Hp} {p q : Addr} {g : Gm} {w : List Str} (x : PosA K H p q g w) (s : TK K H H') : PosA K H' p q g w :=
  ⟨dp_so s _ _ (gm_solid g) x.d, s _ _ x.s, x.g, x.l⟩
/-- the program's word on a position: who asks, what is answered -/
def spPosR (K : PySem.W.Frag) (N M : Addr) (R : Gm → Str → List Str → Hp → VK → Prop) : Sp := fun vs H Q E => ∃ (p q : Addr) (g : Gm) (x : Str) (w : List Str), vs = [.ref p, .str x, .ref q] ∧ PosA K H p q g w ∧
  (inSt g x → okW g w → R g x w H Q) ∧ (¬ inSt g x → ∀ H', Same H H' → E (.ref M) none H') ∧ (inSt g x → ¬ okW g w → ∀ H', Same H H' → E (.ref N) none H')
def rChk (_ : Gm) (_ : Str) (_ : List Str) (H : Hp) (Q : VK) : Prop := ∀ H', Same H H' → Q .non H'
def rOpt (g : Gm) (x : Str) (w : List Str) (H : Hp) (Q : VK) : Prop := ∀ r H', H r = none → Same H H' → H' r = some (.lst ((optB g x (topW w)).map fun k => .int (k : Nat))) → Q (.ref r) H'
def rAtg (g : Gm) (x : Str) (w : List Str) (H : Hp) (Q : VK) : Prop := ∀ H', Same H H' → Q (.bl (goalB g x (topW w))) H'
/-- only asked where it raises -/
def rBad (_ : Gm) (_ : Str) (_ : List Str) (_ : Hp) (_ : VK) : Prop := False
def spPln (K : PySem.W.Frag) (N M : Addr) : Sp := fun vs H Q E => ∃ (o : Addr) (us : List V), vs = .ref o :: us ∧ spPosR K N M rBad us H Q E
def spCst (K : PySem.W.Frag) (M : Addr) : Sp := fun vs H Q E => ∃ (p : Addr) (g : Gm) (x : Str), vs = [.ref p, .str x] ∧ Dp K H (.ref p) (gmD g) ∧ GGm g ∧ (inSt g x → ∀ H', Same H H' → Q .non H') ∧ (¬ inSt g x → ∀ H', Same H H' → E (.ref M) none H')
def spWng (K : PySem.W.Frag) (M : Addr) : Sp := fun vs H Q E => ∃ (p : Addr) (g : Gm) (x : Str), vs = [.ref p, .str x] ∧ Dp K H (.ref p) (gmD g) ∧ GGm g ∧ ¬ inSt g x ∧ ∀ H', Same H H' → E (.ref M) none H'
def spOpa (K : PySem.W.Frag) : Sp := fun vs H Q _ => ∃ (p : Addr) (g : Gm) (x t : Str), vs = [.ref p, .str x, .str t] ∧ Dp K H (.ref p) (gmD g) ∧ GGm g ∧ isW x = true ∧ ∀ r H', H r = none → Same H H' → H' r = some (.lst ((optB g x t).map fun k => .int (k : Nat))) → Q (.ref r) H'
def spIsg (K : PySem.W.Frag) : Sp := fun vs H Q _ => ∃ (p : Addr) (g : Gm) (x t : Str), vs = [.ref p, .str x, .str t] ∧ Dp K H (.ref p) (gmD g) ∧ GGm g ∧ isW x = true ∧ ∀ H', Same H H' → Q (.bl (goalB g x t)) H'
/-- the law's own -/
def spLag (K : PySem.W.Frag) : Sp := fun vs H Q _ => ∃ (p q : Addr) (g : Gm) (x : Str) (w : List Str), vs = [.ref p, .str x, .ref q] ∧ PosA K H p q g w ∧ isW x = true ∧ (∀ l ∈ w, l ∈ g.le) ∧ ∀ H', Same H H' → Q (.bl (goalB g x (topW w))) H'
def spLop (K : PySem.W.Frag) : Sp := fun vs H Q _ => ∃ (p q : Addr) (g : Gm) (x : Str) (w : List Str), vs = [.ref p, .str x, .ref q] ∧ PosA K H p q g w ∧ isW x = true ∧ (∀ l ∈ w, l ∈ g.le) ∧ rOpt g x w H Q
def spLcl (K : PySem.W.Frag) : Sp := fun vs H Q _ => ∃ (p q : Addr) (g : Gm) (x : Str) (w : List Str) (kind : Int), vs = [.ref p, .str x, .ref q, .int kind] ∧ PosA K H p q g w ∧ 0 ≤ kind ∧ kind ≤ 4 ∧ (kind = 4 → ¬ inSt g x) ∧ (2 ≤ kind → inSt g x → okW g w → False) ∧
  (¬ inSt g x → ∀ H', Same H H' → Q (.str "missing") H') ∧ (inSt g x → ¬ okW g w → ∀ H', Same H H' → Q (.str "allowed") H') ∧ (inSt g x → okW g w → ∀ H', Same H H' → Q (.str "none") H')
/-- what the law asks of the classes of errors -/
structure Ex62 (K : PySem.W.Frag) (mg : Str → Option Value) (N T M BP Pe : Addr) : Prop where
  gN : mg "NotAllowed" = some (.ref N)
  gT : mg "TooLarge" = some (.ref T)
  gM : mg "Missing" = some (.ref M)
  gB : mg "BadPaper" = some (.ref BP)
  gP : mg "PergolaError" = some (.ref Pe)
  eM : PySem.W.exmOne K (.ref M) (.ref M) = some true
  eNM : PySem.W.exmOne K (.ref N) (.ref M) = some false
  eN : PySem.W.exmOne K (.ref N) (.ref N) = some true
  cM : ExcC K M
  cN : ExcC K N
  iM : PySem.W.kitOne K (.ref M) (.ref Pe) = some true
  iN : PySem.W.kitOne K (.ref N) (.ref Pe) = some true
  aM : PySem.W.kitAny K (.ref M) [.ref N, .ref T, .ref BP] = some false
  aN : PySem.W.kitAny K (.ref N) [.ref M, .ref T, .ref BP] = some false
end Pg
namespace Pg
open PySem PySem.Spec PyProof.Rows L2
theorem sg_of {K : PySem.W.Frag} {H : Hp} {v : V} {st : Sg} (hd : Dp K H v (.tuple (st.map stD))) : ∃ p, v = .ref p ∧ SgAt K H p st := by
  cases hd with
  | @tup p xs _ hq hx =>
  obtain ⟨rs, e, pr⟩ := prs_sg (g := id) (prs_of hx)
  rw [List.map_id] at pr
  exact ⟨p, rfl, rs, by rw [← e]; exact hq, pr⟩
/-- a game in the heap, taken apart -/
theorem gm_at {K : PySem.W.Frag} {H : Hp} {p : Addr} {g : Gm} (h : Dp K H (.ref p) (gmD g)) : ∃ ps pl pm pg, SqT K H p [.ref ps, .ref pl, .ref pm, .ref pg] ∧ SgAt K H ps g.st ∧ SqT K H pl (g.le.map V.str) ∧ Dp K H (.ref pm) (.tuple (g.mv.map mvD)) ∧ Dp K H (.ref pg) (.tuple (g.go.map goD)) ∧ Dp K H (.ref ps) (.tuple (g.st.map stD)) := by
  cases h with
  | @tup _ us _ hq ha =>
  cases ha with
  | @cons v1 _ _ _ h1 ha =>
  cases ha with
  | @cons v2 _ _ _ h2 ha =>
  cases ha with
  | @cons v3 _ _ _ h3 ha =>
  cases ha with
  | @cons v4 _ _ _ h4 ha =>
  cases ha
  obtain ⟨ps, rfl, hs⟩ := sg_of h1
  cases h2 with
  | @tup pl ul _ hql hal =>
  have e := strs_of hal
  subst e
  obtain ⟨pm, rfl⟩ : ∃ pm, v3 = .ref pm := by cases h3; exact ⟨_, rfl⟩
  obtain ⟨pg, rfl⟩ : ∃ pg, v4 = .ref pg := by cases h4; exact ⟨_, rfl⟩
  exact ⟨ps, pl, pm, pg, hq, hs, hql, h3, h4, h1⟩
section
variable {K : PySem.W.Frag} {σ : L2.St} {H : Hp} {Q : VK} {j : Nat} {tt : TT} {te : TE}
/-- [k for k in range(n) if ..], the test may make things -/
theorem rd_rngIfS {n : Nat} {wi : TI} (b : Nat → Bool) (hwi : ∀ R, R (Itr 0 n) H → wi σ H R) (hn : n ≤ 1000) (hw : ∀ x, wipe ((wipe σ [j]).set j (some x)) [j] = wipe σ [j])
    (hv : ∀ x, ((wipe σ [j]).set j (some x))[j]? = some (some x))
    (ht : ∀ i H', i < n → Same H H' → ∀ Q' : Bool → Hp → Prop, (∀ H2, Same H' H2 → Q' (b i) H2) → tt ((wipe σ [j]).set j (some (.int (i : Nat)))) H' Q')
    (h : ∀ D H', H D = none → Same H H' → H' D = some (.lst (cv ((List.range n).filter b))) → Q (.ref D) H') : tLc wi (gName j) tt (tVar j) [j] σ H Q := by
  refine hwi _ (fun D nD => lc_range (lo := 0) (fun i H' => Same H H' ∧ H' D = some (.lst (cv ((List.range i).filter b)))) ⟨Same.new nD, upd_same⟩ (fun i H' hi iv => ?_) (fun H' iv => h D H' nD iv.1 iv.2))
  obtain ⟨sm, hd⟩ := iv
  rw [Int.zero_add]
  refine ⟨hw _, ht i H' hi sm _ fun H2 s2 => (if_of (fun e => ?_) fun e => ?_)⟩
  · refine ⟨_, hv _, _, s2 _ _ hd, ?_, Same.mut nD (sm.trans s2), ?_⟩
    · show (List.map _ _).length < sizeLine
      have := List.length_filter_le b (List.range i)
      rw [List.length_range] at this
      rw [List.length_map]
      exact smallN (by omega)
    · rw [upd_same, List.range_succ, List.filter_append]
      have : [i].filter b = [i] := by rw [List.filter_cons_of_pos e]; rfl
      rw [this]
      show _ = some (HO.lst ((_ ++ [i]).map _))
      rw [List.map_append]
      rfl
  · refine ⟨sm.trans s2, ?_⟩
    rw [s2 _ _ hd, List.range_succ, List.filter_append]
    have : [i].filter b = [] := by rw [List.filter_cons_of_neg (by rw [e]; decide)]; rfl
    rw [this, List.append_nil]
end
/-- a goal is found among the goals -/
theorem go_any {go : List (Str × Bool)} {x : Str} {b : Bool} : ((go.map goD).any fun z => PyData.eqv z (.tuple [.str x, .bool b])) = decide ((x, b) ∈ go) := by
  induction go with
  | nil => rfl
  | cons y go ih =>
    rw [List.map_cons, List.any_cons, ih, PyData.eqv, PyData.eqvAll, PyData.eqvAll, PyData.eqvAll, PyData.eqv, PyData.eqv, Bool.and_true, Bool.eq_iff_iff, Bool.or_eq_true, Bool.and_eq_true, beq_iff_eq, beq_iff_eq, decide_eq_true_iff, decide_eq_true_iff, List.mem_cons]
    constructor
    · rintro (⟨h1, h2⟩ | h)
      · exact .inl (by rw [← h1, ← h2])
      · exact .inr h
    · rintro (h | h)
      · rw [← h]; exact .inl ⟨rfl, rfl⟩
      · exact .inr h
theorem go_layA {g : Gm} (gg : GGm g) : SeqAt.shaped (.tuple (g.go.map goD)) = true := (LayN.tup (n := 1) (.map fun x hx => go_lay (gg.w.isw (List.mem_append_left _ (gg.g x hx))))).sh (by decide)
theorem inSt_isw {g : Gm} (gg : GGm g) {x : Str} (h : inSt g x) : isW x = true := gg.w.isw (List.mem_append_left _ h)
end Pg
namespace Pg
open PySem PySem.Spec PyProof.Rows L2
theorem opt_bottom {g : Gm} (gg : GGm g) (x : Str) : optB g x "bottom" = [] := by
  unfold optB
  split
  · rfl
  · unfold mvIx idxs
    rw [List.filter_eq_nil_iff]
    intro i _ z
    split at z
    · rename_i m em
      rw [Bool.and_eq_true, decide_eq_true_iff, decide_eq_true_iff] at z
      have ok := gg.m m (List.mem_of_getElem? em)
      exact gg.w.nb (List.mem_append_right _ ok.2.1) z.2
    · cases z
end Pg
namespace Pg
theorem idxs_elim {α : Type} (b : α → Bool) (ks : List α) : idxs b ks = (List.range ks.length).filter fun i => (ks[i]?).elim false b := List.filter_congr fun i _ => by cases ks[i]? <;> rfl
end Pg

set_option Elab.async false
set_option linter.all false
set_option maxRecDepth 100000
set_option maxHeartbeats 4000000
namespace Pg
open PySem PySem.Spec PyProof.Rows L2
theorem cutV_init (xs : List V) (x : V) : cutV (xs ++ [x]) none (some (-1)) = xs := by
  unfold cutV HT.sIx
  simp
  rw [show (-1 + ((xs.length : Int) + 1)).toNat = xs.length by omega, List.take_left' rfl]
theorem eqv_intL (ns : List Int) : PyData.eqv (.list (ns.map .int)) (.list (ns.map .int)) = true := by
  rw [PyData.eqv]
  exact eqvs_self (solidAll_of fun d hd => by obtain ⟨m, _, rfl⟩ := List.mem_map.mp hd; rw [solid])
theorem sh_intL (ns : List Int) : SeqAt.shaped (.list (ns.map .int)) = true := (LayN.lst (n := 0) (.map fun _ _ => .int)).sh (by decide)
theorem optI (ks : List Nat) : (ks.map fun k => V.int (k : Nat)) = (ks.map fun k : Nat => ((k : Nat) : Int)).map V.int := by rw [List.map_map]; rfl
theorem WdsG.nqq {ts : List Str} (h : WdsG ts) {t : Str} (ht : t ∈ ts) : t ≠ "qq" := by
  rcases h.wd t ht with ⟨i, _, hw⟩ | hw | hw
  · exact wd_ne hw (by decide +kernel) (by decide +kernel)
  · rw [hw]; decide +kernel
  · rw [hw]; decide +kernel
theorem WdsG.nem {ts : List Str} (h : WdsG ts) {t : Str} (ht : t ∈ ts) : t ≠ "" := fun e => by
  have := h.isw ht
  rw [e] at this
  revert this
  decide +kernel
theorem GGm.apart {g : Gm} (gg : GGm g) {x : Str} (h1 : x ∈ g.st.map (·.1)) (h2 : x ∈ g.le) : False := by
  have := gg.w.nd
  rw [List.nodup_append] at this
  exact this.2.2 x h1 x h2 rfl
theorem strange_no {g : Gm} (gg : GGm g) {l0 : Str} (h : l0 ∈ g.le) : ∀ z ∈ ([V.str "qq", .str l0, .str "bottom", .str ""] : List V), ∃ y, z = .str y ∧ ¬ inSt g y := by
  intro z hz
  rcases List.mem_cons.mp hz with e | hz
  · exact ⟨_, e, fun i => gg.w.nqq (List.mem_append_left _ i) rfl⟩
  rcases List.mem_cons.mp hz with e | hz
  · exact ⟨_, e, fun i => gg.apart i h⟩
  rcases List.mem_cons.mp hz with e | hz
  · exact ⟨_, e, fun i => gg.w.nb (List.mem_append_left _ i) rfl⟩
  · exact ⟨_, List.mem_singleton.mp hz, fun i => gg.w.nem (List.mem_append_left _ i) rfl⟩
theorem wrong_no {g : Gm} (gg : GGm g) {x : Str} (h : inSt g x) : ∀ z ∈ ([V.str "qq", .str x, .str "bottom"] : List V), ∃ y, z = .str y ∧ y ∉ g.le := by
  intro z hz
  rcases List.mem_cons.mp hz with e | hz
  · exact ⟨_, e, fun i => gg.w.nqq (List.mem_append_right _ i) rfl⟩
  rcases List.mem_cons.mp hz with e | hz
  · exact ⟨_, e, fun i => gg.apart h i⟩
  · exact ⟨_, List.mem_singleton.mp hz, fun i => gg.w.nb (List.mem_append_right _ i) rfl⟩
theorem at_lt {xs : List V} {r : Int} (h0 : 0 ≤ r) (h1 : r < (xs.length : Int)) : ∃ z, atI xs r = some z ∧ z ∈ xs := by
  obtain ⟨k, rfl⟩ := Int.eq_ofNat_of_zero_le h0
  have hk : k < xs.length := by omega
  exact ⟨xs[k], by show atI xs ((k : Nat) : Int) = _; rw [Pg.atI_get, List.getElem?_eq_getElem hk], List.getElem_mem hk⟩
theorem optB_len (g : Gm) (x t : Str) : (optB g x t).length ≤ g.mv.length := by
  unfold optB
  split
  · exact Nat.zero_le _
  · unfold mvIx
    rw [idxs_elim]
    exact Nat.le_trans (List.length_filter_le _ _) (by rw [List.length_range]; exact Nat.le_refl _)
end Pg

set_option Elab.async false
set_option linter.all false
set_option maxRecDepth 100000
set_option maxHeartbeats 4000000
namespace Pg
open PySem PySem.Spec PyProof.Rows L2 LamX
theorem op_of {r : R2} {t1 t2 : TE} {σ : L2.St} {H : Hp} {Q : VK} (h : t1 σ H fun x H1 => t2 σ H1 fun y H2 => r x y H2 Q) : tOp r t1 t2 σ H Q := h
theorem tab_fr {a n P : Addr} {q : Str} {m : Int} {H H' : Hp} (s : StA H a n m) (f : Fr a H H') (t : TabS H P q) : TabS H' P q := by
  obtain ⟨ns, c, h1, _⟩ := s.ex
  obtain ⟨ps, hP, ok, hc⟩ := t
  refine ⟨ps, f _ _ (ne_of hP h1 (by intro z; cases z)) hP, ok, fun pos cv e => ?_⟩
  obtain ⟨c, e1, e2⟩ := hc pos cv e
  exact ⟨c, e1, f _ _ (ne_of e2 h1 (by intro z; cases z)) e2⟩
theorem tab_lst {P b : Addr} {q : Str} {H : Hp} {xs : List V} (t : TabS H P q) (h : H b = some (.lst xs)) : b ≠ P := by
  obtain ⟨ps, hP, _⟩ := t
  exact ne_of h hP (by intro z; cases z)
theorem drs_of {K : PySem.W.Frag} {H : Hp} {sg mk : Sg} : ∀ {vs : List V}, (∀ v ∈ vs, ∃ r : DR, Dp K H v (rulD r.rul) ∧ DOk sg mk r) → ∃ rs : List DR, DpAll K H vs (rs.map fun r => rulD r.rul) ∧ ∀ r ∈ rs, DOk sg mk r
  | [], _ => ⟨[], .nil, fun _ h => absurd h List.not_mem_nil⟩
  | v :: vs, h => by
    obtain ⟨r, h1, h2⟩ := h v (List.mem_cons_self ..)
    obtain ⟨rs, h3, h4⟩ := drs_of fun x hx => h x (List.mem_cons_of_mem _ hx)
    exact ⟨r :: rs, .cons h1 h3, fun x hx => by
      rcases List.mem_cons.mp hx with e | e
      · rw [e]; exact h2
      · exact h4 x e⟩
theorem drs_solid (rs : List DR) : solid.solidAll (rs.map fun r => rulD r.rul) = true := solidAll_of fun d hd => by obtain ⟨r, _, rfl⟩ := List.mem_map.mp hd; exact dr_solid r
theorem lay_dr {sg mk : Sg} {r : DR} (ok : DOk sg mk r) (ws : ∀ s ∈ sg, isW s.1 = true) (wm : ∀ x ∈ mk.map (·.1), isW x = true) : LayN 3 (rulD r.rul) := by
  have h1 : LayN 2 (tps r.s (r.ns.map PyData.str)) := .tup (.cons (.str (ws _ ok.s)) (.map fun x hx => .str (ok.nl x hx)))
  have h2 : LayN 2 (.tuple (r.lits.map litD)) := .tup (.map fun l hl => by
    obtain ⟨b, hb, rfl⟩ := List.mem_map.mp hl
    have := ok.b b hb
    exact .tup (.cons .bool (.cons (.str (wm _ this.1)) (.cons (.str (ok.nl _ this.2)) .nil))))
  exact .tup (.cons (.str (wm _ ok.m)) (.cons h1 (.cons h2 .nil)))
theorem lay_drs {sg mk : Sg} {rs : List DR} (ok : ∀ r ∈ rs, DOk sg mk r) (ws : ∀ s ∈ sg, isW s.1 = true) (wm : ∀ x ∈ mk.map (·.1), isW x = true) : SeqAt.shaped (.list (rs.map fun r => rulD r.rul)) = true :=
  (LayN.lst (n := 3) (.map fun r hr => lay_dr (ok r hr) ws wm)).sh (by decide)
theorem eqv_drs (rs : List DR) : PyData.eqv (.list (rs.map fun r => rulD r.rul)) (.list (rs.map fun r => rulD r.rul)) = true := by
  rw [PyData.eqv]
  exact eqvs_self (drs_solid rs)
theorem Sh.lstA {D B : Nat} {ds : List PyData} (h : ∀ d ∈ ds, Sh D B d) : Sh (D + 1) (ds.length * (B + 1)) (.list ds) := by
  obtain ⟨b1, b2, b3, b4⟩ := sh_all h
  exact ⟨by rw [PyData.showable]; exact b1, by rw [PyData.leavesShort]; exact b2, by rw [PyData.depth]; omega, by rw [PyData.bulk]; exact b4⟩
theorem nod_strs : ∀ ws : List Str, PyData.hasDictAll (ws.map PyData.str) = false
  | [] => by simp [PyData.hasDictAll]
  | w :: ws => by simp [PyData.hasDictAll, PyData.hasDict, nod_strs ws]
/-- two times the same words -/
abbrev twoD (ws : List Str) : PyData := .list [.tuple (ws.map .str), .tuple (ws.map .str)]
theorem two_sh {ws : List Str} (h : ∀ x ∈ ws, isW x = true) (hl : ws.length ≤ 6) : Sh 2 110 (twoD ws) := by
  have h1 : Sh 1 54 (.tuple (ws.map PyData.str)) := Sh.map (D := 0) (B := 8) (n := 6) (fun k hk => Sh.wrd (h k hk)) hl
  exact Sh.lstA (ds := [.tuple (ws.map .str), .tuple (ws.map .str)]) fun d hd => by
    rcases List.mem_cons.mp hd with z | z
    · rw [z]; exact h1
    · rw [List.mem_singleton.mp z]; exact h1
theorem two_nd (ws : List Str) : PyData.hasDict (twoD ws) = false := by simp [twoD, PyData.hasDict, PyData.hasDictAll, nod_strs]
theorem words_dp {K : PySem.W.Frag} {H : Hp} : ∀ ws : List Str, DpAll K H (ws.map V.str) (ws.map PyData.str)
  | [] => .nil
  | w :: ws => .cons (.str w) (words_dp ws)
theorem in_rot {α : Type} {rs : List α} {k : Nat} {r : α} : r ∈ rs ↔ r ∈ rs.drop k ++ rs.take k := by
  rw [List.mem_append]
  constructor
  · intro h
    rw [← List.take_append_drop k rs, List.mem_append] at h
    exact h.symm
  · intro h
    rcases h with h | h
    · exact List.mem_of_mem_drop h
    · exact List.mem_of_mem_take h
end Pg

set_option Elab.async false
set_option linter.all false
set_option maxRecDepth 100000
set_option maxHeartbeats 4000000
namespace Pg
open PySem PySem.Spec PyProof.Rows L2
/-! ### words and numbers of a line -/
def ltB (x : Str) : Bool := !decide (cs x = []) && (cs x).all lowC
def dgC (c : Nat) : Bool := decide (48 ≤ c) && decide (c ≤ 57)
def nbB (x : Str) : Bool := decide (1 ≤ (cs x).length) && decide ((cs x).length ≤ 7) && (cs x).all dgC && (decide (cs x = [48]) || !decide ((cs x).head? = some 48))
def Asc (x : Str) : Prop := ∀ c ∈ cs x, c < 128
theorem dig_asc : ∀ c < 128, PySem.Unicode.isDigit c = dgC c := by decide +kernel
theorem isdig_asc {x : Str} (h : Asc x) : Txt.isdigit x = (decide (1 ≤ (cs x).length) && (cs x).all dgC) := by
  unfold Txt.isdigit
  have e : x.cps.all PySem.Unicode.isDigit = (cs x).all dgC := by
    rw [← Array.all_toList]
    show (cs x).all _ = _
    rw [Bool.eq_iff_iff, List.all_eq_true, List.all_eq_true]
    exact ⟨fun z c hc => by rw [← dig_asc c (h c hc)]; exact z c hc, fun z c hc => by rw [dig_asc c (h c hc)]; exact z c hc⟩
  rw [e, cs_len]
  rfl
theorem starts0 (x : Str) : Txt.startswith x "0" = decide ((cs x).head? = some 48) := by
  have e0 : (PySem.Str.ofString "0") = (⟨#[48]⟩ : Str) := by decide +kernel
  have h := PySem.StrLaws.subAt_one x 48 0
  unfold Txt.startswith
  rw [e0, Bool.eq_iff_iff, Bool.and_eq_true, decide_eq_true_iff, decide_eq_true_iff, h]
  show (cs x)[0]? = some 48 ↔ _
  rw [← List.head?_eq_getElem?]
def spLtr : Sp := fun vs H Q _ => ∃ x : Str, vs = [.str x] ∧ x.length ≤ 100000 ∧ ∀ H', Same H H' → Q (.bl (ltB x)) H'
def spNbr : Sp := fun vs H Q _ => ∃ x : Str, vs = [.str x] ∧ x.length ≤ 100000 ∧ Asc x ∧ ∀ H', Same H H' → Q (.bl (nbB x)) H'
end Pg
namespace Pg
open PySem PySem.Spec PyProof.Rows L2
theorem eq_lit {x y : Str} : decide (V.str x = V.str y) = decide (cs x = cs y) := by
  rw [Bool.eq_iff_iff, decide_eq_true_iff, decide_eq_true_iff]
  exact ⟨fun z => by rw [V.str.inj z], fun z => by rw [cs_inj z]⟩
theorem cs_e : cs (PySem.Str.ofString "") = [] := by decide +kernel
theorem cs_0 : cs (PySem.Str.ofString "0") = [48] := by decide +kernel
theorem cs_sp : cs (PySem.Str.ofString " ") = [32] := by decide +kernel
end Pg
namespace Pg
open PySem PySem.Spec PyProof.Rows L2
theorem filt_len {α : Type} {b : α → Bool} {l : List α} : decide (V.int ((l.filter b).length : Nat) = V.int (l.length : Nat)) = l.all b := by
  rw [Bool.eq_iff_iff, decide_eq_true_iff, ← filt_all]
  exact ⟨fun z => by have := V.int.inj z; omega, fun z => by rw [z]⟩
theorem cs_dig : cs (PySem.Str.ofString "0123456789") = [48, 49, 50, 51, 52, 53, 54, 55, 56, 57] := by decide +kernel
theorem in_dig (c : Nat) : decide (c ∈ (PySem.Str.ofString "0123456789").cps.toList) = dgC c := by
  show decide (c ∈ cs (PySem.Str.ofString "0123456789")) = _
  rw [cs_dig]
  unfold dgC
  rw [Bool.eq_iff_iff, Bool.and_eq_true, decide_eq_true_iff, decide_eq_true_iff, decide_eq_true_iff]
  simp
  omega
end Pg

set_option Elab.async false
set_option linter.all false
set_option maxRecDepth 100000
set_option maxHeartbeats 4000000
namespace K80
open PySem PySem.Spec PyProof.Rows L2 Pg
section
variable {P : Program} {w : World} {K : PySem.W.Frag} {mg : Str → Option Value} {base : Heap} {f : Addr} {fd : FuncData} {rsa : Addr}
abbrev s_low : Stmt := top 1
abbrev N_low : List Str := ["char"]
abbrev P_low : List Str := ["char"]
theorem sc_low : FnScope N_low P_low (defScope s_low) := ⟨rfl, rfl, rfl, by decide +kernel, rfl, by decide +kernel, by decide +kernel⟩

theorem ok_low (F : FnP K "is_small_letter" s_low f fd) (hm : mg "is_small_letter" = some (.ref f)) (Z : Zs mg) : Cal P w K mg base 1 "is_small_letter" spLow [] := by
  refine mk_cal F hm sc_low (fun _ _ _ _ _ _ us hl => match us, hl with | [_], _ => rfl) (fun vs H Q E h => ?_) (fun cdv A outer s H vs Q E hr h => ?_)
  · obtain ⟨c, rfl, _⟩ := h
    rfl
  obtain ⟨c, rfl, q⟩ := h
  refine ⟨_, (pss_one (ps_ret (pe_chain op_le_str op_le_str pe_str (pv 0) pe_str))), ?_⟩
  have q0 := q H (Same.refl H)
  unfold lowC at q0
  refine ⟨_, rfl, _, _, rfl, rfl, _, rfl, ite2 (fun h => ⟨_, _, rfl, rfl, ?_⟩) (fun h => ?_)⟩
  · rw [le_a] at h
    rw [le_z]
    rw [h, Bool.true_and] at q0
    exact q0
  · rw [le_a] at h
    have h : decide (97 ≤ c) = false := by simpa using h
    rw [h, Bool.false_and] at q0
    exact q0
abbrev s_ltr : Stmt := top 8
abbrev N_ltr : List Str := ["text", "char"]
abbrev P_ltr : List Str := ["text"]
theorem sc_ltr : FnScope N_ltr P_ltr (defScope s_ltr) := ⟨rfl, rfl, rfl, by decide +kernel, rfl, by decide +kernel, by decide +kernel⟩

theorem ok_ltr (F : FnP K "is_letters" s_ltr f fd) (hm : mg "is_letters" = some (.ref f)) (Z : Zs mg) (c_low : Cal P w K mg base 1 "is_small_letter" spLow []) : Cal P w K mg base 2 "is_letters" spLtr [] := by
  refine mk_cal F hm sc_ltr (fun _ _ _ _ _ _ us hl => match us, hl with | [_], _ => rfl) (fun vs H Q E h => ?_) (fun cdv A outer s H vs Q E hr h => ?_)
  · obtain ⟨x, rfl, _⟩ := h
    rfl
  obtain ⟨x, rfl, hx, q⟩ := h
  refine ⟨_, (pss_one (ps_ret (pe_and (pe_cmpR op_ne (pv 0) pe_str (nomark _)) (pe_one (pe_callB (cr_all rfl) (by rfl) Z.all (by decide +kernel) (pa_cons (pe_lc (own := [("char", 1)]) (g := (gName 1)) (tt := tYes) (te := (tCall spLow [] _ (tCons (tVar 1) tNil))) rfl sc_ltr.nd (pi_str (pv 0)) (blkOk_by (N := N_ltr) (sc := defScope s_ltr) (by decide +kernel)) (fun _ _ _ _ _ => by exact (pg_name (i := 1) sc_ltr.nd rfl (Or.inl rfl))) (fun _ _ _ _ _ => by exact pts_nil) (fun _ _ _ _ _ => by exact (C8.pe_c c_low hr (by first | decide | omega) rfl (pa_cons (pv 1) pa_nil)))) pa_nil)))))), ?_⟩
  refine ⟨_, rfl, rfl, _, rfl, ?_⟩
  rw [eq_lit, cs_e]
  refine ite2 (fun e => ?_) (fun e => ?_)
  · dsimp only [tCB, tCons]
    refine rd_str (x := x) (fun c => V.bl (lowC c)) (fun R h => ⟨_, rfl, x, rfl, h⟩) hx (fun _ => rfl) (fun c H' hc sm Q' q' => ⟨_, rfl, c, rfl, fun H2 s2 => q' H2 s2⟩) (fun D H' nD sm hD => ?_)
    refine ⟨D, (cs x).map lowC, rfl, SqL.mk (by rw [hD, List.map_map]; rfl), ?_⟩
    have q1 := q H' sm
    unfold ltB at q1
    rw [e, Bool.true_and] at q1
    rw [List.all_map]
    exact q1
  · have q1 := q H (Same.refl H)
    unfold ltB at q1
    have e : (!decide (cs x = [])) = false := by simpa using e
    rw [e, Bool.false_and] at q1
    exact q1
abbrev s_num : Stmt := top 9
abbrev N_num : List Str := ["text"]
abbrev P_num : List Str := ["text"]
theorem sc_num : FnScope N_num P_num (defScope s_num) := ⟨rfl, rfl, rfl, by decide +kernel, rfl, by decide +kernel, by decide +kernel⟩

theorem ok_num (F : FnP K "is_number" s_num f fd) (hm : mg "is_number" = some (.ref f)) (Z : Zs mg) (G7 : ∃ u, mg "MAX_DIGITS" = some u ∧ L2.RelV (.int 7) u) : Cal P w K mg base 1 "is_number" spNbr [] := by
  refine mk_cal F hm sc_num (fun _ _ _ _ _ _ us hl => match us, hl with | [_], _ => rfl) (fun vs H Q E h => ?_) (fun cdv A outer s H vs Q E hr h => ?_)
  · obtain ⟨x, rfl, _⟩ := h
    rfl
  obtain ⟨x, rfl, hx, ha, q⟩ := h
  refine ⟨_, (pss_cons (ps_if (PW.pt (pw_or (pt_not (pt_chain op_le op_le pe_int (pe_callB call_len_str (by rfl) Z.len (by decide +kernel) (pa_cons (pv 0) pa_nil)) (C8.pe_gc (v := .int 7) (by rfl) G7))) (pw_or1 (pt_not (pt_truth (pe_bm0 PySem.F.plainAttrs_str PySem.F.slot_str_isdigit PySem.F.type_str_isdigit mt_isdigit (pv 0)) (fun _ => rfl)))))) (pss_one (ps_ret pe_bl)) pss_nil)
      (pss_one (ps_ret (pe_or (pe_cmpR op_eq (pv 0) pe_str (nomark _)) (pe_one (pe_notT (pe_bm PySem.F.plainAttrs_str PySem.F.slot_str_startswith PySem.F.type_str_startswith mt_startswith (pv 0) (pa_cons pe_str pa_nil)))))))), ?_⟩
  have hx63 : x.length ≤ sizeLine := Nat.le_of_lt (smallN hx)
  have q0 := q H (Same.refl H)
  have t1 : TV (tTest (tChain (rI0 fun i j => V.bl (decide (i ≤ j))) (rI0 fun i j => V.bl (decide (i ≤ j))) (tC (V.int 1)) (tCB (fun xs H Q => ∃ z, xs = [V.str z] ∧ z.length ≤ sizeLine ∧ Q (V.int (z.length : Nat)) H) (tCons (tVar 0) tNil)) (tC (V.int 7)))) (L2.start N_num [V.str x]) H (decide (1 ≤ (cs x).length) && decide ((cs x).length ≤ 7)) := fun Q' q' => by
    rw [← cs_len] at q'
    refine ⟨_, rfl, x, rfl, hx63, _, _, rfl, rfl, _, rfl, ite2 (fun h => ⟨_, _, rfl, rfl, _, rfl, ?_⟩) (fun h => ⟨_, rfl, ?_⟩)⟩
    · have h := of_decide_eq_true h
      rw [decide_eq_true (show 1 ≤ x.length by omega), Bool.true_and] at q'
      rw [show decide (((x.length : Nat) : Int) ≤ 7) = decide (x.length ≤ 7) by rw [Bool.eq_iff_iff, decide_eq_true_iff, decide_eq_true_iff]; omega]
      exact q'
    · have h : ¬ (1 : Int) ≤ ((x.length : Nat) : Int) := fun z => h (decide_eq_true z)
      rw [decide_eq_false (show ¬ 1 ≤ x.length by omega), Bool.false_and] at q'
      exact q'
  refine TV.ifs (b := !(decide (1 ≤ (cs x).length) && decide ((cs x).length ≤ 7)) || !(decide (1 ≤ (cs x).length) && (cs x).all dgC)) (TV.or (TV.not t1) (TV.not (fun Q' q' => ⟨_, rfl, rfl, x, rfl, rfl, trivial, _, rfl, by rw [isdig_asc ha]; exact q'⟩))) (fun e => ?_) (fun e => ?_)
  · have : nbB x = false := by
      unfold nbB
      rw [Bool.or_eq_true, Bool.not_eq_true', Bool.not_eq_true'] at e
      rcases e with e | e
      · rw [e, Bool.false_and, Bool.false_and]
      · cases h1 : decide (1 ≤ (cs x).length) with
        | false => rfl
        | true =>
          rw [h1, Bool.true_and] at e
          rw [e, Bool.and_false, Bool.false_and]
    rw [this] at q0
    exact q0
  rw [Bool.or_eq_false_iff, Bool.not_eq_false', Bool.not_eq_false'] at e
  have e2 := e.2
  rw [Bool.and_eq_true] at e2
  unfold nbB at q0
  rw [e.1, e2.2, Bool.true_and, Bool.true_and] at q0
  refine ⟨_, rfl, rfl, _, rfl, ?_⟩
  rw [eq_lit, cs_0]
  refine ite2 (fun e => ?_) (fun e => ?_)
  · rw [e, Bool.true_or] at q0
    exact q0
  · have e : decide (cs x = [48]) = false := by simpa using e
    rw [e, Bool.false_or] at q0
    refine ⟨_, rfl, rfl, x, _, rfl, rfl, _, rfl, ?_⟩
    rw [starts0]
    exact q0
abbrev s_lil : Stmt := top 23
abbrev N_lil : List Str := ["text", "letter"]
abbrev P_lil : List Str := ["text"]
theorem sc_lil : FnScope N_lil P_lil (defScope s_lil) := ⟨rfl, rfl, rfl, by decide +kernel, rfl, by decide +kernel, by decide +kernel⟩

theorem ok_lil (F : FnP K "_law_is_letters" s_lil f fd) (hm : mg "_law_is_letters" = some (.ref f)) (Z : Zs mg) : Cal P w K mg base 1 "_law_is_letters" spLtr [] := by
  refine mk_cal F hm sc_lil (fun _ _ _ _ _ _ us hl => match us, hl with | [_], _ => rfl) (fun vs H Q E h => ?_) (fun cdv A outer s H vs Q E hr h => ?_)
  · obtain ⟨x, rfl, _⟩ := h
    rfl
  obtain ⟨x, rfl, hx, q⟩ := h
  refine ⟨_, (pss_one (ps_ret (pe_and (pe_cmpR op_gt (pe_callB call_len_str (by rfl) Z.len (by decide +kernel) (pa_cons (pv 0) pa_nil)) pe_int (nomark _)) (pe_one (pe_cmpR op_eq (pe_callB call_len_seq (by rfl) Z.len (by decide +kernel) (pa_cons (pe_lc (own := [("letter", 1)]) (g := (gName 1)) (tt := _) (te := (tVar 1)) rfl sc_lil.nd (pi_str (pv 0)) (blkOk_by (N := N_lil) (sc := defScope s_lil) (by decide +kernel)) (fun _ _ _ _ _ => by exact (pg_name (i := 1) sc_lil.nd rfl (Or.inl rfl))) (fun _ _ _ _ _ => by exact (pts_one (pt_chain op_le_str op_le_str pe_str (pv 1) pe_str))) (fun _ _ _ _ _ => by exact (pv 1))) pa_nil)) (pe_callB call_len_str (by rfl) Z.len (by decide +kernel) (pa_cons (pv 0) pa_nil)) (nomark _)))))), ?_⟩
  have hx63 : x.length ≤ sizeLine := Nat.le_of_lt (smallN hx)
  refine ⟨_, rfl, x, rfl, hx63, _, _, rfl, rfl, _, rfl, ite2 (fun e => ?_) (fun e => ?_)⟩
  · have e := of_decide_eq_true e
    dsimp only [tCB, tCons, tOp]
    refine rd_strIf (x := x) (fun c => V.str ⟨#[c]⟩) lowC (fun R h => ⟨_, rfl, x, rfl, h⟩) hx (fun _ => rfl) (fun c H' hc sm Q' q' => ?_) (fun c H' hc sm Q' q' => ⟨_, rfl, q' H' (Same.refl H')⟩) (fun D H' nD sm hD => ?_)
    · unfold lowC at q'
      refine ⟨_, rfl, _, _, rfl, rfl, _, rfl, ite2 (fun h => ⟨_, _, rfl, rfl, _, rfl, ?_⟩) (fun h => ⟨_, rfl, ?_⟩)⟩
      · rw [le_a] at h
        rw [le_z]
        rw [h, Bool.true_and] at q'
        exact q'
      · rw [le_a] at h
        have h : decide (97 ≤ c) = false := by simpa using h
        rw [h, Bool.false_and] at q'
        exact q'
    · refine ⟨D, _, rfl, .inl (SqL.mk hD), _, rfl, x, rfl, hx63, rfl, ?_⟩
      have q1 := q H' sm
      unfold ltB at q1
      rw [decide_eq_false (show ¬ cs x = [] from fun z => by rw [cs_len, z] at e; exact absurd e (by decide)), Bool.not_false, Bool.true_and] at q1
      rw [List.length_map, cs_len, filt_len]
      exact q1
  · have e := of_decide_eq_false (by simpa using e : decide ((0 : Int) < ((x.length : Nat) : Int)) = false)
    have q1 := q H (Same.refl H)
    unfold ltB at q1
    rw [decide_eq_true (show cs x = [] from List.eq_nil_of_length_eq_zero (by rw [← cs_len]; omega)), Bool.not_true, Bool.false_and] at q1
    exact q1
abbrev s_lin : Stmt := top 24
abbrev N_lin : List Str := ["text", "digits", "digit"]
abbrev P_lin : List Str := ["text"]
theorem sc_lin : FnScope N_lin P_lin (defScope s_lin) := ⟨rfl, rfl, rfl, by decide +kernel, rfl, by decide +kernel, by decide +kernel⟩

theorem ok_lin (F : FnP K "_law_is_number" s_lin f fd) (hm : mg "_law_is_number" = some (.ref f)) (Z : Zs mg) : Cal P w K mg base 1 "_law_is_number" spNbr [] := by
  refine mk_cal F hm sc_lin (fun _ _ _ _ _ _ us hl => match us, hl with | [_], _ => rfl) (fun vs H Q E h => ?_) (fun cdv A outer s H vs Q E hr h => ?_)
  · obtain ⟨x, rfl, _⟩ := h
    rfl
  obtain ⟨x, rfl, hx, ha, q⟩ := h
  refine ⟨_, (pss_cons (ps_setLc (i := 1) (own := [("digit", 2)]) (g := (gName 2)) (tt := (tTest (tOp rInS (tVar 2) (tC (.str "0123456789"))))) (te := (tVar 2)) rfl sc_lin.nd rfl rfl (sw_true rfl rfl rfl (by decide +kernel)) (pi_str (pv 0)) (blkOk_by (N := N_lin) (sc := defScope s_lin) (by decide +kernel)) (fun _ _ _ _ _ => by exact (pg_name (i := 2) sc_lin.nd rfl (Or.inl rfl))) (fun _ _ _ _ _ => by exact (pts_one (pt_cmpR op_inS (pv 2) pe_str (by rfl)))) (fun _ _ _ _ _ => by exact (pv 2)))
      (pss_one (ps_ret (pe_and (pe_chain op_lt op_lt pe_int (pe_callB call_len_str (by rfl) Z.len (by decide +kernel) (pa_cons (pv 0) pa_nil)) pe_int) (pe_and (pe_cmpR op_eq (pe_callB call_len_seq (by rfl) Z.len (by decide +kernel) (pa_cons (pv 1) pa_nil)) (pe_callB call_len_str (by rfl) Z.len (by decide +kernel) (pa_cons (pv 0) pa_nil)) (nomark _)) (pe_one (pe_or (pe_cmpR op_eq (pv 0) pe_str (nomark _)) (pe_one (pe_cmpR op_ne (pe_ix ix_str (pv 0) pe_int (fun _ _ => rfl)) pe_str (nomark _)))))))))), ?_⟩
  have hx63 : x.length ≤ sizeLine := Nat.le_of_lt (smallN hx)
  refine seq_asg ?_
  refine rd_strIf (x := x) (fun c => V.str ⟨#[c]⟩) dgC (fun R h => ⟨_, rfl, x, rfl, h⟩) hx (fun _ => rfl) (fun c H' hc sm Q' q' => ?_) (fun c H' hc sm Q' q' => ⟨_, rfl, q' H' (Same.refl H')⟩) (fun D H' nD sm hD => ?_)
  · refine ⟨_, rfl, c, _, rfl, rfl, _, rfl, ?_⟩
    rw [in_dig]
    exact q'
  have q1 := q H' sm
  unfold nbB at q1
  have hl := cs_len x
  refine ⟨_, rfl, x, rfl, hx63, _, _, rfl, rfl, _, rfl, ite2 (fun e1 => ⟨_, _, rfl, rfl, _, rfl, ite2 (fun e2 => ?_) (fun e2 => ?_)⟩) (fun e1 => ⟨_, rfl, ite2 (fun z => absurd z (by simp at e1 ⊢; try omega)) (fun _ => ?_)⟩)⟩
  · have e1 := of_decide_eq_true e1
    have e2 := of_decide_eq_true e2
    rw [decide_eq_true (show 1 ≤ (cs x).length by omega), decide_eq_true (show (cs x).length ≤ 7 by omega), Bool.true_and, Bool.true_and] at q1
    refine ⟨_, rfl, D, _, rfl, .inl (SqL.mk hD), _, rfl, x, rfl, hx63, rfl, _, rfl, ?_⟩
    rw [List.length_map, hl, filt_len]
    refine ite2 (fun e => ?_) (fun e => ?_)
    · rw [e, Bool.true_and] at q1
      refine ⟨_, rfl, rfl, _, rfl, ?_⟩
      rw [eq_lit, cs_0]
      refine ite2 (fun e => ?_) (fun e => ?_)
      · rw [e, Bool.true_or] at q1
        exact q1
      · have e : decide (cs x = [48]) = false := by simpa using e
        rw [e, Bool.false_or] at q1
        obtain ⟨c, r, ec⟩ : ∃ c r, cs x = c :: r := by
          cases h : cs x with
          | nil => rw [h] at hl; simp at hl; omega
          | cons c r => exact ⟨c, r, rfl⟩
        refine ⟨_, rfl, x, 0, c, rfl, rfl, hx63, by show atI (cs x) 0 = some c; rw [ec]; exact at0 _ _, rfl, ?_⟩
        rw [eq_lit, cs_0, cs_one]
        rw [ec] at q1
        rw [show decide ([c] = [48]) = decide ((c :: r).head? = some 48) by rw [Bool.eq_iff_iff, decide_eq_true_iff, decide_eq_true_iff]; simp]
        exact q1
    · have e : (cs x).all dgC = false := by simpa using e
      rw [e, Bool.false_and] at q1
      exact q1
  · have e2 : ¬ ((x.length : Nat) : Int) < 8 := fun z => e2 (decide_eq_true z)
    rw [decide_eq_false (show ¬ (cs x).length ≤ 7 by omega), Bool.and_false, Bool.false_and, Bool.false_and] at q1
    exact q1
  · have e1 : ¬ (0 : Int) < ((x.length : Nat) : Int) := fun z => e1 (decide_eq_true z)
    rw [decide_eq_false (show ¬ 1 ≤ (cs x).length by omega), Bool.false_and, Bool.false_and, Bool.false_and] at q1
    exact q1
end
end K80

set_option Elab.async false
set_option linter.all false
set_option maxRecDepth 100000
set_option maxHeartbeats 4000000
namespace Pg
open PySem PySem.Spec PyProof.Rows L2
/-! ### the words of a line -/
def sps : List Nat → List (List Nat)
  | [] => [[]]
  | c :: r => if c = 32 then [] :: sps r else (c :: (sps r).headD []) :: (sps r).tail
theorem sps_ne : ∀ l, sps l ≠ []
  | [] => by simp [sps]
  | c :: r => by
    unfold sps
    split <;> simp
theorem sps_free : ∀ l, ∀ p ∈ sps l, 32 ∉ p
  | [], p, h => by
    rw [List.mem_singleton.mp h]
    exact List.not_mem_nil
  | c :: r, p, h => by
    have ih := sps_free r
    have hne := sps_ne r
    unfold sps at h
    by_cases e : c = 32
    · rw [if_pos e] at h
      rcases List.mem_cons.mp h with z | z
      · rw [z]; exact List.not_mem_nil
      · exact ih p z
    · rw [if_neg e] at h
      cases hs : sps r with
      | nil => exact absurd hs hne
      | cons q qs =>
        rw [hs] at h ih
        rcases List.mem_cons.mp h with z | z
        · rw [z]
          intro m
          rcases List.mem_cons.mp m with y | y
          · exact e y.symm
          · exact ih q (List.mem_cons_self ..) y
        · exact ih p (List.mem_cons_of_mem _ z)
theorem join_cons {S p : List Nat} {ps : List (List Nat)} (h : ps ≠ []) : TL.joinL S (p :: ps) = p ++ (S ++ TL.joinL S ps) := by
  cases ps with
  | nil => exact absurd rfl h
  | cons q r => rfl
theorem sps_join : ∀ l, TL.joinL [32] (sps l) = l
  | [] => rfl
  | c :: r => by
    have ih := sps_join r
    have hne := sps_ne r
    unfold sps
    by_cases e : c = 32
    · rw [if_pos e, join_cons hne, ih, e]
      rfl
    · rw [if_neg e]
      cases hs : sps r with
      | nil => exact absurd hs hne
      | cons q qs =>
        rw [hs] at ih
        show TL.joinL [32] ((c :: q) :: qs) = c :: r
        cases qs with
        | nil =>
          rw [← ih]
          rfl
        | cons q2 q3 =>
          rw [← ih]
          rfl
def sp1 : Str := PySem.Str.ofString " "
theorem tl_sp1 : TL.tl sp1 = [32] := cs_sp
theorem sp1_k : sp1.cps.all (· < 256) = true := by decide +kernel
/-- words: without a space in them -/
def NoSp (x : Str) : Prop := 32 ∉ cs x
abbrev jn (W : List Str) : Str := Txt.join sp1 W
theorem line_words (x : Str) : ∃ W : List Str, W ≠ [] ∧ (∀ p ∈ W, NoSp p) ∧ jn W = x := by
  refine ⟨(sps (cs x)).map fun l => ⟨l.toArray⟩, fun z => sps_ne _ (List.map_eq_nil_iff.mp z), fun p hp => ?_, ?_⟩
  · obtain ⟨l, hl, rfl⟩ := List.mem_map.mp hp
    show 32 ∉ l
    exact sps_free _ l hl
  · refine cs_inj ?_
    show TL.tl (Txt.join sp1 _) = _
    rw [TL.join_eq, TL.tl_join, List.map_map, tl_sp1]
    have : (sps (cs x)).map (TL.tl ∘ fun l => (⟨l.toArray⟩ : Str)) = sps (cs x) := by
      refine (List.map_congr_left fun l _ => ?_).trans (List.map_id _)
      rfl
    rw [this, sps_join]
theorem split_words {W : List Str} (h : W ≠ []) (hp : ∀ p ∈ W, NoSp p) : Txt.split (jn W) sp1 = W := TL.split_join tl_sp1 sp1_k h hp
theorem jn_cons {w : Str} {ws : List Str} (h : ws ≠ []) : jn (w :: ws) = w ++ sp1 ++ jn ws := by
  refine cs_inj ?_
  rw [cs_app, cs_app]
  show TL.tl (Txt.join sp1 (w :: ws)) = _
  rw [TL.join_eq, TL.tl_join, List.map_cons, join_cons (fun z => h (List.map_eq_nil_iff.mp z)), ← TL.tl_join, ← TL.join_eq, List.append_assoc] <;> rfl
theorem jn_one (w : Str) : jn [w] = w := by
  refine cs_inj ?_
  show TL.tl (Txt.join sp1 [w]) = _
  rw [TL.join_eq, TL.tl_join] <;> rfl
theorem part_words {w : Str} {ws : List Str} (hw : NoSp w) : Txt.partition (jn (w :: ws)) sp1 = if ws = [] then (w, Str.empty, Str.empty) else (w, sp1, jn ws) := by
  by_cases e : ws = []
  · rw [if_pos e, e, jn_one]
    exact TL.partition_none tl_sp1 hw
  · rw [if_neg e, jn_cons e]
    exact TL.partition_app tl_sp1 hw
/-! ### what a line says -/
def valN (y : Str) : Int := ((NumText.digitsVal (cs y) : Nat) : Int)
theorem nb_val {y : Str} (h : nbB y = true) : intText? y = some (valN y) := by
  unfold nbB at h
  rw [Bool.and_eq_true, Bool.and_eq_true, Bool.and_eq_true, decide_eq_true_iff, decide_eq_true_iff] at h
  obtain ⟨⟨⟨h1, h2⟩, h3⟩, _⟩ := h
  have e : y = SX.S (cs y) := cs_inj rfl
  have := SX.int_S (a := cs y) h3 (fun z => by rw [z] at h1; exact absurd h1 (by decide)) (by omega)
  rw [← e] at this
  exact this
def pairsD : List Str → Option (List PyData)
  | [] => some []
  | [_] => none
  | x :: y :: r => if ltB x && nbB y then (pairsD r).map fun ps => .tuple [.str x, .int (valN y)] :: ps else none
/-- what place says -/
def placeD (ws : List Str) : PyData := match ws with
  | m :: t :: ts => if ltB m then .tuple [.str "place", .str m, .str (jn (t :: ts))] else .none
  | _ => .none
def AscW (W : List Str) : Prop := ∀ p ∈ W, NoSp p ∧ Asc p
def spRpl (K : PySem.W.Frag) : Sp := fun vs H Q _ => ∃ ws : List Str, vs = [.str (jn ws)] ∧ ws ≠ [] ∧ AscW ws ∧ (jn ws).length ≤ 100000 ∧ ∀ v H', Same H H' → Dp K H' v (placeD ws) → Q v H'
def spRps (K : PySem.W.Frag) : Sp := fun vs H Q _ => ∃ (l : Addr) (ws : List Str), vs = [.ref l] ∧ H l = some (.lst (ws.map V.str)) ∧ AscW ws ∧ ws.length ≤ 1000 ∧ (∀ p ∈ ws, p.length ≤ 100000) ∧
  ∀ v H', Same H H' → Dp K H' v (match pairsD ws with | some ps => .tuple ps | none => .none) → Q v H'
def spLps (K : PySem.W.Frag) : Sp := fun vs H Q _ => ∃ (l : Addr) (ws : List Str), vs = [.ref l] ∧ H l = some (.lst (ws.map V.str)) ∧ AscW ws ∧ ws.length ≤ 1000 ∧ (∀ p ∈ ws, p.length ≤ 100000) ∧
  ∀ p v H', Same H H' → SqT K H' p [.bl (pairsD ws).isSome, v] → (∀ ps, pairsD ws = some ps → Dp K H' v (.tuple ps)) → Q (.ref p) H'
end Pg
namespace Pg
open PySem PySem.Spec PyProof.Rows L2
theorem jn_ge : ∀ {W : List Str} {p : Str}, p ∈ W → p.length ≤ (jn W).length
  | [], _, h => absurd h List.not_mem_nil
  | w :: ws, p, h => by
    by_cases e : ws = []
    · subst e
      rw [jn_one, List.mem_singleton.mp h]
      exact Nat.le_refl _
    · rw [jn_cons e, cs_len, cs_len, cs_app, cs_app, List.length_append, List.length_append]
      rcases List.mem_cons.mp h with z | z
      · rw [z]; omega
      · have := jn_ge z
        rw [cs_len, cs_len] at this
        omega
end Pg

set_option Elab.async false
set_option linter.all false
set_option maxRecDepth 100000
set_option maxHeartbeats 4000000
namespace Pg
open PySem PySem.Spec PyProof.Rows L2
/-! ### pairs of words -/
def wat (ws : List Str) (i : Nat) : Str := ws.getD i Str.empty
def gdP (ws : List Str) (i : Nat) : Bool := ltB (wat ws (2 * i)) && nbB (wat ws (2 * i + 1))
def pdP (ws : List Str) (i : Nat) : PyData := .tuple [.str (wat ws (2 * i)), .int (valN (wat ws (2 * i + 1)))]
theorem wat_cons {x y : Str} {r : List Str} (i : Nat) : wat (x :: y :: r) (2 * (i + 1)) = wat r (2 * i) ∧ wat (x :: y :: r) (2 * (i + 1) + 1) = wat r (2 * i + 1) := by
  rw [show 2 * (i + 1) = 2 * i + 1 + 1 by omega, show 2 * i + 1 + 1 + 1 = (2 * i + 1) + 1 + 1 by omega]
  exact ⟨rfl, rfl⟩
theorem gd_cons {x y : Str} {r : List Str} (i : Nat) : gdP (x :: y :: r) (i + 1) = gdP r i := by
  unfold gdP
  rw [(wat_cons i).1, (wat_cons i).2]
theorem pd_cons {x y : Str} {r : List Str} (i : Nat) : pdP (x :: y :: r) (i + 1) = pdP r i := by
  unfold pdP
  rw [(wat_cons i).1, (wat_cons i).2]
theorem len2 {x y : Str} {r : List Str} : (x :: y :: r).length / 2 = r.length / 2 + 1 := by
  rw [List.length_cons, List.length_cons]; omega
theorem pairs_all : ∀ {ws : List Str}, (∀ i, i < ws.length / 2 → gdP ws i = true) → pairsD ws = if ws.length % 2 = 0 then some ((List.range (ws.length / 2)).map (pdP ws)) else none
  | [], _ => rfl
  | [_], _ => rfl
  | x :: y :: r, h => by
    have h0 : (ltB x && nbB y) = true := h 0 (by rw [len2]; omega)
    have ih := pairs_all (ws := r) fun i hi => by
      have := h (i + 1) (by rw [len2]; omega)
      rw [gd_cons] at this
      exact this
    unfold pairsD
    rw [if_pos h0, ih, len2, show (x :: y :: r).length % 2 = r.length % 2 by rw [List.length_cons, List.length_cons]; omega]
    by_cases e : r.length % 2 = 0
    · rw [if_pos e, if_pos e, Option.map_some, List.range_succ_eq_map, List.map_cons, List.map_map]
      exact congrArg some (congrArg _ (List.map_congr_left fun i _ => (pd_cons i).symm))
    · rw [if_neg e, if_neg e]
      rfl
theorem pairs_bad : ∀ {ws : List Str} {i : Nat}, i < ws.length / 2 → gdP ws i = false → pairsD ws = none
  | [], i, h, _ => by simp at h
  | [_], i, h, _ => by simp at h
  | x :: y :: r, 0, _, e => by
    unfold pairsD
    have e : (ltB x && nbB y) = false := e
    rw [if_neg (by rw [e]; decide)]
  | x :: y :: r, i + 1, h, e => by
    rw [len2] at h
    rw [gd_cons] at e
    have ih := pairs_bad (ws := r) (i := i) (by omega) e
    unfold pairsD
    rw [ih]
    split <;> rfl
theorem rg_two : ∀ n : Nat, n < 1001 → RgC 0 ((n : Int) - 1) 2 (n / 2) := by
  unfold RgC
  decide +kernel
theorem wat_get {ws : List Str} {i : Nat} (h : i < ws.length) : ws[i]? = some (wat ws i) := by
  unfold wat
  rw [List.getD_eq_getElem?_getD, List.getElem?_eq_getElem h]
  rfl
end Pg
namespace Pg
open PySem PySem.Spec PyProof.Rows L2
theorem nb_len {y : Str} (h : nbB y = true) : y.length ≤ 640 := by
  unfold nbB at h
  rw [Bool.and_eq_true, Bool.and_eq_true, Bool.and_eq_true, decide_eq_true_iff, decide_eq_true_iff] at h
  have := h.1.1.2
  rw [cs_len]
  omega
end Pg

set_option Elab.async false
set_option linter.all false
set_option maxRecDepth 100000
set_option maxHeartbeats 4000000
namespace K80
open PySem PySem.Spec PyProof.Rows L2 Pg
section
variable {P : Program} {w : World} {K : PySem.W.Frag} {mg : Str → Option Value} {base : Heap} {f : Addr} {fd : FuncData} {rsa : Addr}
theorem e_tru : Str.empty.length ≤ sizeLine ∧ false = ((Str.empty.length : Int) != 0) := by decide +kernel
theorem s_tru : sp1.length ≤ sizeLine ∧ true = ((sp1.length : Int) != 0) := by decide +kernel
abbrev s_rpl : Stmt := top 10
abbrev N_rpl : List Str := ["rest", "mark", "space", "text"]
abbrev P_rpl : List Str := ["rest"]
theorem sc_rpl : FnScope N_rpl P_rpl (defScope s_rpl) := ⟨rfl, rfl, rfl, by decide +kernel, rfl, by decide +kernel, by decide +kernel⟩

theorem ok_rpl (F : FnP K "read_place" s_rpl f fd) (hm : mg "read_place" = some (.ref f)) (Z : Zs mg) (c_ltr : Cal P w K mg base 2 "is_letters" spLtr []) : Cal P w K mg base 3 "read_place" (spRpl K) [] := by
  refine mk_cal F hm sc_rpl (fun _ _ _ _ _ _ us hl => match us, hl with | [_], _ => rfl) (fun vs H Q E h => ?_) (fun cdv A outer s H vs Q E hr h => ?_)
  · obtain ⟨ws, rfl, _⟩ := h
    rfl
  obtain ⟨ws, rfl, hne, ha, hl, q⟩ := h
  refine ⟨_, (pss_cons (ps_asg (pe_bm PySem.F.plainAttrs_str PySem.F.slot_str_partition PySem.F.type_str_partition mt_partition (pv 0) (pa_cons pe_str pa_nil)) (pg_tup rfl (pgs_cons (pg_name (i := 1) sc_rpl.nd rfl (by first | exact Or.inl rfl | exact Or.inr rfl)) (pgs_cons (pg_name (i := 2) sc_rpl.nd rfl (by first | exact Or.inl rfl | exact Or.inr rfl)) (pgs_cons (pg_name (i := 3) sc_rpl.nd rfl (by first | exact Or.inl rfl | exact Or.inr rfl)) pgs_nil)))))
      (pss_cons (ps_if (PW.pt (pw_or (pt_not (pt_val (C8.pe_c c_ltr hr (by first | decide | omega) rfl (pa_cons (pv 1) pa_nil)))) (pw_or1 (pt_not (pt_truth (pv 2) (fun _ => rfl)))))) (pss_one (ps_ret pe_non)) pss_nil)
      (pss_one (ps_ret (pe_tup (pa_cons pe_str (pa_cons (pv 1) (pa_cons (pv 3) pa_nil)))))))), ?_⟩
  obtain ⟨m, ts, rfl⟩ : ∃ m ts, ws = m :: ts := by
    cases ws with
    | nil => exact absurd rfl hne
    | cons m ts => exact ⟨m, ts, rfl⟩
  have hm1 := ha m (List.mem_cons_self ..)
  have ep : Txt.partition (jn (m :: ts)) (Str.ofString " ") = if ts = [] then (m, Str.empty, Str.empty) else (m, sp1, jn ts) := part_words hm1.1
  have hml : m.length ≤ 100000 := Nat.le_trans (jn_ge (List.mem_cons_self ..)) hl
  refine ⟨_, rfl, rfl, _, _, rfl, rfl, by decide +kernel, Nat.le_of_lt (smallN hl), fun p np => ?_⟩
  rw [ep]
  have s1 : ∀ o, Same H (upd H p o) := fun o => Same.new np
  cases ts with
  | nil =>
    rw [if_pos rfl]
    refine ⟨p, _, rfl, SqT.mk upd_same, rfl, _, _, rfl, _, _, rfl, _, _, rfl, rfl, ?_⟩
    refine ⟨_, rfl, m, rfl, hml, fun H2 s2 => ?_⟩
    have qn := q .non H2 ((s1 _).trans s2) .non
    refine ⟨_, rfl, ite2 (fun _ => qn) (fun _ => ⟨_, rfl, false, e_tru, ite2 (fun _ => qn) (fun z => absurd rfl z)⟩)⟩
  | cons t ts =>
    rw [if_neg (by simp)]
    refine ⟨p, _, rfl, SqT.mk upd_same, rfl, _, _, rfl, _, _, rfl, _, _, rfl, rfl, ?_⟩
    refine ⟨_, rfl, m, rfl, hml, fun H2 s2 => ?_⟩
    have q1 := fun v H' s' => q v H' (((s1 _).trans s2).trans s')
    have ed : placeD (m :: t :: ts) = if ltB m then .tuple [.str "place", .str m, .str (jn (t :: ts))] else .none := rfl
    rw [ed] at q1
    refine ⟨_, rfl, ite2 (fun e => ?_) (fun e => ⟨_, rfl, true, s_tru, ite2 (fun z => by cases z) (fun _ => ?_)⟩)⟩
    · have e : ltB m = false := by simpa using e
      rw [if_neg (by rw [e]; decide)] at q1
      exact q1 _ _ (Same.refl _) .non
    · have e : ltB m = true := by simpa using e
      rw [if_pos e] at q1
      refine ⟨_, rfl, _, rfl, (by show 3 ≤ sizeLine; decide), fun r nr => ?_⟩
      exact q1 _ _ (Same.new nr) (.tup (SqT.mk upd_same) (.cons (.str _) (.cons (.str _) (.cons (.str _) .nil))))
abbrev s_lps : Stmt := top 25
abbrev N_lps : List Str := ["words", "found", "k"]
abbrev P_lps : List Str := ["words"]
theorem sc_lps : FnScope N_lps P_lps (defScope s_lps) := ⟨rfl, rfl, rfl, by decide +kernel, rfl, by decide +kernel, by decide +kernel⟩

theorem ok_lps (F : FnP K "_law_pairs" s_lps f fd) (hm : mg "_law_pairs" = some (.ref f)) (Z : Zs mg) (c_lil : Cal P w K mg base 1 "_law_is_letters" spLtr []) (c_lin : Cal P w K mg base 1 "_law_is_number" spNbr []) : Cal P w K mg base 2 "_law_pairs" (spLps K) [] := by
  refine mk_cal F hm sc_lps (fun _ _ _ _ _ _ us hl => match us, hl with | [_], _ => rfl) (fun vs H Q E h => ?_) (fun cdv A outer s H vs Q E hr h => ?_)
  · obtain ⟨l, ws, rfl, _⟩ := h
    rfl
  obtain ⟨l, ws, rfl, hl, ha, hlen, hsz, q⟩ := h
  refine ⟨_, (pss_cons (ps_set (i := 1) sc_lps.nd rfl (by first | exact Or.inl rfl | exact Or.inr rfl) (pe_lst pa_nil))
      (pss_cons (ps_for PassesOwn.never rfl (pi_range3 (by rfl) Z.range (pa_cons pe_int (pa_cons (pe_op op_sub (pe_callB call_len_seq (by rfl) Z.len (by decide +kernel) (pa_cons (pv 0) pa_nil)) pe_int) (pa_cons pe_int pa_nil)))) (pg_name (i := 2) sc_lps.nd rfl (by first | exact Or.inl rfl | exact Or.inr rfl)) (pss_cons (ps_if (PW.pt (pw_or (pt_not (pt_val (C8.pe_c c_lil hr (by first | decide | omega) rfl (pa_cons (pe_ix ix_list (pv 0) (pv 2) (fun _ _ => rfl)) pa_nil)))) (pw_or1 (pt_not (pt_val (C8.pe_c c_lin hr (by first | decide | omega) rfl (pa_cons (pe_ix ix_list (pv 0) (pe_op op_add (pv 2) pe_int) (fun _ _ => rfl)) pa_nil))))))) (pss_one (ps_ret (pe_tup (pa_cons pe_bl (pa_cons (pe_tup pa_nil) pa_nil))))) pss_nil)
      (pss_one (ps_expr (pe_bm PySem.F.plainAttrs_list PySem.F.slot_list_append PySem.F.type_list_append mt_append (pv 1) (pa_cons (pe_tup (pa_cons (pe_ix ix_list (pv 0) (pv 2) (fun _ _ => rfl)) (pa_cons (pe_callTy call_int_str (by rfl) Z.int (by decide +kernel) (pa_cons (pe_ix ix_list (pv 0) (pe_op op_add (pv 2) pe_int) (fun _ _ => rfl)) pa_nil)) pa_nil))) pa_nil))))))
      (pss_one (ps_ret (pe_tup (pa_cons (pe_cmpR op_eq (pe_op op_mod (pe_callB call_len_seq (by rfl) Z.len (by decide +kernel) (pa_cons (pv 0) pa_nil)) pe_int) pe_int (nomark _)) (pa_cons (pe_callTy call_tuple_of (by rfl) Z.tuple (by decide +kernel) (pa_cons (pv 1) pa_nil)) pa_nil))))))), ?_⟩
  dsimp only [gName]
  refine seq_asg ?_
  refine ⟨(by show 0 ≤ sizeLine; decide), fun fl nfl => ?_⟩
  have s1 : Same H (upd H fl (.lst [])) := Same.new nfl
  have hfl : (upd H fl (.lst [])) fl = some (.lst []) := upd_same
  have nlf : l ≠ fl := ne_of_none hl nfl
  generalize upd H fl (.lst []) = H1 at s1 hfl ⊢
  have hl1 := s1 _ _ hl
  have hwl : (ws.map V.str).length = ws.length := List.length_map _
  have sF : ∀ {H' : Hp}, Pg.Fr fl H1 H' → Same H H' := fun f b o e => f b o (ne_of_none e nfl) (s1 b o e)
  refine ⟨_, rfl, l, _, rfl, .inl (SqL.mk hl1), _, _, rfl, rfl, 0, _, 2, ws.length / 2, rfl, by rw [hwl]; exact rg_two _ (by omega), ?_⟩
  refine for_rangeC (lo := 0) (c := 2) (n := ws.length / 2) (fun i σ H' => (∃ o2 : Option V, σ = [some (.ref l), some (.ref fl), o2]) ∧ (∃ vs, H' fl = some (.lst vs) ∧ DpAll K H' vs ((List.range i).map (pdP ws))) ∧ (∀ j, j < i → gdP ws j = true) ∧ Pg.Fr fl H1 H')
    ⟨⟨none, rfl⟩, ⟨[], hfl, .nil⟩, fun j hj => absurd hj (Nat.not_lt_zero _), Fr.refl⟩ ?_ ?_
  · rintro i σ H2 hi ⟨⟨o2, rfl⟩, ⟨vs, hv, hd⟩, hg, fr⟩
    have hl2 := fr _ _ nlf hl1
    have i1 : 2 * i < ws.length := by omega
    have i2 : 2 * i + 1 < ws.length := by omega
    have m1 : wat ws (2 * i) ∈ ws := List.mem_of_getElem? (wat_get i1)
    have m2 : wat ws (2 * i + 1) ∈ ws := List.mem_of_getElem? (wat_get i2)
    have a1 : atI (ws.map V.str) (0 + (i : Int) * 2) = some (.str (wat ws (2 * i))) := by
      rw [show (0 + (i : Int) * 2) = ((2 * i : Nat) : Int) by omega, Pg.atI_get, List.getElem?_map, wat_get i1]
      rfl
    have a2 : atI (ws.map V.str) (0 + (i : Int) * 2 + 1) = some (.str (wat ws (2 * i + 1))) := by
      rw [show (0 + (i : Int) * 2 + 1) = ((2 * i + 1 : Nat) : Int) by omega, Pg.atI_get, List.getElem?_map, wat_get i2]
      rfl
    have z1 : (wat ws (2 * i)).length ≤ 100000 := hsz _ m1
    have z2 : (wat ws (2 * i + 1)).length ≤ 100000 := hsz _ m2
    have bad : gdP ws i = false → ∀ H3, Same H2 H3 → tRet (tTup (tCons (tC (V.bl false)) (tCons (tTup tNil) tNil))) { nx := fun _ _ => False, rt := Q } [some (.ref l), some (.ref fl), some (.int (0 + (i : Int) * 2))] H3 := fun e H3 s3 => by
      refine ⟨(by show 0 ≤ sizeLine; decide), fun p0 np0 => ⟨(by show 2 ≤ sizeLine; decide), fun p1 np1 => ?_⟩⟩
      have e1 := pairs_bad hi e
      refine q p1 (.ref p0) _ ((sF (fr.trans (Fr.of s3))).trans ((Same.new np0).trans (Same.new np1))) ?_ (fun ps z => by rw [e1] at z; cases z)
      rw [e1]
      exact SqT.mk upd_same
    refine ⟨_, rfl, _, rfl, l, _, _, _, rfl, rfl, SqL.mk hl2, a1, _, rfl, z1, fun H3 s3 => ⟨_, rfl, ite2 (fun e => ?_) (fun e => ?_)⟩⟩
    · have e : ltB (wat ws (2 * i)) = false := by simpa using e
      exact bad (by unfold gdP; rw [e, Bool.false_and]) H3 s3
    have e : ltB (wat ws (2 * i)) = true := by simpa using e
    refine ⟨_, rfl, _, rfl, _, _, rfl, rfl, l, _, _, _, rfl, rfl, SqL.mk (s3 _ _ hl2), a2, _, rfl, z2, (ha _ m2).2, fun H4 s4 => ⟨_, rfl, ite2 (fun e2 => ?_) (fun e2 => ?_)⟩⟩
    · have e2 : nbB (wat ws (2 * i + 1)) = false := by simpa using e2
      exact bad (by unfold gdP; rw [e2, Bool.and_false]) H4 (s3.trans s4)
    have e2 : nbB (wat ws (2 * i + 1)) = true := by simpa using e2
    have gi : gdP ws i = true := by unfold gdP; rw [e, e2]; rfl
    have s24 := s3.trans s4
    have hv4 := s24 _ _ hv
    have hl4 := s24 _ _ hl2
    refine ⟨_, rfl, .inl ⟨rfl, _, SqL.mk hv4⟩, _, rfl, _, rfl, l, _, _, _, rfl, rfl, SqL.mk hl4, a1, _, rfl, _, rfl, _, _, rfl, rfl, l, _, _, _, rfl, rfl, SqL.mk hl4, a2, _, _, rfl, nb_val e2, nb_len e2, (by show 2 ≤ sizeLine; decide), fun t nt => ?_⟩
    have hvl : vs.length = i := by have := dpAll_len hd; rw [List.length_map, List.length_range] at this; exact this
    refine ⟨fl, _, _, rfl, rfl, (Same.new nt) _ _ hv4, small1000 (by omega), ?_⟩
    have s5 : Same H4 (upd H4 t (.tup [.str (wat ws (2 * i)), .int (valN (wat ws (2 * i + 1)))])) := Same.new nt
    have ht5 : (upd H4 t (.tup [.str (wat ws (2 * i)), .int (valN (wat ws (2 * i + 1)))])) t = some (.tup [.str (wat ws (2 * i)), .int (valN (wat ws (2 * i + 1)))]) := upd_same
    generalize upd H4 t (.tup [.str (wat ws (2 * i)), .int (valN (wat ws (2 * i + 1)))]) = H5 at s5 ht5 ⊢
    have hv5 := s5 _ _ hv4
    have tk5 : TK K H5 (upd H5 fl (.lst (vs ++ [.ref t]))) := TK.put hv5
    refine ⟨⟨_, rfl⟩, ⟨_, upd_same, ?_⟩, fun j hj => ?_, (fr.trans (Fr.of (s24.trans s5))).trans Fr.own⟩
    · rw [List.range_succ, List.map_append]
      have so : solid.solidAll ((List.range i).map (pdP ws)) = true := solidAll_of fun d hd => by
        obtain ⟨j, _, rfl⟩ := List.mem_map.mp hd
        show solid (.tuple [.str _, .int _]) = true
        rw [solid, solid.solidAll, solid.solidAll, solid.solidAll, solid, solid]
        rfl
      refine dpAll_app (dpAll_so ((TK.same (s24.trans s5)).trans tk5) _ _ so hd) (.cons ?_ .nil)
      exact .tup (tk5 _ _ (SqT.mk ht5)) (.cons (.str _) (.cons (.int _) .nil))
    · rcases (by omega : j < i ∨ j = i) with z | z
      · exact hg j z
      · rw [z]; exact gi
  · rintro σ H2 ⟨⟨o2, rfl⟩, ⟨vs, hv, hd⟩, hg, fr⟩
    have hl2 := fr _ _ nlf hl1
    have ea := pairs_all hg
    refine ⟨_, rfl, l, _, rfl, .inl (SqL.mk hl2), _, _, rfl, rfl, (by show (0 : Int) < 2; decide), rfl, _, rfl, fl, _, rfl, .inl ⟨SqL.mk hv, fun t nt => ⟨(by show 2 ≤ sizeLine; decide), fun p np => ?_⟩⟩⟩
    have s3 := (Same.new (o := .tup vs) nt).trans (Same.new (o := .tup [V.bl (decide (V.int ((((ws.map V.str).length : Nat) : Int) % 2) = V.int 0)), .ref t]) np)
    refine q p (.ref t) _ ((sF fr).trans s3) ?_ (fun ps z => ?_)
    · rw [ea]
      have e : (if ws.length % 2 = 0 then some ((List.range (ws.length / 2)).map (pdP ws)) else none).isSome = decide (V.int ((((ws.map V.str).length : Nat) : Int) % 2) = V.int 0) := by
        rw [hwl]
        by_cases z : ws.length % 2 = 0
        · rw [if_pos z]
          exact (decide_eq_true (congrArg V.int (by omega))).symm
        · rw [if_neg z]
          exact (decide_eq_false fun w => by have := V.int.inj w; omega).symm
      rw [e]
      exact SqT.mk upd_same
    · rw [ea] at z
      by_cases y : ws.length % 2 = 0
      · rw [if_pos y] at z
        obtain rfl := Option.some.inj z
        have so : solid.solidAll ((List.range (ws.length / 2)).map (pdP ws)) = true := solidAll_of fun d hd => by
          obtain ⟨j, _, rfl⟩ := List.mem_map.mp hd
          show solid (.tuple [.str _, .int _]) = true
          rw [solid, solid.solidAll, solid.solidAll, solid.solidAll, solid, solid]
          rfl
        exact .tup (SqT.mk ((Same.new np) _ _ upd_same)) (dpAll_so (TK.same s3) _ _ so hd)
      · rw [if_neg y] at z
        cases z
end
end K80

set_option Elab.async false
set_option linter.all false
set_option maxRecDepth 100000
set_option maxHeartbeats 4000000
namespace Pg
open PySem PySem.Spec PyProof.Rows L2
section
/-! own rule: xs[lo::2] of a list, lo none or 1 -/
def evn {α : Type} : List α → List α
  | [] => []
  | [x] => [x]
  | x :: _ :: r => x :: evn r
theorem evn_map {α β : Type} (f : α → β) : ∀ l : List α, evn (l.map f) = (evn l).map f
  | [] => rfl
  | [_] => rfl
  | x :: y :: r => by
    show f x :: evn (r.map f) = f x :: (evn r).map f
    rw [evn_map f r]
theorem evn_len {α : Type} : ∀ l : List α, (evn l).length = (l.length + 1) / 2
  | [] => by simp [evn]
  | [_] => by simp [evn]
  | x :: y :: r => by
    show (evn r).length + 1 = (r.length + 1 + 1 + 1) / 2
    rw [evn_len r]
    omega
theorem evn_vals : ∀ {xs : List V} {us : List Value}, Vals xs us → Vals (evn xs) (evn us)
  | _, _, .nil => .nil
  | _, _, .cons a .nil => .cons a .nil
  | _, _, .cons a (.cons b t) => .cons a (evn_vals t)
theorem pick_evn {α : Type} (xs : Array α) : ∀ (l : List α) (a : Nat), xs.toList.drop a = l → ((List.range ((l.length + 1) / 2)).map fun k => a + 2 * k).filterMap (xs[·]?) = evn l
  | [], a, _ => by simp [evn]
  | [x], a, h => by
    have e : xs[a]? = some x := by
      rw [← Array.getElem?_toList]
      have : (xs.toList.drop a)[0]? = some x := by rw [h]; rfl
      rw [List.getElem?_drop] at this
      exact this
    have e1 : ([x].length + 1) / 2 = 1 := by simp
    rw [e1]
    show List.filterMap (xs[·]?) [a + 2 * 0] = [x]
    simp [e]
  | x :: y :: r, a, h => by
    have e : xs[a]? = some x := by
      rw [← Array.getElem?_toList]
      have : (xs.toList.drop a)[0]? = some x := by rw [h]; rfl
      rw [List.getElem?_drop] at this
      exact this
    have hd : xs.toList.drop (a + 2) = r := by
      rw [← List.drop_drop, h]
      rfl
    have ih := pick_evn xs r (a + 2) hd
    rw [show ((x :: y :: r).length + 1) / 2 = (r.length + 1) / 2 + 1 by rw [List.length_cons, List.length_cons]; omega, List.range_succ_eq_map, List.map_cons, List.map_map]
    show List.filterMap (xs[·]?) ((a + 2 * 0) :: _) = x :: evn r
    rw [List.filterMap_cons, show a + 2 * 0 = a by omega, e]
    show x :: _ = x :: evn r
    rw [← ih]
    congr 2
    refine List.map_congr_left fun k _ => ?_
    show a + 2 * (k + 1) = a + 2 + 2 * k
    omega
theorem sb0 (n : Nat) : PySem.sliceBounds none none (some 2) n = (((0 : Nat) : Int), ((n : Nat) : Int), 2) := by
  simp [PySem.sliceBounds]
theorem sb1 (n : Nat) : PySem.sliceBounds (some 1) none (some 2) n = (((min 1 n : Nat) : Int), ((n : Nat) : Int), 2) := by
  simp [PySem.sliceBounds]
  omega
theorem sr2 (a n : Nat) : PySem.sliceRange (a : Int) (n : Int) 2 = (List.range ((n - a + 1) / 2)).map fun k => a + 2 * k := by
  unfold PySem.sliceRange
  have e : (if (2 : Int) > 0 then (if (a : Int) < (n : Int) then ((n : Int) - (a : Int) + 2 - 1) / 2 else 0) else (if (a : Int) > (n : Int) then ((a : Int) - (n : Int) - 2 - 1) / (-2) else 0)).toNat = (n - a + 1) / 2 := by
    rw [if_pos (by decide)]
    split <;> omega
  show (List.range ((if (2 : Int) > 0 then (if (a : Int) < (n : Int) then ((n : Int) - (a : Int) + 2 - 1) / 2 else 0) else (if (a : Int) > (n : Int) then ((a : Int) - (n : Int) - 2 - 1) / (-2) else 0)).toNat)).map _ = _
  rw [e]
  refine List.map_congr_left fun k _ => ?_
  omega
theorem pick0 (l : List Value) : PySem.slicePick l.toArray none none (some 2) = (evn l).toArray := by
  unfold PySem.slicePick
  rw [sb0]
  have h := pick_evn l.toArray l 0 rfl
  show (List.filterMap _ (PySem.sliceRange ((0 : Nat) : Int) ((l.toArray.size : Nat) : Int) 2)).toArray = _
  rw [sr2, List.size_toArray, Nat.sub_zero, h]
theorem pick1 (l : List Value) : PySem.slicePick l.toArray (some 1) none (some 2) = (evn (l.drop 1)).toArray := by
  unfold PySem.slicePick
  rw [sb1]
  show (List.filterMap _ (PySem.sliceRange ((min 1 l.toArray.size : Nat) : Int) ((l.toArray.size : Nat) : Int) 2)).toArray = _
  rw [sr2, List.size_toArray]
  cases l with
  | nil => simp [evn]
  | cons x r =>
    have h := pick_evn (x :: r).toArray r 1 rfl
    rw [show min 1 (x :: r).length = 1 by rw [List.length_cons]; omega, show (x :: r).length - 1 = r.length from rfl, h]
    rfl
end
/-- xs[lo::2] of a list -/
def tEvn (K : PySem.W.Frag) (te : TE) (k : Nat) : TE := fun σ H Q => te σ H fun x H1 => ∃ a xs, x = .ref a ∧ SqL K H1 a xs ∧ ∀ p, H1 p = none → Q (.ref p) (upd H1 p (.lst (evn (xs.drop k))))
section
variable {X : Cx}
theorem pe_evn0 {e : Expr} {te : TE} {k : Nat} {p1 p3 pos : Pos} (he : PE X e te) :
    PE X (.Subscript e (.Slice none none (some (.Constant (.int 2) k p1)) p3) pos) (tEvn X.K te 0) := by
  refine ⟨fun pins s σ H Q I h => Subscript_ (thn (he.run pins s σ H _ I h) fun v s1 ⟨x, H1, I1, r1, q1⟩ => ?_)⟩
  obtain ⟨a, xs, ex, hx, q⟩ := q1
  subst ex
  cases r1
  have st1 : PO X (some (.Constant (.int 2) k p1)) (tPart (tC (.int 2))) := po_some pe_int
  refine wpAny_Slice (thn (po_none.run pins s1 σ H1 (fun o H2 => o = none ∧ H2 = H1) I1 ⟨rfl, rfl⟩) fun vl s2 ⟨l, H2, I2, pl, el, e2⟩ => ?_)
  subst el e2
  refine thn (po_none.run pins s2 σ H2 (fun o H3 => o = none ∧ H3 = H2) I2 ⟨rfl, rfl⟩) fun vu s3 ⟨u, H3, I3, pu, eu, e3⟩ => ?_
  subst eu e3
  refine thn (st1.run pins s3 σ H3 (fun o H4 => o = some 2 ∧ H4 = H3) I3 ⟨2, rfl, rfl, rfl⟩) fun vs s4 ⟨o, H4, I4, ps, eo, e4⟩ => ?_
  subst eo e4
  have I5 : Inv X pins σ H4 { s4 with heap := s4.heap.push { cls := .type "slice", data := .fields #[vl, vu, vs] } } := I4.kept (t' := s4.toks) fun b ob q => Heap.get?_push_of_some _ q
  obtain ⟨its, r, ht, hz⟩ := I5.list hx
  have hlen := r.length
  show wpAny (model X.prog X.w) X.A (subscriptTail e (.Slice none none (some (.Constant (.int 2) k p1)) p3) (.ref a) (.ref s4.heap.objs.size)) (EP X pins σ Q) X.xe { s4 with heap := s4.heap.push { cls := .type "slice", data := .fields #[vl, vu, vs] } }
  refine tail_any (ops := [.ref a, .ref s4.heap.objs.size]) ht.isList.typeIs (slot_list_getitem.lookup) ?_ (by with_unfolding_all rfl)
  refine wpAny_getItem_list_slice ht.isList (Heap.IsSliceOf.new ..) pl pu ps (by simp) ?_ (by rw [List.size_toArray]; omega)
  rw [pick0]
  refine ⟨.ref _, _, I5.laid (t' := s4.toks) (o := .lst (evn (xs.drop 0))) (fun b ob q => Heap.get?_push_of_some _ q) (Nat.le_refl _) ?_, rfl, q _ (I5.hok.fresh (Nat.le_refl _))⟩
  exact ⟨by rw [List.drop_zero, evn_len]; omega, _, 0, evn_vals r, Heap.get?_push_size _ rfl⟩
theorem pe_evn1 {e : Expr} {te : TE} {k k0 : Nat} {p0 p1 p3 pos : Pos} (he : PE X e te) :
    PE X (.Subscript e (.Slice (some (.Constant (.int 1) k0 p0)) none (some (.Constant (.int 2) k p1)) p3) pos) (tEvn X.K te 1) := by
  refine ⟨fun pins s σ H Q I h => Subscript_ (thn (he.run pins s σ H _ I h) fun v s1 ⟨x, H1, I1, r1, q1⟩ => ?_)⟩
  obtain ⟨a, xs, ex, hx, q⟩ := q1
  subst ex
  cases r1
  have st1 : PO X (some (.Constant (.int 2) k p1)) (tPart (tC (.int 2))) := po_some pe_int
  have st0 : PO X (some (.Constant (.int 1) k0 p0)) (tPart (tC (.int 1))) := po_some pe_int
  refine wpAny_Slice (thn (st0.run pins s1 σ H1 (fun o H2 => o = some 1 ∧ H2 = H1) I1 ⟨1, rfl, rfl, rfl⟩) fun vl s2 ⟨l, H2, I2, pl, el, e2⟩ => ?_)
  subst el e2
  refine thn (po_none.run pins s2 σ H2 (fun o H3 => o = none ∧ H3 = H2) I2 ⟨rfl, rfl⟩) fun vu s3 ⟨u, H3, I3, pu, eu, e3⟩ => ?_
  subst eu e3
  refine thn (st1.run pins s3 σ H3 (fun o H4 => o = some 2 ∧ H4 = H3) I3 ⟨2, rfl, rfl, rfl⟩) fun vs s4 ⟨o, H4, I4, ps, eo, e4⟩ => ?_
  subst eo e4
  have I5 : Inv X pins σ H4 { s4 with heap := s4.heap.push { cls := .type "slice", data := .fields #[vl, vu, vs] } } := I4.kept (t' := s4.toks) fun b ob q => Heap.get?_push_of_some _ q
  obtain ⟨its, r, ht, hz⟩ := I5.list hx
  have hlen := r.length
  show wpAny (model X.prog X.w) X.A (subscriptTail e (.Slice (some (.Constant (.int 1) k0 p0)) none (some (.Constant (.int 2) k p1)) p3) (.ref a) (.ref s4.heap.objs.size)) (EP X pins σ Q) X.xe { s4 with heap := s4.heap.push { cls := .type "slice", data := .fields #[vl, vu, vs] } }
  refine tail_any (ops := [.ref a, .ref s4.heap.objs.size]) ht.isList.typeIs (slot_list_getitem.lookup) ?_ (by with_unfolding_all rfl)
  refine wpAny_getItem_list_slice ht.isList (Heap.IsSliceOf.new ..) pl pu ps (by simp) ?_ (by rw [List.size_toArray]; omega)
  rw [pick1]
  refine ⟨.ref _, _, I5.laid (t' := s4.toks) (o := .lst (evn (xs.drop 1))) (fun b ob q => Heap.get?_push_of_some _ q) (Nat.le_refl _) ?_, rfl, q _ (I5.hok.fresh (Nat.le_refl _))⟩
  exact ⟨by rw [evn_len, List.length_drop]; omega, _, 0, evn_vals (r.drop 1), Heap.get?_push_size _ rfl⟩
end
end Pg
namespace Pg
open PySem PySem.Spec PyProof.Rows L2
theorem evn_get {α : Type} : ∀ (l : List α) (i : Nat), (evn l)[i]? = l[2 * i]?
  | [], i => by simp [evn]
  | [x], 0 => rfl
  | [x], i + 1 => by
    show ([] : List α)[i]? = _
    rw [show 2 * (i + 1) = 2 * i + 1 + 1 by omega]
    rfl
  | x :: y :: r, 0 => rfl
  | x :: y :: r, i + 1 => by
    show (evn r)[i]? = _
    rw [evn_get r i, show 2 * (i + 1) = 2 * i + 1 + 1 by omega]
    rfl
theorem odd_none : ∀ {ws : List Str}, ws.length % 2 ≠ 0 → pairsD ws = none
  | [], h => absurd rfl h
  | [_], _ => rfl
  | x :: y :: r, h => by
    have ih := odd_none (ws := r) (by rw [List.length_cons, List.length_cons] at h; omega)
    unfold pairsD
    rw [ih]
    split <;> rfl
theorem pdP_solid (ws : List Str) (l : List Nat) : solid.solidAll (l.map (pdP ws)) = true := solidAll_of fun d hd => by
  obtain ⟨j, _, rfl⟩ := List.mem_map.mp hd
  show solid (.tuple [.str _, .int _]) = true
  rw [solid, solid.solidAll, solid.solidAll, solid.solidAll, solid, solid]
  rfl
end Pg

set_option Elab.async false
set_option linter.all false
set_option maxRecDepth 100000
set_option maxHeartbeats 4000000
namespace K80
open PySem PySem.Spec PyProof.Rows L2 Pg
section
variable {P : Program} {w : World} {K : PySem.W.Frag} {mg : Str → Option Value} {base : Heap} {f : Addr} {fd : FuncData} {rsa : Addr}
abbrev s_rps : Stmt := top 12
abbrev N_rps : List Str := ["words", "pairs", "word", "number"]
abbrev P_rps : List Str := ["words"]
theorem sc_rps : FnScope N_rps P_rps (defScope s_rps) := ⟨rfl, rfl, rfl, by decide +kernel, rfl, by decide +kernel, by decide +kernel⟩

theorem ok_rps (F : FnP K "read_pairs" s_rps f fd) (hm : mg "read_pairs" = some (.ref f)) (Z : Zs mg) (c_ltr : Cal P w K mg base 2 "is_letters" spLtr []) (c_num : Cal P w K mg base 1 "is_number" spNbr []) : Cal P w K mg base 3 "read_pairs" (spRps K) [] := by
  refine mk_cal F hm sc_rps (fun _ _ _ _ _ _ us hl => match us, hl with | [_], _ => rfl) (fun vs H Q E h => ?_) (fun cdv A outer s H vs Q E hr h => ?_)
  · obtain ⟨l, ws, rfl, _⟩ := h
    rfl
  obtain ⟨l, ws, rfl, hl, ha, hlen, hsz, q⟩ := h
  refine ⟨_, (pss_cons (ps_if (pt_cmpR op_ne (pe_callB call_len_seq (by rfl) Z.len (by decide +kernel) (pa_cons (pv 0) pa_nil)) (pe_op op_mul (pe_op op_fdiv (pe_callB call_len_seq (by rfl) Z.len (by decide +kernel) (pa_cons (pv 0) pa_nil)) pe_int) pe_int) (nomark _)) (pss_one (ps_ret pe_non)) pss_nil)
      (pss_cons (ps_set (i := 1) sc_rps.nd rfl (by first | exact Or.inl rfl | exact Or.inr rfl) (pe_lst pa_nil))
      (pss_cons (ps_for PassesOwn.never rfl (RZ.pi_zipA (by rfl) Z.zip (pa_cons (pe_evn0 (pv 0)) (pa_cons (pe_evn1 (pv 0)) pa_nil))) (pg_tup rfl (pgs_cons (pg_name (i := 2) sc_rps.nd rfl (by first | exact Or.inl rfl | exact Or.inr rfl)) (pgs_cons (pg_name (i := 3) sc_rps.nd rfl (by first | exact Or.inl rfl | exact Or.inr rfl)) pgs_nil))) (pss_cons (ps_if (PW.pt (pw_or (pt_not (pt_val (C8.pe_c c_ltr hr (by first | decide | omega) rfl (pa_cons (pv 2) pa_nil)))) (pw_or1 (pt_not (pt_val (C8.pe_c c_num hr (by first | decide | omega) rfl (pa_cons (pv 3) pa_nil))))))) (pss_one (ps_ret pe_non)) pss_nil)
      (pss_one (ps_expr (pe_bm PySem.F.plainAttrs_list PySem.F.slot_list_append PySem.F.type_list_append mt_append (pv 1) (pa_cons (pe_tup (pa_cons (pv 2) (pa_cons (pe_callTy call_int_str (by rfl) Z.int (by decide +kernel) (pa_cons (pv 3) pa_nil)) pa_nil))) pa_nil))))))
      (pss_one (ps_ret (pe_callTy call_tuple_of (by rfl) Z.tuple (by decide +kernel) (pa_cons (pv 1) pa_nil))))))), ?_⟩
  have hwl : (ws.map V.str).length = ws.length := List.length_map _
  refine ⟨_, rfl, l, _, rfl, .inl (SqL.mk hl), _, rfl, l, _, rfl, .inl (SqL.mk hl), _, _, rfl, rfl, ⟨by decide, by decide⟩, _, _, rfl, rfl, .inr ⟨by decide, by decide⟩, rfl, _, rfl, ite2 (fun e => ?_) (fun e => ?_)⟩
  · have e : ws.length % 2 ≠ 0 := fun z => by
      rw [hwl, decide_eq_true (congrArg V.int (show (((ws.length : Nat)) : Int) = ((ws.length : Nat) : Int) / 2 * 2 by omega))] at e
      cases e
    have q1 := q .non H (Same.refl H)
    rw [odd_none e] at q1
    exact q1 .non
  have ev : ws.length % 2 = 0 := by
    have e : decide (V.int (((ws.map V.str).length : Nat) : Int) = V.int ((((ws.map V.str).length : Nat) : Int) / 2 * 2)) = true := by simpa using e
    have := V.int.inj (of_decide_eq_true e)
    rw [hwl] at this
    omega
  dsimp only [tNext, gName]
  refine seq_asg ?_
  refine ⟨(by show 0 ≤ sizeLine; decide), fun fl nfl => ?_⟩
  have s1 : Same H (upd H fl (.lst [])) := Same.new nfl
  have hfl : (upd H fl (.lst [])) fl = some (.lst []) := upd_same
  have nlf : l ≠ fl := ne_of_none hl nfl
  generalize upd H fl (.lst []) = H1 at s1 hfl ⊢
  have hl1 := s1 _ _ hl
  have sF : ∀ {H' : Hp}, Pg.Fr fl H1 H' → Same H H' := fun f b o e => f b o (ne_of_none e nfl) (s1 b o e)
  dsimp only [gName]
  refine ⟨_, rfl, l, _, rfl, SqL.mk hl1, fun a na => ⟨_, rfl, l, _, rfl, SqL.mk ((Same.new na) _ _ hl1), fun b nb => ⟨a, b, _, _, rfl, .inl ⟨SqL.mk ((Same.new nb) _ _ upd_same), SqL.mk upd_same, ?_⟩⟩⟩⟩
  have naf : fl ≠ a := ne_of_none hfl na
  have nbf : fl ≠ b := ne_of_none ((Same.new na) _ _ hfl) nb
  have s2 : Same H1 (upd (upd H1 a (.lst (evn ((ws.map V.str).drop 0)))) b (.lst (evn ((ws.map V.str).drop 1)))) := (Same.new na).trans (Same.new nb)
  have hA : (upd (upd H1 a (.lst (evn ((ws.map V.str).drop 0)))) b (.lst (evn ((ws.map V.str).drop 1)))) a = some (.lst (evn ((ws.map V.str).drop 0))) := (Same.new nb) _ _ upd_same
  have hB : (upd (upd H1 a (.lst (evn ((ws.map V.str).drop 0)))) b (.lst (evn ((ws.map V.str).drop 1)))) b = some (.lst (evn ((ws.map V.str).drop 1))) := upd_same
  generalize upd (upd H1 a (.lst (evn ((ws.map V.str).drop 0)))) b (.lst (evn ((ws.map V.str).drop 1))) = H2 at s2 hA hB ⊢
  have hf2 := s2 _ _ hfl
  refine for_it (walk_zip (K := K) (a := a) (b := b) (xs := evn ((ws.map V.str).drop 0)) (ys := evn ((ws.map V.str).drop 1)) (n := ws.length / 2) (by rw [evn_len, evn_len, List.length_drop, List.length_drop, hwl]; omega))
    (fun i σ H' => (∃ o2 o3 : Option V, σ = [some (.ref l), some (.ref fl), o2, o3]) ∧ (∃ vs, H' fl = some (.lst vs) ∧ DpAll K H' vs ((List.range i).map (pdP ws))) ∧ (∀ j, j < i → gdP ws j = true) ∧ Pg.Fr fl H2 H')
    ⟨⟨none, none, rfl⟩, ⟨[], hf2, .nil⟩, fun j hj => absurd hj (Nat.not_lt_zero _), Fr.refl⟩ (fun i σ H' _ iv => ⟨SqL.mk (iv.2.2.2 _ _ (Ne.symm naf) hA), SqL.mk (iv.2.2.2 _ _ (Ne.symm nbf) hB)⟩) ?_ ?_
  · rintro i y σ H3 H4 hi ⟨⟨o2, o3, rfl⟩, ⟨vs, hv, hd⟩, hg, fr⟩ ⟨T, x1, x2, rfl, nT, rfl, e1, e2⟩
    have i1 : 2 * i < ws.length := by omega
    have i2 : 2 * i + 1 < ws.length := by omega
    have m1 : wat ws (2 * i) ∈ ws := List.mem_of_getElem? (wat_get i1)
    have m2 : wat ws (2 * i + 1) ∈ ws := List.mem_of_getElem? (wat_get i2)
    dsimp only at e1 e2
    rw [evn_get, List.getElem?_drop, Nat.zero_add, List.getElem?_map, wat_get i1] at e1
    rw [evn_get, List.getElem?_drop, Nat.add_comm 1, List.getElem?_map, wat_get i2] at e2
    obtain rfl := Option.some.inj e1
    obtain rfl := Option.some.inj e2
    have z1 : (wat ws (2 * i)).length ≤ 100000 := hsz _ m1
    have z2 : (wat ws (2 * i + 1)).length ≤ 100000 := hsz _ m2
    have sT : Same H3 (upd H3 T (.tup [.str (wat ws (2 * i)), .str (wat ws (2 * i + 1))])) := Same.new nT
    have bad : gdP ws i = false → ∀ H5, Same H3 H5 → Q .non H5 := fun e H5 s5 => by
      have q1 := q .non H5 ((sF (Fr.trans (Fr.of s2) fr)).trans s5)
      rw [pairs_bad hi e] at q1
      exact q1 .non
    refine ⟨T, _, rfl, SqT.mk upd_same, rfl, _, _, rfl, _, _, rfl, rfl, ?_⟩
    refine ⟨_, rfl, _, rfl, z1, fun H5 s5 => ⟨_, rfl, ite2 (fun e => ?_) (fun e => ?_)⟩⟩
    · have e : ltB (wat ws (2 * i)) = false := by simpa using e
      exact bad (by unfold gdP; rw [e, Bool.false_and]) H5 (sT.trans s5)
    have e : ltB (wat ws (2 * i)) = true := by simpa using e
    refine ⟨_, rfl, _, rfl, z2, (ha _ m2).2, fun H6 s6 => ⟨_, rfl, ite2 (fun e2 => ?_) (fun e2 => ?_)⟩⟩
    · have e2 : nbB (wat ws (2 * i + 1)) = false := by simpa using e2
      exact bad (by unfold gdP; rw [e2, Bool.and_false]) H6 (sT.trans (s5.trans s6))
    have e2 : nbB (wat ws (2 * i + 1)) = true := by simpa using e2
    have gi : gdP ws i = true := by unfold gdP; rw [e, e2]; rfl
    have s36 := sT.trans (s5.trans s6)
    have hv6 := s36 _ _ hv
    refine ⟨_, rfl, .inl ⟨rfl, _, SqL.mk hv6⟩, _, rfl, _, rfl, _, _, rfl, nb_val e2, nb_len e2, (by show 2 ≤ sizeLine; decide), fun t nt => ?_⟩
    have hvl : vs.length = i := by have := dpAll_len hd; rw [List.length_map, List.length_range] at this; exact this
    refine ⟨fl, _, _, rfl, rfl, (Same.new nt) _ _ hv6, small1000 (by omega), ?_⟩
    have s7 : Same H6 (upd H6 t (.tup [.str (wat ws (2 * i)), .int (valN (wat ws (2 * i + 1)))])) := Same.new nt
    have ht7 : (upd H6 t (.tup [.str (wat ws (2 * i)), .int (valN (wat ws (2 * i + 1)))])) t = some (.tup [.str (wat ws (2 * i)), .int (valN (wat ws (2 * i + 1)))]) := upd_same
    generalize upd H6 t (.tup [.str (wat ws (2 * i)), .int (valN (wat ws (2 * i + 1)))]) = H7 at s7 ht7 ⊢
    have tk7 : TK K H7 (upd H7 fl (.lst (vs ++ [.ref t]))) := TK.put (s7 _ _ hv6)
    refine ⟨⟨_, _, rfl⟩, ⟨_, upd_same, ?_⟩, fun j hj => ?_, (fr.trans (Fr.of (s36.trans s7))).trans Fr.own⟩
    · rw [List.range_succ, List.map_append]
      refine dpAll_app (dpAll_so ((TK.same (s36.trans s7)).trans tk7) _ _ (pdP_solid _ _) hd) (.cons ?_ .nil)
      exact .tup (tk7 _ _ (SqT.mk ht7)) (.cons (.str _) (.cons (.int _) .nil))
    · rcases (by omega : j < i ∨ j = i) with z | z
      · exact hg j z
      · rw [z]; exact gi
  · rintro σ H3 ⟨⟨o2, o3, rfl⟩, ⟨vs, hv, hd⟩, hg, fr⟩
    refine ⟨_, rfl, fl, _, rfl, .inl ⟨SqL.mk hv, fun t nt => ?_⟩⟩
    have q1 := q (.ref t) _ ((sF (Fr.trans (Fr.of s2) fr)).trans (Same.new (o := .tup vs) nt))
    rw [pairs_all hg, if_pos ev] at q1
    exact q1 (.tup (SqT.mk upd_same) (dpAll_so (TK.new nt) _ _ (pdP_solid _ _) hd))
end
end K80

set_option Elab.async false
set_option linter.all false
set_option maxRecDepth 100000
set_option maxHeartbeats 4000000
namespace Pg
open PySem PySem.Spec PyProof.Rows L2
def smc : Str := PySem.Str.ofString ";"
/-- what begin says -/
def begD (ws : List Str) : PyData := if smc ∈ ws then (match pairsD (ws.take (ws.idxOf smc)), pairsD (ws.drop (ws.idxOf smc + 1)) with
  | some a, some b => .tuple [.str "begin", .tuple a, .tuple b]
  | _, _ => .none) else .none
def spRbg (K : PySem.W.Frag) : Sp := fun vs H Q _ => ∃ (l : Addr) (ws : List Str), vs = [.ref l] ∧ H l = some (.lst (ws.map V.str)) ∧ AscW ws ∧ ws.length ≤ 1000 ∧ (∀ p ∈ ws, p.length ≤ 100000) ∧
  ∀ v H', Same H H' → Dp K H' v (begD ws) → Q v H'
end Pg
namespace Pg
open PySem PySem.Spec PyProof.Rows L2
theorem idx_le : ∀ {ws : List Str} {m : Nat} (h : m < ws.length), ws.idxOf ws[m] ≤ m
  | x :: ws, 0, h => by
    rw [List.getElem_cons_zero, List.idxOf_cons]
    simp
  | x :: ws, m + 1, h => by
    have ih := idx_le (ws := ws) (m := m) (by simpa using h)
    rw [List.getElem_cons_succ, List.idxOf_cons]
    cases e : x == ws[m]'(by simpa using h) with
    | true => exact Nat.zero_le _
    | false =>
      show ws.idxOf _ + 1 ≤ m + 1
      omega
end Pg

set_option Elab.async false
set_option linter.all false
set_option maxRecDepth 100000
set_option maxHeartbeats 4000000
namespace K80
open PySem PySem.Spec PyProof.Rows L2 Pg
section
variable {P : Program} {w : World} {K : PySem.W.Frag} {mg : Str → Option Value} {base : Heap} {f : Addr} {fd : FuncData} {rsa : Addr}
abbrev s_rbg : Stmt := top 11
abbrev N_rbg : List Str := ["words", "at", "signs", "marks"]
abbrev P_rbg : List Str := ["words"]
theorem sc_rbg : FnScope N_rbg P_rbg (defScope s_rbg) := ⟨rfl, rfl, rfl, by decide +kernel, rfl, by decide +kernel, by decide +kernel⟩

theorem ok_rbg (F : FnP K "read_begin" s_rbg f fd) (hm : mg "read_begin" = some (.ref f)) (Z : Zs mg) (c_rps : Cal P w K mg base 3 "read_pairs" (spRps K) []) : Cal P w K mg base 4 "read_begin" (spRbg K) [] := by
  refine mk_cal F hm sc_rbg (fun _ _ _ _ _ _ us hl => match us, hl with | [_], _ => rfl) (fun vs H Q E h => ?_) (fun cdv A outer s H vs Q E hr h => ?_)
  · obtain ⟨l, ws, rfl, _⟩ := h
    rfl
  obtain ⟨l, ws, rfl, hl, ha, hlen, hsz, q⟩ := h
  refine ⟨_, (pss_cons (ps_if (pt_cmpR op_notIn_seq pe_str (pv 0) (by rfl)) (pss_one (ps_ret pe_non)) pss_nil)
      (pss_cons (ps_set (i := 1) sc_rbg.nd rfl (by first | exact Or.inl rfl | exact Or.inr rfl) (pe_bm PySem.F.plainAttrs_list PySem.F.slot_list_index PySem.F.type_list_index mt_index (pv 0) (pa_cons pe_str pa_nil)))
      (pss_cons (ps_set (i := 2) sc_rbg.nd rfl (by first | exact Or.inl rfl | exact Or.inr rfl) (C8.pe_c c_rps hr (by first | decide | omega) rfl (pa_cons (pe_slice sl_list (pv 0) po_none (po_some (pv 1))) pa_nil)))
      (pss_cons (ps_set (i := 3) sc_rbg.nd rfl (by first | exact Or.inl rfl | exact Or.inr rfl) (C8.pe_c c_rps hr (by first | decide | omega) rfl (pa_cons (pe_slice sl_list (pv 0) (po_some (pe_op op_add (pv 1) pe_int)) po_none) pa_nil)))
      (pss_cons (ps_if (PW.pt (pw_or (pt_cmpR op_isN (pv 2) pe_non (nomark _)) (pw_or1 (pt_cmpR op_isN (pv 3) pe_non (nomark _))))) (pss_one (ps_ret pe_non)) pss_nil)
      (pss_one (ps_ret (pe_tup (pa_cons pe_str (pa_cons (pv 2) (pa_cons (pv 3) pa_nil))))))))))), ?_⟩
  refine ⟨_, rfl, l, _, rfl, .inl (SqL.mk hl), rfl, Pg.flat_strs _, _, rfl, ?_⟩
  rw [inV_strs]
  refine ite2 (fun e => ?_) (fun e => ?_)
  · have e : smc ∉ ws := by simpa [smc] using e
    have q1 := q .non H (Same.refl H)
    unfold begD at q1
    rw [if_neg e] at q1
    exact q1 .non
  have e : smc ∈ ws := by simpa [smc] using e
  have hi : ws.idxOf smc < ws.length := List.idxOf_lt_length_of_mem e
  have get : ∀ m : Nat, (ws.map V.str)[m]? = (ws[m]?).map V.str := fun m => List.getElem?_map
  dsimp only [tNext]
  refine seq_asg ?_
  obtain ⟨i, ei⟩ : ∃ i, i = ws.idxOf smc := ⟨_, rfl⟩
  refine ⟨_, rfl, .inl ⟨rfl, _, SqL.mk hl⟩, l, _, .str smc, i, .str smc, rfl, rfl, SqL.mk hl, rfl, ?_, ?_, (by show decide (smc = smc) = true; simp), fun m z hm hz => ?_, ?_⟩
  · rw [List.all_map]; exact List.all_eq_true.mpr fun _ _ => rfl
  · rw [get, List.getElem?_eq_getElem (by rw [ei]; exact hi)]
    subst ei
    rw [List.getElem_idxOf]
    rfl
  · rw [get] at hz
    cases e1 : ws[m]? with
    | none => rw [e1] at hz; cases hz
    | some t =>
      rw [e1] at hz
      cases hz
      show decide (t = smc) = false
      refine decide_eq_false fun c => ?_
      rw [c] at e1
      obtain ⟨hm1, e2⟩ := List.getElem?_eq_some_iff.mp e1
      have : ws.idxOf smc ≤ m := by
        rw [← e2]
        exact idx_le hm1
      omega
  have tkA : AscW (ws.take i) := fun p hp => ha p (List.mem_of_mem_take hp)
  have drA : AscW (ws.drop (i + 1)) := fun p hp => ha p (List.mem_of_mem_drop hp)
  have eb : begD ws = (match pairsD (ws.take i), pairsD (ws.drop (i + 1)) with | some a, some b => .tuple [.str "begin", .tuple a, .tuple b] | _, _ => .none) := by
    unfold begD
    rw [if_pos e, ei] <;> rfl
  dsimp only [gName]
  refine ⟨_, rfl, _, rfl, (i : Int), rfl, l, _, rfl, SqL.mk hl, fun p1 np1 => ?_⟩
  rw [cutV_take, ← List.map_take]
  have s1 : Same H (upd H p1 (.lst ((ws.take i).map V.str))) := Same.new np1
  refine ⟨p1, ws.take i, rfl, upd_same, tkA, by rw [List.length_take]; omega, fun p hp => hsz p (List.mem_of_mem_take hp), fun v1 H1 s2 d1 => ?_⟩
  have hl1 := (s1.trans s2) _ _ hl
  refine ⟨_, rfl, _, rfl, _, _, rfl, rfl, ((i + 1 : Nat) : Int), rfl, l, _, rfl, SqL.mk hl1, fun p2 np2 => ?_⟩
  rw [cutV_drop, ← List.map_drop]
  have s3 : Same H1 (upd H1 p2 (.lst ((ws.drop (i + 1)).map V.str))) := Same.new np2
  refine ⟨p2, ws.drop (i + 1), rfl, upd_same, drA, by rw [List.length_drop]; omega, fun p hp => hsz p (List.mem_of_mem_drop hp), fun v2 H2 s4 d2 => ?_⟩
  have s14 := (s1.trans s2).trans (s3.trans s4)
  have q1 := fun v H' s' => q v H' (s14.trans s')
  rw [eb] at q1
  cases e1 : pairsD (ws.take i) with
  | none =>
    rw [e1] at d1 q1
    cases d1
    exact ⟨_, rfl, rfl, _, rfl, ite2 (fun _ => q1 _ _ (Same.refl _) .non) (fun z => absurd (decide_eq_true rfl) z)⟩
  | some a =>
    rw [e1] at d1 q1
    cases d1 with
    | @tup t1 u1 _ h1 a1 =>
    cases e2 : pairsD (ws.drop (i + 1)) with
    | none =>
      rw [e2] at d2 q1
      cases d2
      exact ⟨_, rfl, rfl, _, rfl, ite2 (fun z => by simp at z) (fun _ => ⟨_, rfl, rfl, _, rfl, ite2 (fun _ => q1 _ _ (Same.refl _) .non) (fun z => absurd (decide_eq_true rfl) z)⟩)⟩
    | some b =>
      rw [e2] at d2 q1
      cases d2 with
      | @tup t2 u2 _ h2 a2 =>
      refine ⟨_, rfl, rfl, _, rfl, ite2 (fun z => by simp at z) (fun _ => ⟨_, rfl, rfl, _, rfl, ite2 (fun z => by simp at z) (fun _ => ?_)⟩)⟩
      refine ⟨_, rfl, _, rfl, (by show 3 ≤ sizeLine; decide), fun t nt => ?_⟩
      have s5 : Same H2 (upd H2 t (.tup [.str (PySem.Str.ofString "begin"), .ref t1, .ref t2])) := Same.new nt
      have d1 : Dp K H1 (.ref t1) (.tuple a) := .tup h1 a1
      have d2 : Dp K H2 (.ref t2) (.tuple b) := .tup h2 a2
      exact q1 _ _ s5 (.tup (SqT.mk upd_same) (.cons (.str _) (.cons (dp_same ((s3.trans s4).trans s5) _ _ d1) (.cons (dp_same s5 _ _ d2) .nil))))
end
end K80

set_option Elab.async false
set_option linter.all false
set_option maxRecDepth 100000
set_option maxHeartbeats 4000000
namespace Pg
open PySem PySem.Spec PyProof.Rows L2
/-- a number's text -/
def nmS (n : Nat) : Str := PySem.Str.ofString (toString ((n : Nat) : Int))
theorem cs_nm (n : Nat) : cs (nmS n) = TL.numL n := TL.tl_num n
theorem nm_dig (n : Nat) : ∀ c ∈ cs (nmS n), 48 ≤ c ∧ c ≤ 57 := fun c hc => by
  rw [cs_nm] at hc
  exact TL.numL_digits n c hc
theorem nm_asc (n : Nat) : Asc (nmS n) := fun c hc => by have := nm_dig n c hc; omega
theorem nm_nosp (n : Nat) : NoSp (nmS n) := fun hc => by have := nm_dig n 32 hc; omega
theorem numL_head : ∀ (k n : Nat), n < k → (TL.numL n).head? = some 48 → n = 0
  | 0, n, h, _ => absurd h (Nat.not_lt_zero _)
  | k + 1, n, h, e => by
    by_cases z : n < 10
    · rw [TL.numL_lt z] at e
      have e := Option.some.inj e
      omega
    · rw [TL.numL_step (by omega), List.head?_append] at e
      have hne := TL.numL_ne (n / 10)
      cases hs : TL.numL (n / 10) with
      | nil => exact absurd hs hne
      | cons c r =>
        rw [hs] at e
        have := numL_head k (n / 10) (by omega) (by rw [hs]; exact e)
        omega
theorem nm_nb {n : Nat} (h : n < 10000000) : nbB (nmS n) = true := by
  unfold nbB
  rw [cs_nm]
  have h1 : 1 ≤ (TL.numL n).length := List.length_pos_iff.mpr (TL.numL_ne n)
  have h2 := TL.numL_len (n := n) (k := 7) (by decide) h
  have h3 : (TL.numL n).all dgC = true := List.all_eq_true.mpr fun c hc => by
    have := TL.numL_digits n c hc
    unfold dgC
    rw [decide_eq_true this.1, decide_eq_true this.2]
    rfl
  rw [decide_eq_true h1, decide_eq_true h2, h3, Bool.true_and, Bool.true_and]
  by_cases e : (TL.numL n).head? = some 48
  · have := numL_head (n + 1) n (by omega) e
    subst this
    decide +kernel
  · rw [decide_eq_false e]
    simp
def spNmb : Sp := fun vs H Q _ => ∃ (a n : Addr) (m : Int), vs = [.ref a] ∧ StA H a n m ∧ m < 800000 ∧ ∀ (k : Nat) H', k < 10000000 → Fr a H H' → StA H' a n (m + 3) → Q (.str (nmS k)) H'
end Pg
namespace Pg
open PySem PySem.Spec PyProof.Rows L2
/-- two data alike -/
def spSam80 (K : PySem.W.Frag) : Sp := fun vs H Q _ => ∃ (v1 v2 : V) (d : PyData), vs = [v1, v2] ∧ Dp K H v1 d ∧ Dp K H v2 d ∧ Sh 5 100000 d ∧ PyData.hasDict d = false ∧ ∀ H', Same H H' → Q (.bl true) H'
end Pg

set_option Elab.async false
set_option linter.all false
set_option maxRecDepth 100000
set_option maxHeartbeats 4000000
namespace Pg
open PySem PySem.Spec PyProof.Rows L2
def tmenu : List Str := ["even(z)", "all x", "", " ", "s(x) if", ";", "not", "0", "state q 0;letter a", "q", "A"]
theorem tmenu_ok : ∀ x ∈ tmenu, Asc x ∧ x.length ≤ 20 := by unfold tmenu Asc; decide +kernel
def spLtx : Sp := fun vs H Q _ => ∃ (a n : Addr) (m : Int), vs = [.ref a] ∧ StA H a n m ∧ m < 800000 ∧ ∀ (x : Str) H', Asc x → x.length ≤ 100 → Fr a H H' → StA H' a n (m + 10) → Q (.str x) H'
theorem jn_asc : ∀ {W : List Str}, (∀ p ∈ W, Asc p) → Asc (jn W)
  | [], _ => fun c hc => by
    have : cs (jn []) = [] := by
      show TL.tl (Txt.join sp1 []) = []
      rw [TL.join_eq, TL.tl_join] <;> rfl
    rw [this] at hc
    cases hc
  | w :: ws, h => by
    by_cases e : ws = []
    · subst e
      rw [jn_one]
      exact h w (List.mem_cons_self ..)
    · rw [jn_cons e]
      intro c hc
      rw [cs_app, cs_app] at hc
      rcases List.mem_append.mp hc with z | z
      · rcases List.mem_append.mp z with y | y
        · exact h w (List.mem_cons_self ..) c y
        · have : c ∈ [32] := by rw [← tl_sp1]; exact y
          rw [List.mem_singleton.mp this]
          decide
      · exact jn_asc (fun p hp => h p (List.mem_cons_of_mem _ hp)) c z
theorem jn_len {n : Nat} : ∀ {W : List Str}, (∀ p ∈ W, p.length ≤ n) → (jn W).length ≤ W.length * (n + 1)
  | [], _ => by
    have : cs (jn []) = [] := by
      show TL.tl (Txt.join sp1 []) = []
      rw [TL.join_eq, TL.tl_join] <;> rfl
    rw [cs_len, this]
    exact Nat.zero_le _
  | w :: ws, h => by
    have hw := h w (List.mem_cons_self ..)
    by_cases e : ws = []
    · subst e
      rw [jn_one, List.length_cons, List.length_nil]
      omega
    · have ih := jn_len (W := ws) fun p hp => h p (List.mem_cons_of_mem _ hp)
      rw [jn_cons e, cs_len, cs_app, cs_app, List.length_append, List.length_append, List.length_cons, Nat.add_mul]
      have e1 : (cs sp1).length = 1 := by
        rw [show cs sp1 = [32] from tl_sp1]
        rfl
      have e2 := cs_len w
      have e3 := cs_len (jn ws)
      omega
end Pg
namespace Pg
open PySem PySem.Spec PyProof.Rows L2
theorem sum_lens80 {n : Nat} : ∀ {W : List Str}, (∀ p ∈ W, p.length ≤ n) → (W.map (·.length)).sum ≤ W.length * n
  | [], _ => Nat.zero_le _
  | w :: ws, h => by
    have hw := h w (List.mem_cons_self ..)
    have ih := sum_lens80 (W := ws) fun p hp => h p (List.mem_cons_of_mem _ hp)
    rw [List.map_cons, List.sum_cons, List.length_cons, Nat.add_mul]
    omega
end Pg

set_option Elab.async false
set_option linter.all false
set_option maxRecDepth 100000
set_option maxHeartbeats 4000000
namespace Pg
open PySem PySem.Spec PyProof.Rows L2
/-- what a line of the words w, ws says (none: no command) -/
def wtxt : List Str := ["rule", "keep", "ask", "find", "marks", "game"]
def wwrd : List Str := ["reader", "win"]
def fms : List (Str × List Bool) := [("drop", [false]), ("let", [false]), ("undo", []), ("since", [false]), ("rows", []), ("row", [false]), ("count", [true, false]), ("tree", [true, false, false])]
/-- the parts of a form: true a word, false a number -/
def fmD : List Bool → List Str → Option (List PyData)
  | [], [] => some []
  | true :: fs, x :: r => if ltB x then (fmD fs r).map fun ds => .str x :: ds else none
  | false :: fs, x :: r => if nbB x then (fmD fs r).map fun ds => .int (valN x) :: ds else none
  | _, _ => none
def formD (w : Str) (ws : List Str) : PyData := match fms.lookup w with
  | some fs => (match fmD fs ws with | some ds => .tuple (.str w :: ds) | none => .none)
  | none => .none
def cmdD (w : Str) (ws : List Str) : PyData :=
  if w = Str.empty ∧ ws = [] then .tuple []
  else if w ∈ wtxt then (if ws = [] then .none else .tuple [.str w, .str (jn ws)])
  else if w = "place" then placeD ws
  else if w = "begin" then begD ws
  else if w ∈ wwrd then (if ws.all ltB then .tuple (.str w :: ws.map .str) else .none)
  else formD w ws
end Pg

set_option Elab.async false
set_option linter.all false
set_option maxRecDepth 100000
set_option maxHeartbeats 4000000
namespace Pg
open PySem PySem.Spec PyProof.Rows L2
/-! ### zip of a text and a list -/
def ItZt (K : PySem.W.Frag) (x : Str) (b : Addr) : It :=
  ⟨fun i H => ∃ (ys : List V) (c : Nat) (y : V), SqL K H b ys ∧ x.cps[i]? = some c ∧ ys[i]? = some y,
    fun i H v H' => ∃ T c y, v = .ref T ∧ H T = none ∧ H' = upd H T (.tup [.str ⟨#[c]⟩, y]) ∧ x.cps[i]? = some c ∧ ∀ ys, SqL K H b ys → ys[i]? = some y,
    fun i H => ∃ ys : List V, SqL K H b ys ∧ i = min x.cps.size ys.length⟩
/-- where the zip, its iterators and its pairs stand -/
def ZtAt (z TI TO i1 i2 b : Addr) (x : Str) (t : Tok) (i : Nat) (h : Heap) : Prop := IsZip h z TI TO .none ∧ IsTupOf2 h TI (.ref i1) (.ref i2) ∧ (∃ x y, IsTupOf2 h TO x y) ∧ h.IsStrIter i1 (strIterType x) x t i ∧ h.IsListIter i2 b i
theorem zt_sep {z TI TO i1 i2 b : Addr} (D : ZipApart z TI TO i1 i2 b b) : ZipSep2 z TI TO i1 i2 [i1] [i2, b] where
  TIz := D.TIz
  TOz := D.TOz
  TITO := D.TITO
  TIi1 := D.TIi1
  mem1 := by simp
  zf1 := by simp [D.i1z.symm]
  Tf1 := by simp [D.TOi1]
  TIi2 := D.TIi2
  mem2 := by simp
  zf2 := by simp [D.i2z.symm, D.l2z.symm]
  Tf2 := by simp [D.TOi2, D.l2TO.symm]
  sep1_2 := by simp [D.i12, D.l2i1.symm]
  sep2_1 := by simp [D.i12.symm]
theorem turn_zipZt {P : Program} {w : World} {K : PySem.W.Frag} {elts : List Expr} {kk : Nat} {tpos : Pos} {b z TI TO i1 i2 : Addr} {x : Str} {t : Tok} (D : ZipApart z TI TO i1 i2 b b) :
    Turn P w K (.Tuple elts kk tpos) (ItZt K x b) [z, TI, TO, i1, i2] z (ZtAt z TI TO i1 i2 b x t) where
  mem := by simp
  obj := fun i h ⟨hz, hTI, ⟨x, y, hTO⟩, ⟨o1, e1, _, d1⟩, ⟨o2, e2, _, d2⟩⟩ c hc => by
    simp only [List.mem_cons, List.not_mem_nil, or_false] at hc
    rcases hc with rfl | rfl | rfl | rfl | rfl
    · exact ⟨_, hz, fun v q => nomatch q⟩
    · exact ⟨_, hTI, fun v q => nomatch q⟩
    · exact ⟨_, hTO, fun v q => nomatch q⟩
    · exact ⟨o1, e1, fun v q => by rw [d1] at q; cases q⟩
    · exact ⟨o2, e2, fun v q => by rw [d2] at q; cases q⟩
  keep := fun i h h' ⟨hz, hTI, ⟨x, y, hTO⟩, h1, h2⟩ k =>
    ⟨k z (by simp) _ hz, k TI (by simp) _ hTI, ⟨x, y, k TO (by simp) _ hTO⟩, (let ⟨o, ho, r⟩ := h1; ⟨o, k i1 (by simp) o ho, r⟩), h2.at fun o q => k i2 (by simp) o q⟩
  item := by
    rintro X rfl rfl rfl hc i pins s σ H E I hf ⟨hz, hTI, ⟨x0, y0, hTO⟩, h1, h2⟩ ⟨ys, c, y, hqy, hx, hy⟩
    obtain ⟨its2, rv2, p2, _⟩ := I.list hqy
    obtain ⟨u2, hu2, ru2⟩ := rv2.get hy
    have hd : X.A.in1.handled = none := I.ok.hd hc
    refine wpAny_pyNext_zipD2_item (zt_sep D) (Draws.text hd i1 x t) (Draws.list hd i2 b D.l2i2 its2.toArray) hz hTI hTO h1 ⟨h2, p2.isList⟩ (Array.getElem?_eq_some_iff.mp hx).1 (by simpa using (List.getElem?_eq_some_iff.mp hu2).1) fun x1 x2 h' tk e1 e2 z' TO' st1 st2 hT hsz hk => ?_
    obtain ⟨c1, u, hc1, rfl⟩ := e1
    obtain rfl : c = c1 := Option.some.inj (hx.symm.trans hc1)
    obtain rfl : u2 = x2 := by
      have := hu2.symm.trans (by simpa using e2)
      exact Option.some.inj this
    have hzl : z < s.heap.objs.size := Heap.lt_size hz
    refine ⟨_, rfl, wpAny_letOwnedTupleGo_zip (s := { s with heap := h', toks := tk }) z' fun h'' z'' sb => ?_⟩
    have hT2 : h''.get? s.heap.objs.size = some { cls := .type "tuple", data := .seq #[.str ⟨#[c]⟩ u, u2] } := (sb.2 _ (Nat.ne_of_gt hzl)).trans hT
    have new : ObjOk X.prog X.w (upd H s.heap.objs.size (.tup [.str ⟨#[c]⟩, y])) h'' s.heap.objs.size (.tup [.str ⟨#[c]⟩, y]) :=
      ⟨by show 2 ≤ sizeLine; decide, [.str ⟨#[c]⟩ u, u2], .cons ⟨u, rfl⟩ (.cons ru2 .nil), ⟨_, hT2, rfl, _, rfl⟩⟩
    have I1 : Inv X pins σ (upd H s.heap.objs.size (.tup [.str ⟨#[c]⟩, y])) { s with heap := h'', toks := tk } :=
      I.turnedNew (ch := [z, TI, TO, i1, i2]) (fun c o hb q => (sb.2 c (fun q' => hb (by simp [q']))).trans (hk c o (fun q' => hb (by simp [q'])) (fun q' => hb (by simp [q'])) (fun q' => hb (by simp [q'])) (fun q' => hb (by simp [q'])) q)) hf (Nat.le_refl _) new
    refine ⟨.ref s.heap.objs.size, _, I1, rfl, ⟨_, c, y, rfl, I.hok.fresh (Nat.le_refl _), rfl, hx, fun l hl => by rw [I.list_inj hl hqy]; exact hy⟩, ⟨z'', ?_, ⟨.str ⟨#[c]⟩ u, u2, ?_⟩, ?_, ?_⟩, fun c hcm => ?_⟩
    · exact (sb.2 _ D.TIz).trans (hk _ _ D.TIz D.TITO D.TIi1 D.TIi2 hTI)
    · exact (sb.2 _ D.TOz).trans TO'
    · obtain ⟨o, ho, r⟩ := st1
      exact ⟨o, (sb.2 _ D.i1z).trans ho, r⟩
    · exact st2.1.at fun o q => (sb.2 _ D.i2z).trans q
    · have hlt : c < s.heap.objs.size := by
        simp only [List.mem_cons, List.not_mem_nil, or_false] at hcm
        rcases hcm with rfl | rfl | rfl | rfl | rfl
        · exact hzl
        · exact Heap.lt_size hTI
        · exact Heap.lt_size hTO
        · obtain ⟨_, e1, _⟩ := h1; exact Heap.lt_size e1
        · obtain ⟨_, e2, _⟩ := h2; exact Heap.lt_size e2
      rw [upd_ne (Nat.ne_of_lt hlt)]
      exact (hf c hcm).1
  done := by
    rintro X rfl rfl rfl hc i pins s σ H E I hf ⟨hz, hTI, ⟨x0, y0, hTO⟩, h1, h2⟩ ⟨ys, hqy, hend⟩
    obtain ⟨its2, rv2, p2, _⟩ := I.list hqy
    have hd : X.A.in1.handled = none := I.ok.hd hc
    have l2 := rv2.length
    refine wpAny_pyNext_zipD2_end (i := i) (zt_sep D) (Draws.text hd i1 x t) (Draws.list hd i2 b D.l2i2 its2.toArray) hz hTI hTO h1 ⟨h2, p2.isList⟩ (by have := Nat.min_le_left x.cps.size ys.length; omega) (by simp; omega) (by simp; omega) fun h' tk hk => ⟨rfl, I.turnedL (t' := tk) (ch := [z, TI, TO, i1, i2]) (fun c o hb q =>
      hk c o (fun q' => hb (by simp [q'])) (fun q' => hb (by simp [q'])) (fun q' => hb (by simp [q'])) (fun q' => hb (by simp [q'])) q) hf⟩
  self := fun A i s Q E st h => wpAny_pyIter_zip st.1 h
def iZipZt (K : PySem.W.Frag) (ta : TA) : TI := fun σ H R => ta σ H fun vs H1 => ∃ x b ys, vs = [.str x, .ref b] ∧ SqL K H1 b ys ∧ R (ItZt K x b) H1
theorem pi_zipZt {X : Cx} {e e2 : Expr} {ta : TA} {p pos tpos : Pos} {elts : List Expr} {kk : Nat} (hg : Gl X "zip") (hm : X.mg "zip" = none) (ha : PA X [e, e2] ta)
    (hs : starEach [e, e2] X.env = (false, eval e X.env) :: starEach [e2] X.env := by rfl) (hpl : (backTo pos (starEach [e2] X.env)).any (·.1) = false := by rfl) :
    PI X (.Tuple elts kk tpos) (.Call (.Name "zip" p) [e, e2] [] pos) (iZipZt X.K ta) := by
  refine ⟨fun pins s σ H R I h => ?_⟩
  refine Call_ (ld_blt I hg hm PyProof.Rows.boot_zip (PyProof.Rows.callWith_type1 (thn (ha.run pos pins s σ H _ I h) fun us s1 ⟨vs, H1, I1, r1, q1⟩ => ?_) hs hpl))
  obtain ⟨x, b, ys, rfl, hqy, q⟩ := q1
  cases r1 with
  | cons r rr =>
  cases rr with
  | cons r' rr =>
  cases rr
  obtain ⟨t, rfl⟩ := r
  cases r'
  have fresh5 : ∀ c, c ∈ [s1.heap.objs.size + 4, s1.heap.objs.size + 2, s1.heap.objs.size + 3, s1.heap.objs.size, s1.heap.objs.size + 1] → FpOk X pins H1 c := fun c hcm => by
    simp only [List.mem_cons, List.not_mem_nil, or_false] at hcm
    have hle : s1.heap.objs.size ≤ c := by
      rcases hcm with z | z | z | z | z <;> rw [z]
      · exact Nat.le_add_right _ _
      · exact Nat.le_add_right _ _
      · exact Nat.le_add_right _ _
      · exact Nat.le_refl _
      · exact Nat.le_add_right _ _
    exact I1.fpOk hle (I1.hok.fresh hle)
  obtain ⟨its2, rv2, p2, _⟩ := I1.list hqy
  have lb : b < s1.heap.objs.size := p2.lt
  refine zip_begins2 (begins_text x t) (begins_list b its2.toArray) trivial p2.isList fun h' hz hTI hTO h1 h2 hsz hk => wpAny_pyIter_zip hz ?_
  have I2 : Inv X pins σ H1 { s1 with heap := h' } := I1.kept (t' := s1.toks) hk
  exact ⟨s1.heap.objs.size + 4, [s1.heap.objs.size + 4, s1.heap.objs.size + 2, s1.heap.objs.size + 3, s1.heap.objs.size, s1.heap.objs.size + 1], _, _, H1, rfl, I2, turn_zipZt (PySem.W.ktu_apart s1.heap.objs.size b b lb lb), ⟨hz, hTI, ⟨_, _, hTO⟩, ⟨_, h1, rfl, rfl⟩, ⟨_, h2, rfl, rfl⟩⟩, fresh5, q⟩
theorem walk_zipZt {K : PySem.W.Frag} {x : Str} {b : Addr} {ys : List V} {n : Nat} (hn : n = min x.length ys.length) : Walk (ItZt K x b) n (fun H => SqL K H b ys) (YPair (fun i => (x.cps[i]?).map fun c => V.str ⟨#[c]⟩) (fun i => ys[i]?)) := by
  subst hn
  refine ⟨fun i _ hi q => ?_, fun _ q => ⟨ys, q, rfl⟩, fun i H v H' _ q y => ?_⟩
  · have hi1 : i < x.cps.size := Nat.lt_of_lt_of_le hi (Nat.min_le_left _ _)
    have hi2 : i < ys.length := Nat.lt_of_lt_of_le hi (Nat.min_le_right _ _)
    exact ⟨ys, x.cps[i], ys[i], q, by simp [hi1], by simp [hi2]⟩
  · obtain ⟨T, c, z, h1, h2, h3, h4, h5⟩ := y
    exact ⟨T, _, z, h1, h2, h3, by show Option.map _ _ = _; rw [h4]; rfl, h5 ys q⟩
end Pg

set_option Elab.async false
set_option linter.all false
set_option maxRecDepth 100000
set_option maxHeartbeats 4000000
namespace Pg
open PySem PySem.Spec PyProof.Rows L2
/-! ### forms -/
def gdF (b : Bool) (x : Str) : Bool := if b then ltB x else nbB x
def vF (b : Bool) (x : Str) : V := if b then .str x else .int (valN x)
def dF (b : Bool) (x : Str) : PyData := if b then .str x else .int (valN x)
theorem fm_cons {b : Bool} {fs : List Bool} {x : Str} {r : List Str} : fmD (b :: fs) (x :: r) = if gdF b x then (fmD fs r).map fun ds => dF b x :: ds else none := by cases b <;> rfl
theorem fm_all : ∀ {fs : List Bool} {ws : List Str}, fs.length = ws.length → (∀ (i : Nat) b x, fs[i]? = some b → ws[i]? = some x → gdF b x = true) → fmD fs ws = some (List.zipWith dF fs ws)
  | [], [], _, _ => rfl
  | b :: fs, x :: r, hl, h => by
    rw [fm_cons, if_pos (h 0 b x rfl rfl), fm_all (by simpa using hl) fun i b x e1 e2 => h (i + 1) b x e1 e2]
    rfl
theorem fm_bad : ∀ {fs : List Bool} {ws : List Str} {i : Nat} {b : Bool} {x : Str}, fs[i]? = some b → ws[i]? = some x → gdF b x = false → fmD fs ws = none
  | [], _, i, _, _, h, _, _ => by simp at h
  | b :: fs, [], i, _, _, _, h, _ => by simp at h
  | b :: fs, x :: r, 0, _, _, h1, h2, e => by
    obtain rfl := Option.some.inj h1
    obtain rfl := Option.some.inj h2
    rw [fm_cons, if_neg (by rw [e]; decide)]
  | b :: fs, x :: r, i + 1, _, _, h1, h2, e => by
    rw [fm_cons, fm_bad (fs := fs) (ws := r) (i := i) h1 h2 e]
    split <;> rfl
theorem fm_len : ∀ {fs : List Bool} {ws : List Str}, fs.length ≠ ws.length → fmD fs ws = none
  | [], [], h => absurd rfl h
  | [], _ :: _, _ => rfl
  | true :: fs, [], _ => rfl
  | false :: fs, [], _ => rfl
  | b :: fs, x :: r, h => by
    rw [fm_cons, fm_len (fs := fs) (ws := r) (fun z => h (by simp [z]))]
    split <;> rfl
def kndC (b : Bool) : Nat := if b then 87 else 78
def fmS (fs : List Bool) : Str := ⟨(fs.map kndC).toArray⟩
theorem fmS_len (fs : List Bool) : (fmS fs).length = fs.length := by
  show (fs.map kndC).toArray.size = _
  simp
theorem fmS_get {fs : List Bool} {i : Nat} {y : V} (h : ((fmS fs).cps[i]?).map (fun c => V.str ⟨#[c]⟩) = some y) : ∃ b, fs[i]? = some b ∧ y = .str ⟨#[kndC b]⟩ := by
  have e : (fmS fs).cps[i]? = (fs[i]?).map kndC := by
    show (fs.map kndC).toArray[i]? = _
    simp
  rw [e] at h
  cases hb : fs[i]? with
  | none => rw [hb] at h; cases h
  | some b => rw [hb] at h; exact ⟨b, rfl, (Option.some.inj h).symm⟩
theorem knd_W (b : Bool) : decide (V.str ⟨#[kndC b]⟩ = V.str (PySem.Str.ofString "W")) = b := by
  rw [eq_lit, show cs (PySem.Str.ofString "W") = [87] by decide +kernel, cs_one]
  cases b <;> decide
theorem knd_N (b : Bool) : decide (V.str ⟨#[kndC b]⟩ = V.str (PySem.Str.ofString "N")) = !b := by
  rw [eq_lit, show cs (PySem.Str.ofString "N") = [78] by decide +kernel, cs_one]
  cases b <;> decide
theorem vd_F {K : PySem.W.Frag} {H : Hp} : ∀ (fs : List Bool) (ws : List Str), DpAll K H (List.zipWith vF fs ws) (List.zipWith dF fs ws)
  | [], _ => .nil
  | _ :: _, [] => .nil
  | true :: fs, x :: r => .cons (.str _) (vd_F fs r)
  | false :: fs, x :: r => .cons (.int _) (vd_F fs r)
def spRfm (K : PySem.W.Frag) : Sp := fun vs H Q _ => ∃ (w : Str) (fs : List Bool) (l : Addr) (ws : List Str), vs = [.str w, .str (fmS fs), .ref l] ∧ H l = some (.lst (ws.map V.str)) ∧ fs.length ≤ 10 ∧ AscW ws ∧ ws.length ≤ 1000 ∧ (∀ p ∈ ws, p.length ≤ 100000) ∧
  ∀ v H', Same H H' → Dp K H' v (match fmD fs ws with | some ds => .tuple (.str w :: ds) | none => .none) → Q v H'
end Pg

set_option Elab.async false
set_option linter.all false
set_option maxRecDepth 100000
set_option maxHeartbeats 4000000
namespace K80
open PySem PySem.Spec PyProof.Rows L2 Pg
section
variable {P : Program} {w : World} {K : PySem.W.Frag} {mg : Str → Option Value} {base : Heap} {f : Addr} {fd : FuncData} {rsa : Addr}
abbrev s_rfm : Stmt := top 13
abbrev N_rfm : List Str := ["word", "form", "words", "command", "kind", "text"]
abbrev P_rfm : List Str := ["word", "form", "words"]
theorem sc_rfm : FnScope N_rfm P_rfm (defScope s_rfm) := ⟨rfl, rfl, rfl, by decide +kernel, rfl, by decide +kernel, by decide +kernel⟩

theorem ok_rfm (F : FnP K "read_form" s_rfm f fd) (hm : mg "read_form" = some (.ref f)) (Z : Zs mg) (c_ltr : Cal P w K mg base 2 "is_letters" spLtr []) (c_num : Cal P w K mg base 1 "is_number" spNbr []) : Cal P w K mg base 3 "read_form" (spRfm K) [] := by
  refine mk_cal F hm sc_rfm (fun _ _ _ _ _ _ us hl => match us, hl with | [_, _, _], _ => rfl) (fun vs H Q E h => ?_) (fun cdv A outer s H vs Q E hr h => ?_)
  · obtain ⟨wd, fs, l, ws, rfl, _⟩ := h
    rfl
  obtain ⟨wd, fs, l, ws, rfl, hl, hf10, ha, hlen, hsz, q⟩ := h
  refine ⟨_, (pss_cons (ps_if (pt_cmpR op_ne (pe_callB call_len_seq (by rfl) Z.len (by decide +kernel) (pa_cons (pv 2) pa_nil)) (pe_callB call_len_str (by rfl) Z.len (by decide +kernel) (pa_cons (pv 1) pa_nil)) (nomark _)) (pss_one (ps_ret pe_non)) pss_nil)
      (pss_cons (ps_set (i := 3) sc_rfm.nd rfl (by first | exact Or.inl rfl | exact Or.inr rfl) (pe_lst (pa_cons (pv 0) pa_nil)))
      (pss_cons (ps_for PassesOwn.never rfl (pi_zipZt (by rfl) Z.zip (pa_cons (pv 1) (pa_cons (pv 2) pa_nil))) (pg_tup rfl (pgs_cons (pg_name (i := 4) sc_rfm.nd rfl (by first | exact Or.inl rfl | exact Or.inr rfl)) (pgs_cons (pg_name (i := 5) sc_rfm.nd rfl (by first | exact Or.inl rfl | exact Or.inr rfl)) pgs_nil))) (pss_one (ps_if (PW.pt (pw_and (pt_cmpR op_eq (pv 4) pe_str (nomark _)) (pw_and1 (pt_val (C8.pe_c c_ltr hr (by first | decide | omega) rfl (pa_cons (pv 5) pa_nil)))))) (pss_one (ps_expr (pe_bm PySem.F.plainAttrs_list PySem.F.slot_list_append PySem.F.type_list_append mt_append (pv 3) (pa_cons (pv 5) pa_nil)))) (pss_one (ps_if (PW.pt (pw_and (pt_cmpR op_eq (pv 4) pe_str (nomark _)) (pw_and1 (pt_val (C8.pe_c c_num hr (by first | decide | omega) rfl (pa_cons (pv 5) pa_nil)))))) (pss_one (ps_expr (pe_bm PySem.F.plainAttrs_list PySem.F.slot_list_append PySem.F.type_list_append mt_append (pv 3) (pa_cons (pe_callTy call_int_str (by rfl) Z.int (by decide +kernel) (pa_cons (pv 5) pa_nil)) pa_nil)))) (pss_one (ps_ret pe_non)))))))
      (pss_one (ps_ret (pe_callTy call_tuple_of (by rfl) Z.tuple (by decide +kernel) (pa_cons (pv 3) pa_nil))))))), ?_⟩
  have hwl : (ws.map V.str).length = ws.length := List.length_map _
  refine ⟨_, rfl, l, _, rfl, .inl (SqL.mk hl), _, rfl, _, rfl, (by rw [fmS_len]; exact Nat.le_of_lt (small1000 (by omega))), rfl, _, rfl, ?_⟩
  refine ite2 (fun e => ?_) (fun e => ?_)
  · have e : fs.length ≠ ws.length := fun z => by
      rw [hwl, fmS_len, z] at e
      simp at e
    have q1 := q .non H (Same.refl H)
    rw [fm_len e] at q1
    exact q1 .non
  have ev : fs.length = ws.length := by
    have e : decide (V.int (((ws.map V.str).length : Nat) : Int) = V.int (((fmS fs).length : Nat) : Int)) = true := by simpa using e
    have := V.int.inj (of_decide_eq_true e)
    rw [hwl, fmS_len] at this
    omega
  dsimp only [tNext, gName]
  refine seq_asg ?_
  refine ⟨_, rfl, (by show 1 ≤ sizeLine; decide), fun fl nfl => ?_⟩
  have s1 : Same H (upd H fl (.lst [.str wd])) := Same.new nfl
  have hfl : (upd H fl (.lst [.str wd])) fl = some (.lst [.str wd]) := upd_same
  have nlf : l ≠ fl := ne_of_none hl nfl
  generalize upd H fl (.lst [.str wd]) = H1 at s1 hfl ⊢
  have hl1 := s1 _ _ hl
  have sF : ∀ {H' : Hp}, Pg.Fr fl H1 H' → Same H H' := fun f b o e => f b o (ne_of_none e nfl) (s1 b o e)
  refine ⟨_, rfl, _, rfl, _, l, _, rfl, SqL.mk hl1, ?_⟩
  have zl : (List.zipWith vF fs ws).length = ws.length := by rw [List.length_zipWith]; omega
  refine for_it (walk_zipZt (K := K) (x := fmS fs) (b := l) (ys := ws.map V.str) (n := ws.length) (by rw [fmS_len, hwl]; omega))
    (fun i σ H' => (∃ o2 o3 : Option V, σ = [some (.str wd), some (.str (fmS fs)), some (.ref l), some (.ref fl), o2, o3]) ∧ H' fl = some (.lst (.str wd :: (List.zipWith vF fs ws).take i)) ∧ (∀ (j : Nat) b x, j < i → fs[j]? = some b → ws[j]? = some x → gdF b x = true) ∧ Pg.Fr fl H1 H')
    ⟨⟨none, none, rfl⟩, hfl, fun j _ _ hj => absurd hj (Nat.not_lt_zero _), Fr.refl⟩ (fun i σ H' _ iv => SqL.mk (iv.2.2.2 _ _ nlf hl1)) ?_ ?_
  · rintro i y σ H3 H4 hi ⟨⟨o2, o3, rfl⟩, hv, hg, fr⟩ ⟨T, x1, x2, rfl, nT, rfl, e1, e2⟩
    obtain ⟨b, hb, rfl⟩ := fmS_get e1
    obtain ⟨x, hx, rfl⟩ : ∃ x, ws[i]? = some x ∧ x2 = .str x := by
      dsimp only at e2
      rw [List.getElem?_map] at e2
      cases hx : ws[i]? with
      | none => rw [hx] at e2; cases e2
      | some x => rw [hx] at e2; exact ⟨x, rfl, (Option.some.inj e2).symm⟩
    have mx : x ∈ ws := List.mem_of_getElem? hx
    have z1 : x.length ≤ 100000 := hsz _ mx
    have sT : Same H3 (upd H3 T (.tup [.str ⟨#[kndC b]⟩, .str x])) := Same.new nT
    have bad : gdF b x = false → ∀ H5, Same H3 H5 → Q .non H5 := fun e H5 s5 => by
      have q1 := q .non H5 ((sF fr).trans s5)
      rw [fm_bad hb hx e] at q1
      exact q1 .non
    have z8 : (List.zipWith vF fs ws)[i]? = some (vF b x) := by rw [List.getElem?_zipWith, hb, hx]
    have good : gdF b x = true → ∀ (j : Nat) b x, j < i + 1 → fs[j]? = some b → ws[j]? = some x → gdF b x = true := fun e j b' x' hj hb' hx' => by
      rcases (by omega : j < i ∨ j = i) with z | z
      · exact hg j b' x' z hb' hx'
      · subst z
        obtain rfl := Option.some.inj (hb.symm.trans hb')
        obtain rfl := Option.some.inj (hx.symm.trans hx')
        exact e
    have hvl : (V.str wd :: (List.zipWith vF fs ws).take i).length ≤ 1000 := by rw [List.length_cons, List.length_take, zl]; omega
    refine ⟨T, _, rfl, SqT.mk upd_same, rfl, _, _, rfl, _, _, rfl, rfl, ?_⟩
    have fin : gdF b x = true → ∀ H5, Same H3 H5 → Pg.Fr fl H1 (upd H5 fl (.lst ((V.str wd :: (List.zipWith vF fs ws).take i) ++ [vF b x]))) ∧ (upd H5 fl (.lst ((V.str wd :: (List.zipWith vF fs ws).take i) ++ [vF b x]))) fl = some (.lst (V.str wd :: (List.zipWith vF fs ws).take (i + 1))) := fun e H5 s5 => by
      refine ⟨(fr.trans (Fr.of s5)).trans Fr.own, ?_⟩
      rw [take_snoc z8]
      exact upd_same
    cases b with
    | true =>
      refine ⟨_, rfl, rfl, _, rfl, ?_⟩
      rw [knd_W]
      refine ⟨_, rfl, _, rfl, z1, fun H5 s5 => ⟨_, rfl, ite2 (fun e => ?_) (fun e => ?_)⟩⟩
      · have hv5 := (sT.trans s5) _ _ hv
        obtain ⟨f5, h5⟩ := fin e H5 (sT.trans s5)
        refine ⟨_, rfl, .inl ⟨rfl, _, SqL.mk hv5⟩, _, rfl, fl, _, _, rfl, rfl, hv5, small1000 (by omega), ?_⟩
        exact ⟨⟨_, _, rfl⟩, h5, good e, f5⟩
      · have e : ltB x = false := by simpa using e
        refine ⟨_, rfl, rfl, _, rfl, ?_⟩
        rw [knd_N]
        exact bad e H5 (sT.trans s5)
    | false =>
      refine ⟨_, rfl, rfl, _, rfl, ?_⟩
      rw [knd_W]
      refine ⟨_, rfl, rfl, _, rfl, ?_⟩
      rw [knd_N]
      refine ⟨_, rfl, _, rfl, z1, (ha _ mx).2, fun H5 s5 => ⟨_, rfl, ite2 (fun e => ?_) (fun e => ?_)⟩⟩
      · have hv5 := (sT.trans s5) _ _ hv
        obtain ⟨f5, h5⟩ := fin e H5 (sT.trans s5)
        refine ⟨_, rfl, .inl ⟨rfl, _, SqL.mk hv5⟩, _, rfl, _, _, rfl, nb_val e, nb_len e, fl, _, _, rfl, rfl, hv5, small1000 (by omega), ?_⟩
        exact ⟨⟨_, _, rfl⟩, h5, good e, f5⟩
      · have e : nbB x = false := by simpa using e
        exact bad e H5 (sT.trans s5)
  · rintro σ H3 ⟨⟨o2, o3, rfl⟩, hv, hg, fr⟩
    refine ⟨_, rfl, fl, _, rfl, .inl ⟨SqL.mk hv, fun t nt => ?_⟩⟩
    have q1 := q (.ref t) _ ((sF fr).trans (Same.new (o := .tup (.str wd :: (List.zipWith vF fs ws).take ws.length)) nt))
    rw [fm_all ev (fun i b x h1 h2 => hg i b x (List.getElem?_eq_some_iff.mp h2).1 h1 h2), List.take_of_length_le (by omega)] at q1
    rw [List.take_of_length_le (by omega)]
    exact q1 (.tup (SqT.mk upd_same) (.cons (.str _) (vd_F _ _)))
end
end K80

set_option Elab.async false
set_option linter.all false
set_option maxRecDepth 100000
set_option maxHeartbeats 4000000
namespace Pg
open PySem PySem.Spec PyProof.Rows L2
/-! ### the constants of commands -/
def entS (e : DictEntry) : Option (Str × Str) := match e.key, e.val with
  | .str x _, .str y _ => some (x, y)
  | _, _ => none
def frmB (K : PySem.W.Frag) (a : Addr) : Bool := match K.lookup a with
  | some ⟨_, _, .dict es _, _⟩ => decide (es.toList.map entS = fms.map fun p => some (p.1, fmS p.2))
  | _ => false
theorem ent_of {e : DictEntry} {x y : Str} (h : entS e = some (x, y)) : ∃ t u, e.key = .str x t ∧ e.val = .str y u := by
  unfold entS at h
  split at h
  · rename_i a b k v
    have h := Option.some.inj h
    obtain ⟨h1, h2⟩ := Prod.mk.inj h
    exact ⟨_, _, h1 ▸ k, h2 ▸ v⟩
  · cases h
theorem frm_find : ∀ {l : List DictEntry} {fs : List (Str × List Bool)}, l.map entS = fs.map (fun p => some (p.1, fmS p.2)) → (∀ e ∈ l, e.refKey = false) ∧ ∀ z : Str,
    match fs.lookup z with
    | some bs => ∃ e, l.find? (·.key.isStr z) = some e ∧ RelV (.str (fmS bs)) e.val
    | none => l.find? (·.key.isStr z) = none
  | [], [], _ => ⟨fun e h => absurd h List.not_mem_nil, fun z => rfl⟩
  | e :: l, (x, bs) :: fs, h => by
    rw [List.map_cons, List.map_cons] at h
    obtain ⟨h1, h2⟩ := List.cons.inj h
    obtain ⟨t, u, hk, hv⟩ := ent_of h1
    obtain ⟨r1, r2⟩ := frm_find h2
    refine ⟨fun e' he => ?_, fun z => ?_⟩
    · rcases List.mem_cons.mp he with rfl | h'
      · unfold DictEntry.refKey
        rw [hk]
      · exact r1 _ h'
    · have hs : e.key.isStr z = (x == z) := by rw [hk]; rfl
      by_cases q : x = z
      · subst q
        rw [List.lookup_cons, show (x == x) = true from beq_self_eq_true x]
        refine ⟨e, ?_, ?_⟩
        · rw [List.find?_cons, hs, beq_self_eq_true]
        · rw [hv]; exact ⟨_, rfl⟩
      · have q1 : (x == z) = false := beq_eq_false_iff_ne.mpr q
        have q2 : (z == x) = false := beq_eq_false_iff_ne.mpr (Ne.symm q)
        rw [List.lookup_cons, q2, List.find?_cons, hs, q1]
        exact r2 z
/-- what a form's name gives -/
structure FrG (K : PySem.W.Frag) (w : World) (fo : Addr) (es : Array DictEntry) (n : Nat) : Prop where
  D : KDict K w fo es n
  get : ∀ z : Str, match fms.lookup z with
    | some bs => ∃ u, PySem.W.nsIn K fo z = some (some u) ∧ RelV (.str (fmS bs)) u
    | none => PySem.W.nsIn K fo z = some none
theorem frg_of {K : PySem.W.Frag} {w : World} {fo : Addr} {es : Array DictEntry} {n : Nat} (D : KDict K w fo es n) (h : frmB K fo = true) : FrG K w fo es n := by
  refine ⟨D, fun z => ?_⟩
  unfold frmB at h
  rw [D.at_] at h
  have h : es.toList.map entS = fms.map fun p => some (p.1, fmS p.2) := of_decide_eq_true h
  obtain ⟨r1, r2⟩ := frm_find h
  have r2 := r2 z
  have e0 : PySem.W.nsIn K fo z = match es.toList.find? (·.key.isStr z) with | some e => some (some e.val) | none => if es.toList.any (·.refKey) then none else some none := by
    unfold PySem.W.nsIn
    rw [D.at_] <;> rfl
  have e1 : es.toList.any (·.refKey) = false := by
    rw [List.any_eq_false]
    intro e he
    rw [r1 e he]
    decide
  rw [e0]
  cases hl : fms.lookup z with
  | none =>
    rw [hl] at r2
    have r2 : es.toList.find? (·.key.isStr z) = none := r2
    show _ = some none
    rw [r2, e1]
    rfl
  | some bs =>
    rw [hl] at r2
    obtain ⟨e, q1, q2⟩ := r2
    refine ⟨e.val, ?_, q2⟩
    rw [q1]
structure GCm (K : PySem.W.Frag) (w : World) (mg : Str → Option Value) (wta wwa fo : Addr) (es : Array DictEntry) (n : Nat) : Prop where
  wt : mg "WITH_TEXT" = some (.ref wta)
  wtt : ∀ H, SqT K H wta (wtxt.map V.str)
  ww : mg "WITH_WORDS" = some (.ref wwa)
  wwt : ∀ H, SqT K H wwa (wwrd.map V.str)
  fr : mg "FORMS" = some (.ref fo)
  fg : FrG K w fo es n
/-! ### lines -/
theorem jn_nil {wd : Str} {ws : List Str} : decide (V.str (jn (wd :: ws)) = V.str (PySem.Str.ofString "")) = decide (wd = Str.empty ∧ ws = []) := by
  rw [eq_lit, cs_e, Bool.eq_iff_iff, decide_eq_true_iff, decide_eq_true_iff]
  have e0 : cs Str.empty = [] := rfl
  by_cases e : ws = []
  · subst e
    rw [jn_one]
    exact ⟨fun h => ⟨cs_inj (h.trans e0.symm), rfl⟩, fun h => by rw [h.1, e0]⟩
  · rw [jn_cons e, cs_app, cs_app]
    refine ⟨fun h => ?_, fun h => absurd h.2 e⟩
    have h1 := (List.append_eq_nil_iff.mp (List.append_eq_nil_iff.mp h).1).2
    rw [show cs sp1 = [32] from tl_sp1] at h1
    cases h1
/-- what the law's reader says -/
def ruw : List Str := ["undo", "rows"]
def nmw : List Str := ["drop", "let", "since", "row"]
def dueD (w : Str) (ws : List Str) : PyData :=
  if w = Str.empty ∧ ws = [] then .tuple []
  else if w ∈ wtxt ∧ 0 < ws.length then .tuple [.str w, .str (jn ws)]
  else if w = "place" ∧ 1 < ws.length ∧ ltB (wat ws 0) = true then .tuple [.str "place", .str (wat ws 0), .str (jn (ws.drop 1))]
  else if w ∈ ruw ∧ ws.length = 0 then .tuple [.str w]
  else if w ∈ nmw ∧ ws.length = 1 ∧ nbB (wat ws 0) = true then .tuple [.str w, .int (valN (wat ws 0))]
  else if w ∈ wwrd ∧ ws.all ltB = true then .tuple (.str w :: ws.map .str)
  else if w = "count" ∧ ws.length = 2 ∧ ltB (wat ws 0) = true ∧ nbB (wat ws 1) = true then .tuple [.str "count", .str (wat ws 0), .int (valN (wat ws 1))]
  else if w = "tree" ∧ ws.length = 3 ∧ ltB (wat ws 0) = true ∧ nbB (wat ws 1) = true ∧ nbB (wat ws 2) = true then .tuple [.str "tree", .str (wat ws 0), .int (valN (wat ws 1)), .int (valN (wat ws 2))]
  else if w = "begin" ∧ (ws.filter fun x => decide (x = smc)).length = 1 then
    (match pairsD (ws.take (ws.idxOf smc)), pairsD (ws.drop (ws.idxOf smc + 1)) with
    | some a, some b => .tuple [.str "begin", .tuple a, .tuple b]
    | _, _ => .none)
  else .none
theorem pairs_smc : ∀ {ws : List Str}, smc ∈ ws → pairsD ws = none
  | [_], _ => rfl
  | x :: y :: r, h => by
    unfold pairsD
    rcases List.mem_cons.mp h with e | h
    · rw [if_neg (by rw [← e, show ltB smc = false by decide +kernel, Bool.false_and]; decide)]
    rcases List.mem_cons.mp h with e | h
    · rw [if_neg (by rw [← e, show nbB smc = false by decide +kernel, Bool.and_false]; decide)]
    · rw [pairs_smc h]
      split <;> rfl
theorem filt_idx : ∀ {ws : List Str}, smc ∈ ws → (ws.filter fun x => decide (x = smc)).length = 1 + ((ws.drop (ws.idxOf smc + 1)).filter fun x => decide (x = smc)).length
  | x :: r, h => by
    by_cases e : x = smc
    · subst e
      rw [List.idxOf_cons_self]
      rw [List.filter_cons_of_pos (by simp)]
      simp [Nat.add_comm]
    · have h : smc ∈ r := (List.mem_cons.mp h).resolve_left (Ne.symm e)
      have e2 : (x == smc) = false := beq_eq_false_iff_ne.mpr e
      rw [List.idxOf_cons, e2, List.filter_cons_of_neg (by simpa using e), filt_idx h]
      rfl
theorem len0 {ws : List Str} (h : ws.length = 0) : ws = [] := List.eq_nil_of_length_eq_zero h
theorem form1 {w : Str} {fs : List Bool} (h : fms.lookup w = some fs) (ws : List Str) : formD w ws = (match fmD fs ws with | some ds => .tuple (.str w :: ds) | none => .none) := by
  unfold formD
  rw [h] <;> rfl
theorem form0 {w : Str} (h : fms.lookup w = none) (ws : List Str) : formD w ws = .none := by
  unfold formD
  rw [h] <;> rfl
theorem lk_no {w : Str} (h : w ∉ ruw) (h1 : w ∉ nmw) (h2 : w ≠ "count") (h3 : w ≠ "tree") : fms.lookup w = none := by
  unfold ruw at h
  unfold nmw at h1
  simp only [List.mem_cons, List.not_mem_nil, or_false, not_or] at h h1
  have f : ∀ {x : Str}, w ≠ x → (w == x) = false := fun h => beq_eq_false_iff_ne.mpr h
  unfold fms
  rw [List.lookup_cons, f h1.1, List.lookup_cons, f h1.2.1, List.lookup_cons, f h.1, List.lookup_cons, f h1.2.2.1, List.lookup_cons, f h.2, List.lookup_cons, f h1.2.2.2, List.lookup_cons, f h2, List.lookup_cons, f h3]
  rfl

theorem ls0 : ∀ x ∈ ruw, fms.lookup x = some [] ∧ x ∉ wtxt ∧ x ≠ "place" ∧ x ≠ "begin" ∧ x ∉ wwrd ∧ x ≠ Str.empty := by unfold ruw; decide +kernel
theorem ls1 : ∀ x ∈ nmw, fms.lookup x = some [false] ∧ x ∉ wtxt ∧ x ≠ "place" ∧ x ≠ "begin" ∧ x ∉ wwrd ∧ x ≠ Str.empty ∧ x ∉ ruw := by unfold nmw; decide +kernel
theorem lst : ∀ x ∈ wtxt, x ≠ Str.empty ∧ x ≠ "place" ∧ x ∉ ruw ∧ x ∉ nmw ∧ x ∉ wwrd ∧ x ≠ "count" ∧ x ≠ "tree" ∧ x ≠ "begin" := by unfold wtxt; decide +kernel
theorem lsw : ∀ x ∈ wwrd, x ≠ Str.empty ∧ x ∉ wtxt ∧ x ≠ "place" ∧ x ∉ ruw ∧ x ∉ nmw ∧ x ≠ "count" ∧ x ≠ "tree" ∧ x ≠ "begin" := by unfold wwrd; decide +kernel
theorem due_eq (w : Str) (ws : List Str) : dueD w ws = cmdD w ws := by
  unfold dueD cmdD
  by_cases h0 : w = Str.empty ∧ ws = []
  · rw [if_pos h0, if_pos h0]
  rw [if_neg h0, if_neg h0]
  by_cases h1 : w ∈ wtxt
  · obtain ⟨_, n1, n2, n3, n4, n5, n6, n7⟩ := lst w h1
    rw [if_pos h1]
    by_cases e : ws = []
    · rw [if_pos e, if_neg (fun z => by rw [e] at z; exact absurd z.2 (by decide)), if_neg (fun z => n1 z.1), if_neg (fun z => n2 z.1), if_neg (fun z => n3 z.1), if_neg (fun z => n4 z.1), if_neg (fun z => n5 z.1), if_neg (fun z => n6 z.1), if_neg (fun z => n7 z.1)]
    · rw [if_neg e, if_pos ⟨h1, List.length_pos_iff.mpr e⟩]
  rw [if_neg h1, if_neg (fun z => h1 z.1)]
  by_cases h2 : w = "place"
  · subst h2
    rw [if_pos rfl]
    have n2 : (("place" : Str)) ∉ ruw := by decide +kernel
    have n3 : (("place" : Str)) ∉ nmw := by decide +kernel
    have n4 : (("place" : Str)) ∉ wwrd := by decide +kernel
    have n5 : ¬ ((("place" : Str)) = "count") := by decide +kernel
    have n6 : ¬ ((("place" : Str)) = "tree") := by decide +kernel
    have n7 : ¬ ((("place" : Str)) = "begin") := by decide +kernel
    match ws with
    | [] => rw [if_neg (fun z => absurd z.2.1 (by simp)), if_neg (fun z => n2 z.1), if_neg (fun z => n3 z.1), if_neg (fun z => n4 z.1), if_neg (fun z => n5 z.1), if_neg (fun z => n6 z.1), if_neg (fun z => n7 z.1)]; rfl
    | [m] => rw [if_neg (fun z => absurd z.2.1 (by simp)), if_neg (fun z => n2 z.1), if_neg (fun z => n3 z.1), if_neg (fun z => n4 z.1), if_neg (fun z => n5 z.1), if_neg (fun z => n6 z.1), if_neg (fun z => n7 z.1)]; rfl
    | m :: t :: ts =>
      show _ = if ltB m then _ else _
      by_cases e : ltB m = true
      · rw [if_pos e, if_pos ⟨rfl, by simp, e⟩]
        rfl
      · rw [if_neg e, if_neg (fun z => e z.2.2), if_neg (fun z => n2 z.1), if_neg (fun z => n3 z.1), if_neg (fun z => n4 z.1), if_neg (fun z => n5 z.1), if_neg (fun z => n6 z.1), if_neg (fun z => n7 z.1)]
  rw [if_neg h2, if_neg (fun z => h2 z.1)]
  by_cases h3 : w ∈ ruw
  · obtain ⟨l, _, _, n1, n2, _⟩ := ls0 w h3
    have n3 : w ∉ nmw := fun z => (ls1 w z).2.2.2.2.2.2 h3
    have n5 : w ≠ "count" := fun z => by rw [z] at h3; exact absurd h3 (by decide +kernel)
    have n6 : w ≠ "tree" := fun z => by rw [z] at h3; exact absurd h3 (by decide +kernel)
    rw [if_neg n1, if_neg n2, form1 l]
    match ws with
    | [] => rw [if_pos ⟨h3, rfl⟩]; rfl
    | x :: r => rw [if_neg (fun z => absurd z.2 (by simp)), if_neg (fun z => n3 z.1), if_neg (fun z => n2 z.1), if_neg (fun z => n5 z.1), if_neg (fun z => n6 z.1), if_neg (fun z => n1 z.1)]; rfl
  rw [if_neg (fun z => h3 z.1)]
  by_cases h4 : w ∈ nmw
  · obtain ⟨l, _, _, n1, n2, _⟩ := ls1 w h4
    have n5 : w ≠ "count" := fun z => by rw [z] at h4; exact absurd h4 (by decide +kernel)
    have n6 : w ≠ "tree" := fun z => by rw [z] at h4; exact absurd h4 (by decide +kernel)
    rw [if_neg n1, if_neg n2, form1 l, if_neg (c := w ∈ wwrd ∧ _) (fun z => n2 z.1), if_neg (c := w = "count" ∧ _) (fun z => n5 z.1), if_neg (c := w = "tree" ∧ _) (fun z => n6 z.1), if_neg (c := w = "begin" ∧ _) (fun z => n1 z.1)]
    match ws with
    | [] => rw [if_neg (fun z => absurd z.2.1 (by simp))]; rfl
    | [x] =>
      rw [fm_cons]
      by_cases e : nbB x = true
      · rw [if_pos ⟨h4, rfl, e⟩, if_pos (show gdF false x = true from e)]; rfl
      · rw [if_neg (fun z => e z.2.2), if_neg (show ¬ gdF false x = true from e)]
    | x :: y :: r =>
      rw [if_neg (fun z => absurd z.2.1 (by simp)), fm_len (by simp)]
  rw [if_neg (fun z => h4 z.1)]
  by_cases h5 : w = "begin"
  · subst h5
    have n4 : (("begin" : Str)) ∉ wwrd := by decide +kernel
    have n5 : ¬ ((("begin" : Str)) = "count") := by decide +kernel
    have n6 : ¬ ((("begin" : Str)) = "tree") := by decide +kernel
    rw [if_pos rfl, if_neg (fun z => n4 z.1), if_neg (fun z => n5 z.1), if_neg (fun z => n6 z.1)]
    unfold begD
    by_cases e : smc ∈ ws
    · rw [if_pos e]
      have fi := filt_idx e
      by_cases e2 : smc ∈ ws.drop (ws.idxOf smc + 1)
      · have p2 := pairs_smc e2
        have : 0 < ((ws.drop (ws.idxOf smc + 1)).filter fun x => decide (x = smc)).length := List.length_pos_iff.mpr fun z => by
          have := List.mem_filter (p := fun x => decide (x = smc)).mpr ⟨e2, decide_eq_true (rfl : smc = smc)⟩
          rw [z] at this
          cases this
        rw [if_neg (fun z => by omega), p2]
        cases pairsD (ws.take (ws.idxOf smc)) <;> rfl
      · have : ((ws.drop (ws.idxOf smc + 1)).filter fun x => decide (x = smc)) = [] := List.filter_eq_nil_iff.mpr fun a ha => by
          rw [decide_eq_true_iff]
          intro z
          rw [z] at ha
          exact e2 ha
        rw [this] at fi
        rw [if_pos ⟨rfl, fi⟩] <;> rfl
    · rw [if_neg e, if_neg]
      rintro ⟨_, z⟩
      have : (ws.filter fun x => decide (x = smc)) = [] := List.filter_eq_nil_iff.mpr fun a ha => by
        rw [decide_eq_true_iff]
        intro y
        rw [y] at ha
        exact e ha
      rw [this] at z
      cases z
  rw [if_neg h5, if_neg (c := w = "begin" ∧ _) (fun z => h5 z.1)]
  by_cases h6 : w ∈ wwrd
  · obtain ⟨_, _, _, _, _, n5, n6, _⟩ := lsw w h6
    rw [if_pos h6]
    by_cases e : ws.all ltB = true
    · rw [if_pos e, if_pos ⟨h6, e⟩]
    · rw [if_neg e, if_neg (fun z => e z.2), if_neg (fun z => n5 z.1), if_neg (fun z => n6 z.1)]
  rw [if_neg h6, if_neg (fun z => h6 z.1)]
  by_cases h7 : w = "count"
  · subst h7
    rw [form1 (fs := [true, false]) (by decide +kernel), if_neg (c := (("count" : Str)) = "tree" ∧ _) (fun z => absurd z.1 (by decide +kernel))]
    match ws with
    | [x, y] =>
      rw [fm_cons, fm_cons]
      by_cases e : ltB x = true
      · rw [if_pos (show gdF true x = true from e)]
        by_cases e2 : nbB y = true
        · rw [if_pos (show gdF false y = true from e2), if_pos ⟨rfl, rfl, e, e2⟩]; rfl
        · rw [if_neg (show ¬ gdF false y = true from e2), if_neg (fun z => e2 z.2.2.2)]; rfl
      · rw [if_neg (show ¬ gdF true x = true from e), if_neg (fun z => e z.2.2.1)]
    | [] => rw [if_neg (fun z => absurd z.2.1 (by simp)), fm_len (by simp)]
    | [x] => rw [if_neg (fun z => absurd z.2.1 (by simp)), fm_len (by simp)]
    | x :: y :: z :: r => rw [if_neg (fun z => absurd z.2.1 (by simp)), fm_len (by simp)]
  rw [if_neg (fun z => h7 z.1)]
  by_cases h8 : w = "tree"
  · subst h8
    rw [form1 (fs := [true, false, false]) (by decide +kernel)]
    match ws with
    | [x, y, u] =>
      rw [fm_cons, fm_cons, fm_cons]
      by_cases e : ltB x = true
      · rw [if_pos (show gdF true x = true from e)]
        by_cases e2 : nbB y = true
        · rw [if_pos (show gdF false y = true from e2)]
          by_cases e3 : nbB u = true
          · rw [if_pos (show gdF false u = true from e3), if_pos ⟨rfl, rfl, e, e2, e3⟩]; rfl
          · rw [if_neg (show ¬ gdF false u = true from e3), if_neg (fun z => e3 z.2.2.2.2)]; rfl
        · rw [if_neg (show ¬ gdF false y = true from e2), if_neg (fun z => e2 z.2.2.2.1)]; rfl
      · rw [if_neg (show ¬ gdF true x = true from e), if_neg (fun z => e z.2.2.1)]
    | [] => rw [if_neg (fun z => absurd z.2.1 (by simp)), fm_len (by simp)]
    | [x] => rw [if_neg (fun z => absurd z.2.1 (by simp)), fm_len (by simp)]
    | [x, y] => rw [if_neg (fun z => absurd z.2.1 (by simp)), fm_len (by simp)]
    | x :: y :: z :: u :: r => rw [if_neg (fun z => absurd z.2.1 (by simp)), fm_len (by simp)]
  rw [if_neg (fun z => h8 z.1), form0 (lk_no h3 h4 h7 h8)]
/-- what a line of words says -/
def spRcm (K : PySem.W.Frag) : Sp := fun vs H Q _ => ∃ (wd : Str) (ws : List Str), vs = [.str (jn (wd :: ws))] ∧ AscW (wd :: ws) ∧ (jn (wd :: ws)).length ≤ 20000 ∧ ws.length ≤ 900 ∧ ∀ v H', Same H H' → Dp K H' v (cmdD wd ws) → Q v H'
end Pg
namespace Pg
open PySem PySem.Spec PyProof.Rows L2
theorem tif_of {t : TT} {a b : TE} {σ : L2.St} {H : Hp} {Q : VK} (Pn : VK → Prop) (hm : Pn Q) (h : ∀ Q', Pn Q' → tIf t a b σ H Q') : tIf t a b σ H Q := h Q hm
end Pg
namespace Pg
open PySem PySem.Spec PyProof.Rows L2
theorem paired_str : ∀ ws : List Str, Paired (fun (u : V) (y : Str) => u = .str y) (ws.map V.str) ws
  | [] => .nil
  | _ :: r => .cons rfl (paired_str r)
theorem lk_mem : ∀ {l : List (Str × List Bool)} {z : Str} {fs : List Bool}, l.lookup z = some fs → ∃ k, (k, fs) ∈ l
  | (k, b) :: l, z, fs, h => by
    rw [List.lookup_cons] at h
    cases e : z == k with
    | true => rw [e] at h; exact ⟨k, by rw [Option.some.inj h]; exact List.mem_cons_self ..⟩
    | false => rw [e] at h; obtain ⟨k', hk⟩ := lk_mem h; exact ⟨k', List.mem_cons_of_mem _ hk⟩
theorem fms_len : ∀ p ∈ fms, p.2.length ≤ 10 := by unfold fms; decide +kernel
theorem lk_len {z : Str} {fs : List Bool} (h : fms.lookup z = some fs) : fs.length ≤ 10 := by
  obtain ⟨k, hk⟩ := lk_mem h
  exact fms_len _ hk
end Pg

set_option Elab.async false
set_option linter.all false
set_option maxRecDepth 100000
set_option maxHeartbeats 4000000
namespace K80
open PySem PySem.Spec PyProof.Rows L2 Pg
section
variable {P : Program} {w : World} {K : PySem.W.Frag} {mg : Str → Option Value} {base : Heap} {f : Addr} {fd : FuncData} {wta wwa fo : Addr} {es : Array DictEntry} {n : Nat}
abbrev s_rcm : Stmt := top 7
abbrev N_rcm : List Str := ["line", "word", "space", "rest", "words", "text"]
abbrev P_rcm : List Str := ["line"]
theorem sc_rcm : FnScope N_rcm P_rcm (defScope s_rcm) := ⟨rfl, rfl, rfl, by decide +kernel, rfl, by decide +kernel, by decide +kernel⟩

theorem ok_rcm (F : FnP K "read_command" s_rcm f fd) (hm : mg "read_command" = some (.ref f)) (Z : Zs mg) (G : GCm K w mg wta wwa fo es n) (c_ltr : Cal P w K mg base 2 "is_letters" spLtr []) (c_rpl : Cal P w K mg base 3 "read_place" (spRpl K) []) (c_rbg : Cal P w K mg base 4 "read_begin" (spRbg K) []) (c_rfm : Cal P w K mg base 3 "read_form" (spRfm K) []) : Cal P w K mg base 5 "read_command" (spRcm K) [] := by
  refine mk_cal F hm sc_rcm (fun _ _ _ _ _ _ us hl => match us, hl with | [_], _ => rfl) (fun vs H Q E h => ?_) (fun cdv A outer s H vs Q E hr h => ?_)
  · obtain ⟨wd, ws, rfl, _⟩ := h
    rfl
  obtain ⟨wd, ws, rfl, ha, hl, hlen, q⟩ := h
  refine ⟨_, (pss_cons (ps_asg (pe_bm PySem.F.plainAttrs_str PySem.F.slot_str_partition PySem.F.type_str_partition mt_partition (pv 0) (pa_cons pe_str pa_nil)) (pg_tup rfl (pgs_cons (pg_name (i := 1) sc_rcm.nd rfl (by first | exact Or.inl rfl | exact Or.inr rfl)) (pgs_cons (pg_name (i := 2) sc_rcm.nd rfl (by first | exact Or.inl rfl | exact Or.inr rfl)) (pgs_cons (pg_name (i := 3) sc_rcm.nd rfl (by first | exact Or.inl rfl | exact Or.inr rfl)) pgs_nil)))))
      (pss_cons (ps_if (pt_cmpR op_eq (pv 0) pe_str (nomark _)) (pss_one (ps_ret (pe_tup pa_nil))) pss_nil)
      (pss_cons (ps_if (pt_cmpR op_in_seq (pv 1) (C8.pe_gc (v := .ref wta) (by rfl) ⟨_, G.wt, rfl⟩) (by rfl)) (pss_one (ps_ret (pe_ifExp (pt_truth (pv 2) (fun _ => rfl)) (pe_tup (pa_cons (pv 1) (pa_cons (pv 3) pa_nil))) pe_non))) pss_nil)
      (pss_cons (ps_if (pt_cmpR op_eq (pv 1) pe_str (nomark _)) (pss_one (ps_ret (C8.pe_c c_rpl hr (by first | decide | omega) rfl (pa_cons (pv 3) pa_nil)))) pss_nil)
      (pss_cons (ps_set (i := 4) sc_rcm.nd rfl (by first | exact Or.inl rfl | exact Or.inr rfl) (pe_ifExp (pt_truth (pv 2) (fun _ => rfl)) (pe_bm PySem.F.plainAttrs_str PySem.F.slot_str_split PySem.F.type_str_split mt_split (pv 3) (pa_cons pe_str pa_nil)) (pe_lst pa_nil)))
      (pss_cons (ps_if (pt_cmpR op_eq (pv 1) pe_str (nomark _)) (pss_one (ps_ret (C8.pe_c c_rbg hr (by first | decide | omega) rfl (pa_cons (pv 4) pa_nil)))) pss_nil)
      (pss_cons (ps_if (pt_cmpR op_in_seq (pv 1) (C8.pe_gc (v := .ref wwa) (by rfl) ⟨_, G.ww, rfl⟩) (by rfl)) (pss_one (ps_ret (pe_ifExp (pt_val (pe_callB (cr_all rfl) (by rfl) Z.all (by decide +kernel) (pa_cons (pe_lc (own := [("text", 5)]) (g := (gName 5)) (tt := tYes) (te := (tCall _ [] _ (tCons (tVar 5) tNil))) rfl sc_rcm.nd (pi_list (pv 4)) (blkOk_by (N := N_rcm) (sc := defScope s_rcm) (by decide +kernel)) (fun _ _ _ _ _ => by exact (pg_name (i := 5) sc_rcm.nd rfl (Or.inl rfl))) (fun _ _ _ _ _ => by exact pts_nil) (fun _ _ _ _ _ => by exact (C8.pe_c c_ltr hr (by first | decide | omega) rfl (pa_cons (pv 5) pa_nil)))) pa_nil))) (pe_tup (pa_cons (pv 1) (StX.pa_star (pv 4) pa_nil))) pe_non))) pss_nil)
      (pss_cons (ps_if (pt_cmpR (op_notIn_kd G.fg.D) (pv 1) (C8.pe_gc (v := .ref fo) (by rfl) ⟨_, G.fr, rfl⟩) (by rfl)) (pss_one (ps_ret pe_non)) pss_nil)
      (pss_one (ps_ret (C8.pe_c c_rfm hr (by first | decide | omega) rfl (pa_cons (pv 1) (pa_cons (pe_ix ix_kdict (C8.pe_gc (v := .ref fo) (by rfl) ⟨_, G.fr, rfl⟩) (pv 1) (fun _ _ => rfl)) (pa_cons (pv 4) pa_nil)))))))))))))), ?_⟩
  have hm1 := ha wd (List.mem_cons_self ..)
  have ep : Txt.partition (jn (wd :: ws)) (Str.ofString " ") = if ws = [] then (wd, Str.empty, Str.empty) else (wd, sp1, jn ws) := part_words hm1.1
  refine ⟨_, rfl, rfl, _, _, rfl, rfl, by decide +kernel, Nat.le_of_lt (smallN (by omega)), fun p np => ?_⟩
  obtain ⟨sv, rv, ets, tru, h0, h1⟩ : ∃ sv rv : Str, (if ws = [] then (wd, Str.empty, Str.empty) else (wd, sp1, jn ws)) = (wd, sv, rv) ∧ (sv.length ≤ sizeLine ∧ decide (ws ≠ []) = ((sv.length : Int) != 0)) ∧ (ws = [] → rv = Str.empty) ∧ (ws ≠ [] → rv = jn ws) := by
    by_cases e : ws = []
    · exact ⟨_, _, if_pos e, by rw [decide_eq_false (not_not_intro e)]; exact e_tru, fun _ => rfl, fun z => absurd e z⟩
    · exact ⟨_, _, if_neg e, by rw [decide_eq_true e]; exact s_tru, fun z => absurd z e, fun _ => rfl⟩
  rw [ep, ets]
  refine ⟨p, _, rfl, SqT.mk upd_same, rfl, _, _, rfl, _, _, rfl, _, _, rfl, rfl, ?_⟩
  have s1 : Same H (upd H p (.tup [V.str wd, V.str sv, V.str rv])) := Same.new np
  dsimp only
  generalize upd H p (.tup [V.str wd, V.str sv, V.str rv]) = H1 at s1 ⊢
  have q1 := fun v H' s' => q v H' (s1.trans s')
  unfold cmdD at q1
  have hwl : ∀ p ∈ ws, p.length ≤ 100000 := fun p hp => Nat.le_trans (jn_ge (W := wd :: ws) (List.mem_cons_of_mem _ hp)) (by omega)
  have haw : AscW ws := fun p hp => ha p (List.mem_cons_of_mem _ hp)
  refine ⟨_, rfl, rfl, _, rfl, ?_⟩
  rw [jn_nil]
  refine ite2 (fun e => ?_) (fun e => ?_)
  · rw [if_pos (of_decide_eq_true e)] at q1
    exact ⟨(by show 0 ≤ sizeLine; decide), fun t nt => q1 _ _ (Same.new nt) (.tup (SqT.mk upd_same) .nil)⟩
  have e : ¬ (wd = Str.empty ∧ ws = []) := fun z => e (decide_eq_true z)
  rw [if_neg e] at q1
  clear e
  refine ⟨_, rfl, wta, _, rfl, .inr (G.wtt H1), rfl, Pg.flat_strs _, _, rfl, ?_⟩
  rw [inV_strs]
  refine ite2 (fun e => ?_) (fun e => ?_)
  · rw [if_pos (of_decide_eq_true e)] at q1
    refine ⟨_, rfl, decide (ws ≠ []), tru, ite2 (fun e2 => ?_) (fun e2 => ?_)⟩
    · have e2 := of_decide_eq_true e2
      rw [if_neg e2] at q1
      rw [h1 e2]
      refine ⟨_, rfl, _, rfl, (by show 2 ≤ sizeLine; decide), fun t nt => ?_⟩
      exact q1 _ _ (Same.new nt) (.tup (SqT.mk upd_same) (.cons (.str _) (.cons (.str _) .nil)))
    · have e2 : ws = [] := Classical.not_not.mp fun z => e2 (decide_eq_true z)
      rw [if_pos e2] at q1
      exact q1 _ _ (Same.refl _) .non
  have e : wd ∉ wtxt := fun z => e (decide_eq_true z)
  rw [if_neg e] at q1
  clear e
  refine ⟨_, rfl, rfl, _, rfl, ite2 (fun e => ?_) (fun e => ?_)⟩
  · have e : wd = "place" := V.str.inj (of_decide_eq_true e)
    rw [if_pos e] at q1
    by_cases e2 : ws = []
    · rw [h0 e2]
      refine ⟨_, rfl, [Str.empty], congrArg (fun z => [V.str z]) (jn_one _).symm, by simp, fun p hp => ?_, ?_, fun v H' s' d => q1 v H' s' ?_⟩
      · rw [List.mem_singleton.mp hp]
        exact ⟨(fun z => nomatch (show 32 ∈ ([] : List Nat) from z)), (fun c z => nomatch (show c ∈ ([] : List Nat) from z))⟩
      · rw [jn_one]; decide +kernel
      · rw [e2]; exact d
    · rw [h1 e2]
      refine ⟨_, rfl, ws, rfl, e2, haw, ?_, q1⟩
      rw [jn_cons e2, cs_len, cs_app, cs_app, List.length_append, List.length_append] at hl
      rw [cs_len]
      omega
  have e : ¬ wd = "place" := fun z => e (decide_eq_true (congrArg V.str z))
  rw [if_neg e] at q1
  clear e
  dsimp only [tNext, gName]
  refine seq_asg ?_
  have hjl : ws ≠ [] → (jn ws).length ≤ 20000 := fun e2 => by
    rw [jn_cons e2, cs_len, cs_app, cs_app, List.length_append, List.length_append] at hl
    rw [cs_len]
    omega
  refine tif_of (fun Q' => ∀ l, H1 l = none → Q' (.ref l) (upd H1 l (.lst (ws.map V.str)))) (fun l nl => ?_) (fun Q' q' => ⟨_, rfl, decide (ws ≠ []), tru, if_of (fun e2 => ?_) (fun e2 => ?_)⟩)
  rotate_left
  · have e2 := of_decide_eq_true e2
    rw [h1 e2]
    refine ⟨_, rfl, rfl, _, _, rfl, rfl, by decide +kernel, ?_, fun l nl => ?_⟩
    · exact Nat.le_of_lt (smallN (by have := hjl e2; omega))
    · have es : Txt.split (jn ws) (Str.ofString " ") = ws := split_words e2 fun p hp => (haw p hp).1
      rw [es]
      exact q' l nl
  · have e2 : ws = [] := Classical.not_not.mp (of_decide_eq_false e2)
    refine ⟨(by show 0 ≤ sizeLine; decide), fun l nl => ?_⟩
    have := q' l nl
    rw [e2] at this
    exact this
  have s2 : Same H1 (upd H1 l (.lst (ws.map V.str))) := Same.new nl
  have hl2 : (upd H1 l (.lst (ws.map V.str))) l = some (.lst (ws.map V.str)) := upd_same
  dsimp only [gName]
  generalize upd H1 l (.lst (ws.map V.str)) = H2 at s2 hl2 ⊢
  refine ⟨_, rfl, rfl, _, rfl, ite2 (fun e => ?_) (fun e => ?_)⟩
  · have e : wd = "begin" := V.str.inj (of_decide_eq_true e)
    rw [if_pos e] at q1
    exact ⟨_, rfl, l, ws, rfl, hl2, haw, by omega, hwl, fun v H' s' d => q1 v H' (s2.trans s') d⟩
  have e : ¬ wd = "begin" := fun z => e (decide_eq_true (congrArg V.str z))
  rw [if_neg e] at q1
  clear e
  refine ⟨_, rfl, wwa, _, rfl, .inr (G.wwt H2), rfl, Pg.flat_strs _, _, rfl, ?_⟩
  rw [inV_strs]
  refine ite2 (fun e => ?_) (fun e => ?_)
  · rw [if_pos (of_decide_eq_true e)] at q1
    dsimp only [tRet, tIf, tB, tCB, tCons]
    refine rd_mapL (K := K) (ks := ws) (fun u y => u = .str y) (fun y => .bl (ltB y)) (fun R h => ⟨_, rfl, l, rfl, ⟨_, SqL.mk hl2⟩, h⟩) (SqL.mk hl2) (paired_str ws) (by omega) (fun _ => rfl) (fun u y H' hy hu sm Q' q' => ?_) (fun D H' nD sm hD => ?_)
    · subst hu
      exact ⟨_, rfl, y, rfl, hwl y hy, fun H2 s2 => q' H2 s2⟩
    refine ⟨D, ws.map ltB, rfl, SqL.mk (by rw [hD, List.map_map]; rfl), _, rfl, ?_⟩
    have ea : (ws.map ltB).all id = ws.all ltB := by rw [List.all_map]; rfl
    rw [ea]
    refine if_of (fun e3 => ?_) (fun e3 => ?_)
    · rw [if_pos e3] at q1
      refine ⟨_, rfl, _, rfl, l, _, rfl, .inr (SqL.mk (sm _ _ hl2)), ?_, fun t nt => ?_⟩
      · show (V.str wd :: (ws.map V.str ++ [])).length ≤ sizeLine
        rw [List.append_nil, List.length_cons, List.length_map]
        exact Nat.le_of_lt (small1000 (by omega))
      · refine q1 _ _ (s2.trans (sm.trans (Same.new nt))) (.tup (SqT.mk upd_same) (.cons (.str _) ?_))
        rw [List.append_nil]
        exact dp_strs
    · rw [if_neg (by rw [e3]; decide)] at q1
      exact q1 _ _ (s2.trans sm) .non
  have e : wd ∉ wwrd := fun z => e (decide_eq_true z)
  rw [if_neg e] at q1
  clear e
  have gt := G.fg.get wd
  unfold formD at q1
  cases hf : fms.lookup wd with
  | none =>
    rw [hf] at gt q1
    refine ⟨_, rfl, wd, none, rfl, rfl, gt, _, rfl, ite2 (fun _ => ?_) (fun z => absurd rfl z)⟩
    exact q1 _ _ s2 .non
  | some fs =>
    rw [hf] at gt q1
    obtain ⟨u, gu, ru⟩ := gt
    refine ⟨_, rfl, wd, some u, rfl, rfl, gu, _, rfl, ite2 (fun z => by cases z) (fun _ => ?_)⟩
    have lf : fs.length ≤ 10 := lk_len hf
    refine ⟨_, rfl, _, rfl, fo, wd, _, rfl, rfl, ⟨es, n, u, G.fg.D.at_, G.fg.D.lit, gu, ru⟩, _, rfl, wd, fs, l, ws, rfl, hl2, lf, haw, by omega, hwl, fun v H' s' d => q1 v H' (s2.trans s') d⟩
end
end K80

set_option Elab.async false
set_option linter.all false
set_option maxRecDepth 100000
set_option maxHeartbeats 4000000
namespace Pg
open PySem PySem.Spec PyProof.Rows L2
/-! ### tests that leave what is there -/
def TVs (t : TT) (σ : L2.St) (H : Hp) (b : Bool) : Prop := ∀ Q : Bool → Hp → Prop, (∀ H', Same H H' → Q b H') → t σ H Q
section
variable {t u : TT} {σ : L2.St} {H : Hp} {a b : Bool}
theorem TVs.and (h : TVs t σ H a) (k : ∀ H', a = true → Same H H' → TVs u σ H' b) : TVs (tAnd t u) σ H (a && b) := fun Q q => h _ (fun H' s => by
  cases a with
  | true => exact k H' rfl s Q fun H2 s2 => q H2 (s.trans s2)
  | false => exact q H' s)
theorem TVs.ifs {T U : TS} {D : Ends} (h : TVs t σ H b) (ht : ∀ H', b = true → Same H H' → T D σ H') (hu : ∀ H', b = false → Same H H' → U D σ H') : tIfS t T U D σ H := h _ (fun H' s => by
  cases b with
  | true => exact ht H' rfl s
  | false => exact hu H' rfl s)
end
/-- a written list of texts -/
def taS : List Str → TA
  | [] => tNil
  | x :: r => tCons (tC (.str x)) (taS r)
theorem taS_ok : ∀ (xs : List Str) (σ : L2.St) (H : Hp) (Q : List V → Hp → Prop), Q (xs.map V.str) H → taS xs σ H Q
  | [], _, _, _, q => q
  | x :: r, σ, H, Q, q => taS_ok r σ H (fun us H' => Q (V.str x :: us) H') q
theorem tv_in {K : PySem.W.Frag} {σ : L2.St} {H : Hp} {i : Nat} {x : Str} (xs : List Str) (hi : σ[i]? = some (some (.str x))) (hl : xs.length ≤ sizeLine) : TVs (tTest (tOp (rIn K false) (tVar i) (tLst (taS xs)))) σ H (decide (x ∈ xs)) := fun Q q => by
  refine ⟨_, hi, taS_ok xs _ _ _ ⟨by rw [List.length_map]; exact hl, fun p np => ⟨p, _, rfl, .inl (SqL.mk upd_same), rfl, Pg.flat_strs _, _, rfl, ?_⟩⟩⟩
  rw [inV_strs]
  exact q _ (Same.new np)
/-- a line's words, of the law's reader -/
def spDue80 (K : PySem.W.Frag) : Sp := fun vs H Q _ => ∃ (wd : Str) (ws : List Str), vs = [.str (jn (wd :: ws))] ∧ AscW (wd :: ws) ∧ (jn (wd :: ws)).length ≤ 5000 ∧ ws.length ≤ 900 ∧ ∀ v H', Same H H' → Dp K H' v (cmdD wd ws) → Q v H'
end Pg
namespace Pg
open PySem PySem.Spec PyProof.Rows L2
theorem nb_of {b : Bool} {p : Prop} (h : b = true ↔ p) (e : b = false) : ¬ p := fun z => by rw [h.mpr z] at e; cases e
theorem len_gt (ws : List Str) (k : Nat) : decide ((k : Int) < (((ws.map V.str).length : Nat) : Int)) = decide (k < ws.length) := by
  rw [List.length_map, Bool.eq_iff_iff, decide_eq_true_iff, decide_eq_true_iff]
  omega
theorem len_eq (ws : List Str) (k : Nat) : decide (V.int (((ws.map V.str).length : Nat) : Int) = V.int (k : Int)) = decide (ws.length = k) := by
  rw [List.length_map, Bool.eq_iff_iff, decide_eq_true_iff, decide_eq_true_iff]
  exact ⟨fun z => by have := V.int.inj z; omega, fun z => by rw [z]⟩
theorem wat_at {ws : List Str} {i : Nat} (h : i < ws.length) : atI (ws.map V.str) (i : Int) = some (.str (wat ws i)) := by
  rw [Pg.atI_get, List.getElem?_map, wat_get h]
  rfl
theorem wat_mem {ws : List Str} {i : Nat} (h : i < ws.length) : wat ws i ∈ ws := List.mem_of_getElem? (wat_get h)
theorem eq_str {x y : Str} : decide (V.str x = V.str y) = decide (x = y) := by
  rw [Bool.eq_iff_iff, decide_eq_true_iff, decide_eq_true_iff]
  exact ⟨fun z => V.str.inj z, fun z => by rw [z]⟩
end Pg

set_option Elab.async false
set_option linter.all false
set_option maxRecDepth 100000
set_option maxHeartbeats 4000000
namespace K80
open PySem PySem.Spec PyProof.Rows L2 Pg
section
variable {P : Program} {w : World} {K : PySem.W.Frag} {mg : Str → Option Value} {base : Heap} {f : Addr} {fd : FuncData} {wta wwa fo : Addr} {es : Array DictEntry} {n : Nat}
abbrev s_due : Stmt := top 26
abbrev N_due : List Str := ["line", "words", "first", "rest", "at", "good", "signs", "also", "marks", "word"]
abbrev P_due : List Str := ["line"]
theorem sc_due : FnScope N_due P_due (defScope s_due) := ⟨rfl, rfl, rfl, by decide +kernel, rfl, by decide +kernel, by decide +kernel⟩

theorem ok_due (F : FnP K "_law_due" s_due f fd) (hm : mg "_law_due" = some (.ref f)) (Z : Zs mg) (c_lil : Cal P w K mg base 1 "_law_is_letters" spLtr []) (c_lin : Cal P w K mg base 1 "_law_is_number" spNbr []) (c_lps : Cal P w K mg base 2 "_law_pairs" (spLps K) []) : Cal P w K mg base 3 "_law_due" (spDue80 K) [] := by
  refine mk_cal F hm sc_due (fun _ _ _ _ _ _ us hl => match us, hl with | [_], _ => rfl) (fun vs H Q E h => ?_) (fun cdv A outer s H vs Q E hr h => ?_)
  · obtain ⟨wd, ws, rfl, _⟩ := h
    rfl
  obtain ⟨wd, ws, rfl, ha, hl, hlen, q⟩ := h
  refine ⟨_, (pss_cons (ps_set (i := 1) sc_due.nd rfl (by first | exact Or.inl rfl | exact Or.inr rfl) (pe_bm PySem.F.plainAttrs_str PySem.F.slot_str_split PySem.F.type_str_split mt_split (pv 0) (pa_cons pe_str pa_nil)))
      (pss_cons (ps_set (i := 2) sc_due.nd rfl (by first | exact Or.inl rfl | exact Or.inr rfl) (pe_ix ix_list (pv 1) pe_int (fun _ _ => rfl)))
      (pss_cons (ps_set (i := 3) sc_due.nd rfl (by first | exact Or.inl rfl | exact Or.inr rfl) (pe_slice sl_list (pv 1) (po_some pe_int) po_none))
      (pss_cons (ps_if (pt_cmpR op_eq (pv 0) pe_str (nomark _)) (pss_one (ps_ret (pe_tup pa_nil))) pss_nil)
      (pss_cons (ps_if (PW.pt (pw_and (pt_cmpR op_in_seq (pv 2) (pe_lst (pa_cons pe_str (pa_cons pe_str (pa_cons pe_str (pa_cons pe_str (pa_cons pe_str (pa_cons pe_str pa_nil))))))) (by rfl)) (pw_and1 (pt_cmpR op_gt (pe_callB call_len_seq (by rfl) Z.len (by decide +kernel) (pa_cons (pv 3) pa_nil)) pe_int (nomark _))))) (pss_one (ps_ret (pe_tup (pa_cons (pv 2) (pa_cons (pe_bm PySem.F.plainAttrs_str PySem.F.slot_str_join PySem.F.type_str_join mt_join pe_str (pa_cons (pv 3) pa_nil)) pa_nil))))) pss_nil)
      (pss_cons (ps_if (PW.pt (pw_and (pt_cmpR op_eq (pv 2) pe_str (nomark _)) (pw_and (pt_cmpR op_gt (pe_callB call_len_seq (by rfl) Z.len (by decide +kernel) (pa_cons (pv 3) pa_nil)) pe_int (nomark _)) (pw_and1 (pt_val (C8.pe_c c_lil hr (by first | decide | omega) rfl (pa_cons (pe_ix ix_list (pv 3) pe_int (fun _ _ => rfl)) pa_nil))))))) (pss_one (ps_ret (pe_tup (pa_cons pe_str (pa_cons (pe_ix ix_list (pv 3) pe_int (fun _ _ => rfl)) (pa_cons (pe_bm PySem.F.plainAttrs_str PySem.F.slot_str_join PySem.F.type_str_join mt_join pe_str (pa_cons (pe_slice sl_list (pv 3) (po_some pe_int) po_none) pa_nil)) pa_nil)))))) pss_nil)
      (pss_cons (ps_if (PW.pt (pw_and (pt_cmpR op_in_seq (pv 2) (pe_lst (pa_cons pe_str (pa_cons pe_str pa_nil))) (by rfl)) (pw_and1 (pt_cmpR op_eq (pe_callB call_len_seq (by rfl) Z.len (by decide +kernel) (pa_cons (pv 3) pa_nil)) pe_int (nomark _))))) (pss_one (ps_ret (pe_tup (pa_cons (pv 2) pa_nil)))) pss_nil)
      (pss_cons (ps_if (PW.pt (pw_and (pt_cmpR op_in_seq (pv 2) (pe_lst (pa_cons pe_str (pa_cons pe_str (pa_cons pe_str (pa_cons pe_str pa_nil))))) (by rfl)) (pw_and (pt_cmpR op_eq (pe_callB call_len_seq (by rfl) Z.len (by decide +kernel) (pa_cons (pv 3) pa_nil)) pe_int (nomark _)) (pw_and1 (pt_val (C8.pe_c c_lin hr (by first | decide | omega) rfl (pa_cons (pe_ix ix_list (pv 3) pe_int (fun _ _ => rfl)) pa_nil))))))) (pss_one (ps_ret (pe_tup (pa_cons (pv 2) (pa_cons (pe_callTy call_int_str (by rfl) Z.int (by decide +kernel) (pa_cons (pe_ix ix_list (pv 3) pe_int (fun _ _ => rfl)) pa_nil)) pa_nil))))) pss_nil)
      (pss_cons (ps_if (PW.pt (pw_and (pt_cmpR op_in_seq (pv 2) (pe_lst (pa_cons pe_str (pa_cons pe_str pa_nil))) (by rfl)) (pw_and1 (pt_val (pe_callB (cr_all rfl) (by rfl) Z.all (by decide +kernel) (pa_cons (pe_lc (own := [("word", 9)]) (g := (gName 9)) (tt := tYes) (te := (tCall _ [] _ (tCons (tVar 9) tNil))) rfl sc_due.nd (pi_list (pv 3)) (blkOk_by (N := N_due) (sc := defScope s_due) (by decide +kernel)) (fun _ _ _ _ _ => by exact (pg_name (i := 9) sc_due.nd rfl (Or.inl rfl))) (fun _ _ _ _ _ => by exact pts_nil) (fun _ _ _ _ _ => by exact (C8.pe_c c_lil hr (by first | decide | omega) rfl (pa_cons (pv 9) pa_nil)))) pa_nil)))))) (pss_one (ps_ret (pe_callTy call_tuple_of (by rfl) Z.tuple (by decide +kernel) (pa_cons (pv 1) pa_nil)))) pss_nil)
      (pss_cons (ps_if (PW.pt (pw_and (pt_cmpR op_eq (pv 2) pe_str (nomark _)) (pw_and (pt_cmpR op_eq (pe_callB call_len_seq (by rfl) Z.len (by decide +kernel) (pa_cons (pv 3) pa_nil)) pe_int (nomark _)) (pw_and (pt_val (C8.pe_c c_lil hr (by first | decide | omega) rfl (pa_cons (pe_ix ix_list (pv 3) pe_int (fun _ _ => rfl)) pa_nil))) (pw_and1 (pt_val (C8.pe_c c_lin hr (by first | decide | omega) rfl (pa_cons (pe_ix ix_list (pv 3) pe_int (fun _ _ => rfl)) pa_nil)))))))) (pss_one (ps_ret (pe_tup (pa_cons pe_str (pa_cons (pe_ix ix_list (pv 3) pe_int (fun _ _ => rfl)) (pa_cons (pe_callTy call_int_str (by rfl) Z.int (by decide +kernel) (pa_cons (pe_ix ix_list (pv 3) pe_int (fun _ _ => rfl)) pa_nil)) pa_nil)))))) pss_nil)
      (pss_cons (ps_if (PW.pt (pw_and (pt_cmpR op_eq (pv 2) pe_str (nomark _)) (pw_and (pt_cmpR op_eq (pe_callB call_len_seq (by rfl) Z.len (by decide +kernel) (pa_cons (pv 3) pa_nil)) pe_int (nomark _)) (pw_and (pt_val (C8.pe_c c_lil hr (by first | decide | omega) rfl (pa_cons (pe_ix ix_list (pv 3) pe_int (fun _ _ => rfl)) pa_nil))) (pw_and (pt_val (C8.pe_c c_lin hr (by first | decide | omega) rfl (pa_cons (pe_ix ix_list (pv 3) pe_int (fun _ _ => rfl)) pa_nil))) (pw_and1 (pt_val (C8.pe_c c_lin hr (by first | decide | omega) rfl (pa_cons (pe_ix ix_list (pv 3) pe_int (fun _ _ => rfl)) pa_nil))))))))) (pss_one (ps_ret (pe_tup (pa_cons pe_str (pa_cons (pe_ix ix_list (pv 3) pe_int (fun _ _ => rfl)) (pa_cons (pe_callTy call_int_str (by rfl) Z.int (by decide +kernel) (pa_cons (pe_ix ix_list (pv 3) pe_int (fun _ _ => rfl)) pa_nil)) (pa_cons (pe_callTy call_int_str (by rfl) Z.int (by decide +kernel) (pa_cons (pe_ix ix_list (pv 3) pe_int (fun _ _ => rfl)) pa_nil)) pa_nil))))))) pss_nil)
      (pss_cons (ps_if (PW.pt (pw_and (pt_cmpR op_eq (pv 2) pe_str (nomark _)) (pw_and1 (pt_cmpR op_eq (pe_callB call_len_seq (by rfl) Z.len (by decide +kernel) (pa_cons (pe_lc (own := [("word", 9)]) (g := (gName 9)) (tt := (tTest (tOp _ (tVar 9) _))) (te := (tVar 9)) rfl sc_due.nd (pi_list (pv 3)) (blkOk_by (N := N_due) (sc := defScope s_due) (by decide +kernel)) (fun _ _ _ _ _ => by exact (pg_name (i := 9) sc_due.nd rfl (Or.inl rfl))) (fun _ _ _ _ _ => by exact (pts_one (pt_cmpR op_eq (pv 9) pe_str (nomark _)))) (fun _ _ _ _ _ => by exact (pv 9))) pa_nil)) pe_int (nomark _))))) (pss_cons (ps_set (i := 4) sc_due.nd rfl (by first | exact Or.inl rfl | exact Or.inr rfl) (pe_bm PySem.F.plainAttrs_list PySem.F.slot_list_index PySem.F.type_list_index mt_index (pv 3) (pa_cons pe_str pa_nil)))
      (pss_cons (ps_asg (C8.pe_c c_lps hr (by first | decide | omega) rfl (pa_cons (pe_slice sl_list (pv 3) po_none (po_some (pv 4))) pa_nil)) (pg_tup rfl (pgs_cons (pg_name (i := 5) sc_due.nd rfl (by first | exact Or.inl rfl | exact Or.inr rfl)) (pgs_cons (pg_name (i := 6) sc_due.nd rfl (by first | exact Or.inl rfl | exact Or.inr rfl)) pgs_nil))))
      (pss_cons (ps_asg (C8.pe_c c_lps hr (by first | decide | omega) rfl (pa_cons (pe_slice sl_list (pv 3) (po_some (pe_op op_add (pv 4) pe_int)) po_none) pa_nil)) (pg_tup rfl (pgs_cons (pg_name (i := 7) sc_due.nd rfl (by first | exact Or.inl rfl | exact Or.inr rfl)) (pgs_cons (pg_name (i := 8) sc_due.nd rfl (by first | exact Or.inl rfl | exact Or.inr rfl)) pgs_nil))))
      (pss_one (ps_if (PW.pt (pw_and (pt_val (pv 5)) (pw_and1 (pt_val (pv 7))))) (pss_one (ps_ret (pe_tup (pa_cons pe_str (pa_cons (pv 6) (pa_cons (pv 8) pa_nil)))))) pss_nil))))) pss_nil)
      (pss_one (ps_ret pe_non)))))))))))))), ?_⟩
  have hm1 := ha wd (List.mem_cons_self ..)
  rw [← due_eq] at q
  have es : Txt.split (jn (wd :: ws)) (Str.ofString " ") = wd :: ws := split_words (List.cons_ne_nil _ _) fun p hp => (ha p hp).1
  refine ⟨_, rfl, rfl, _, _, rfl, rfl, by decide +kernel, Nat.le_of_lt (smallN (by omega)), fun l nl => ?_⟩
  rw [es]
  have s1 : Same H (upd H l (.lst ((wd :: ws).map V.str))) := Same.new nl
  have hl0 : (upd H l (.lst ((wd :: ws).map V.str))) l = some (.lst ((wd :: ws).map V.str)) := upd_same
  dsimp only [gName]
  generalize upd H l (.lst ((wd :: ws).map V.str)) = H1 at s1 hl0 ⊢
  refine seq_asg ?_
  refine ⟨_, rfl, l, _, _, _, rfl, rfl, SqL.mk hl0, wat_at (ws := wd :: ws) (i := 0) (by simp), ?_⟩
  refine ⟨_, rfl, 1, rfl, l, _, rfl, SqL.mk hl0, fun l1 nl1 => ?_⟩
  have ec : cutV ((wd :: ws).map V.str) (some 1) none = ws.map V.str := by
    show cutV ((wd :: ws).map V.str) (some ((1 : Nat) : Int)) none = _
    rw [cutV_drop]
    rfl
  rw [ec]
  have s2 : Same H1 (upd H1 l1 (.lst (ws.map V.str))) := Same.new nl1
  have hl1 : (upd H1 l1 (.lst (ws.map V.str))) l1 = some (.lst (ws.map V.str)) := upd_same
  have hl0 := s2 _ _ hl0
  dsimp only [gName]
  generalize upd H1 l1 (.lst (ws.map V.str)) = H2 at s2 hl1 hl0 ⊢
  have q1 := fun v H' s' => q v H' ((s1.trans s2).trans s')
  unfold dueD at q1
  have hwl : ∀ p ∈ ws, p.length ≤ 100000 := fun p hp => Nat.le_trans (jn_ge (W := wd :: ws) (List.mem_cons_of_mem _ hp)) (by omega)
  have hw5 : ∀ p ∈ ws, p.length ≤ 5000 := fun p hp => Nat.le_trans (jn_ge (W := wd :: ws) (List.mem_cons_of_mem _ hp)) hl
  have haw : AscW ws := fun p hp => ha p (List.mem_cons_of_mem _ hp)
  have hml : (ws.map V.str).length = ws.length := List.length_map _
  have hj : ∀ {W : List Str}, (∀ p ∈ W, p ∈ ws) → W.length ≤ ws.length → (W.map (·.length)).sum + W.length * (Str.ofString " ").length ≤ 16777216 := fun {W} h1 h2 => by
    have := sum_lens80 (n := 5000) (W := W) fun p hp => hw5 p (h1 p hp)
    have e1 : (Str.ofString " ").length = 1 := by decide +kernel
    rw [e1]
    have : W.length * 5000 ≤ 900 * 5000 := Nat.mul_le_mul_right _ (by omega)
    omega
  refine ⟨_, rfl, rfl, _, rfl, ?_⟩
  rw [jn_nil]
  refine ite2 (fun e => ?_) (fun e => ?_)
  · rw [if_pos (of_decide_eq_true e)] at q1
    exact ⟨(by show 0 ≤ sizeLine; decide), fun t nt => q1 _ _ (Same.new nt) (.tup (SqT.mk upd_same) .nil)⟩
  rw [if_neg (fun z => e (decide_eq_true z))] at q1
  clear e
  -- rule, keep, ..
  have B : (decide (wd ∈ wtxt) && decide (0 < ws.length)) = true ↔ (wd ∈ wtxt ∧ 0 < ws.length) := by simp only [Bool.and_eq_true, decide_eq_true_iff]
  refine TVs.ifs (b := decide (wd ∈ wtxt) && decide (0 < ws.length)) (TVs.and (tv_in wtxt rfl (by decide)) fun H' _ s' Q' q' => ⟨_, rfl, l1, _, rfl, .inl (SqL.mk (s' _ _ hl1)), _, _, rfl, rfl, _, rfl, by have := q' H' (Same.refl H'); rw [← len_gt] at this; exact this⟩) (fun H3 e s3 => ?_) (fun H3 e s3 => ?_)
  · have e := B.mp e
    rw [if_pos e] at q1
    refine ⟨_, rfl, rfl, _, rfl, _, l1, ws, rfl, rfl, .inl (SqL.mk (s3 _ _ hl1)), hj (fun p hp => hp) (Nat.le_refl _), (by show 2 ≤ sizeLine; decide), fun t nt => ?_⟩
    exact q1 _ _ (s3.trans (Same.new nt)) (.tup (SqT.mk upd_same) (.cons (.str _) (.cons (.str _) .nil)))
  rw [if_neg (nb_of B e)] at q1
  clear e B
  have q1 := fun v H' s' => q1 v H' (s3.trans s')
  have hl1 := s3 _ _ hl1
  have hl0 := s3 _ _ hl0
  have B : (decide (wd = "place") && (decide (1 < ws.length) && ltB (wat ws 0))) = true ↔ (wd = "place" ∧ 1 < ws.length ∧ ltB (wat ws 0) = true) := by simp only [Bool.and_eq_true, decide_eq_true_iff]
  dsimp only [tNext]
  refine TVs.ifs (b := decide (wd = "place") && (decide (1 < ws.length) && ltB (wat ws 0))) (TVs.and (fun Q' q' => ⟨_, rfl, rfl, _, rfl, by have := q' _ (Same.refl _); rw [← Pg.eq_str] at this; exact this⟩) fun H' e1 s' => TVs.and (fun Q' q' => ⟨_, rfl, l1, _, rfl, .inl (SqL.mk (s' _ _ hl1)), _, _, rfl, rfl, _, rfl, by have := q' _ (Same.refl _); rw [← len_gt] at this; exact this⟩) fun H'' e2 s'' Q' q' => ⟨_, rfl, l1, _, _, _, rfl, rfl, SqL.mk ((s'.trans s'') _ _ hl1), wat_at (i := 0) (by have := of_decide_eq_true e2; omega), _, rfl, hwl _ (wat_mem (i := 0) (by have := of_decide_eq_true e2; omega)), fun H6 s6 => ⟨_, rfl, q' H6 s6⟩⟩) (fun H4 e s4 => ?_) (fun H4 e s4 => ?_)
  · have e := B.mp e
    rw [if_pos e] at q1
    refine ⟨_, rfl, l1, _, _, _, rfl, rfl, SqL.mk (s4 _ _ hl1), wat_at (i := 0) (by omega), rfl, _, rfl, 1, rfl, l1, _, rfl, SqL.mk (s4 _ _ hl1), fun t0 nt0 => ?_⟩
    have ec1 : cutV (ws.map V.str) (some 1) none = (ws.drop 1).map V.str := by
      show cutV (ws.map V.str) (some ((1 : Nat) : Int)) none = _
      rw [cutV_drop, List.map_drop]
    rw [ec1]
    refine ⟨_, t0, ws.drop 1, rfl, rfl, .inl (SqL.mk upd_same), hj (fun p hp => List.mem_of_mem_drop hp) (by rw [List.length_drop]; omega), (by show 3 ≤ sizeLine; decide), fun t nt => ?_⟩
    exact q1 _ _ ((s4.trans (Same.new nt0)).trans (Same.new nt)) (.tup (SqT.mk upd_same) (.cons (.str _) (.cons (.str _) (.cons (.str _) .nil))))
  rw [if_neg (nb_of B e)] at q1
  clear e B
  have q1 := fun v H' s' => q1 v H' (s4.trans s')
  have hl1 := s4 _ _ hl1
  have hl0 := s4 _ _ hl0
  have B : (decide (wd ∈ ruw) && decide (ws.length = 0)) = true ↔ (wd ∈ ruw ∧ ws.length = 0) := by simp only [Bool.and_eq_true, decide_eq_true_iff]
  dsimp only [tNext]
  refine TVs.ifs (b := decide (wd ∈ ruw) && decide (ws.length = 0)) (TVs.and (tv_in ruw rfl (by decide)) fun H' _ s' Q' q' => ⟨_, rfl, l1, _, rfl, .inl (SqL.mk (s' _ _ hl1)), rfl, _, rfl, by have := q' _ (Same.refl _); rw [← len_eq] at this; exact this⟩) (fun H4 e s4 => ?_) (fun H4 e s4 => ?_)
  · have e := B.mp e
    rw [if_pos e] at q1
    refine ⟨_, rfl, (by show 1 ≤ sizeLine; decide), fun t nt => ?_⟩
    exact q1 _ _ (s4.trans (Same.new nt)) (.tup (SqT.mk upd_same) (.cons (.str _) .nil))
  rw [if_neg (nb_of B e)] at q1
  clear e B
  have q1 := fun v H' s' => q1 v H' (s4.trans s')
  have hl1 := s4 _ _ hl1
  have hl0 := s4 _ _ hl0
  have B : (decide (wd ∈ nmw) && (decide (ws.length = 1) && nbB (wat ws 0))) = true ↔ (wd ∈ nmw ∧ ws.length = 1 ∧ nbB (wat ws 0) = true) := by simp only [Bool.and_eq_true, decide_eq_true_iff]
  dsimp only [tNext]
  refine TVs.ifs (b := decide (wd ∈ nmw) && (decide (ws.length = 1) && nbB (wat ws 0))) (TVs.and (tv_in nmw rfl (by decide)) fun H' _ s' => TVs.and (fun Q' q' => ⟨_, rfl, l1, _, rfl, .inl (SqL.mk (s' _ _ hl1)), rfl, _, rfl, by have := q' _ (Same.refl _); rw [← len_eq] at this; exact this⟩) fun H'' e2 s'' Q' q' => ⟨_, rfl, l1, _, _, _, rfl, rfl, SqL.mk ((s'.trans s'') _ _ hl1), wat_at (i := 0) (by have := of_decide_eq_true e2; omega), _, rfl, hwl _ (wat_mem (i := 0) (by have := of_decide_eq_true e2; omega)), (haw _ (wat_mem (i := 0) (by have := of_decide_eq_true e2; omega))).2, fun H6 s6 => ⟨_, rfl, q' H6 s6⟩⟩) (fun H4 e s4 => ?_) (fun H4 e s4 => ?_)
  · have e := B.mp e
    rw [if_pos e] at q1
    refine ⟨_, rfl, _, rfl, l1, _, _, _, rfl, rfl, SqL.mk (s4 _ _ hl1), wat_at (i := 0) (by omega), _, _, rfl, nb_val e.2.2, nb_len e.2.2, (by show 2 ≤ sizeLine; decide), fun t nt => ?_⟩
    exact q1 _ _ (s4.trans (Same.new nt)) (.tup (SqT.mk upd_same) (.cons (.str _) (.cons (.int _) .nil)))
  rw [if_neg (nb_of B e)] at q1
  clear e B
  have q1 := fun v H' s' => q1 v H' (s4.trans s')
  have hl1 := s4 _ _ hl1
  have hl0 := s4 _ _ hl0
  have B : (decide (wd ∈ wwrd) && ws.all ltB) = true ↔ (wd ∈ wwrd ∧ ws.all ltB = true) := by simp only [Bool.and_eq_true, decide_eq_true_iff]
  dsimp only [tNext]
  refine TVs.ifs (b := decide (wd ∈ wwrd) && ws.all ltB) (TVs.and (tv_in wwrd rfl (by decide)) fun H' _ s' Q' q' => by
    dsimp only [tB, tCB, tCons]
    refine rd_mapL (K := K) (ks := ws) (fun u y => u = .str y) (fun y => .bl (ltB y)) (fun R h => ⟨_, rfl, l1, rfl, ⟨_, SqL.mk (s' _ _ hl1)⟩, h⟩) (SqL.mk (s' _ _ hl1)) (paired_str ws) (by omega) (fun _ => rfl) (fun u y H6 hy hu sm Q6 q6 => ?_) (fun D H6 nD sm hD => ?_)
    · subst hu
      exact ⟨_, rfl, y, rfl, hwl y hy, fun H7 s7 => q6 H7 s7⟩
    refine ⟨D, ws.map ltB, rfl, SqL.mk (by rw [hD, List.map_map]; rfl), _, rfl, ?_⟩
    have ea : (ws.map ltB).all id = ws.all ltB := by rw [List.all_map]; rfl
    rw [ea]
    exact q' H6 sm) (fun H4 e s4 => ?_) (fun H4 e s4 => ?_)
  · have e := B.mp e
    rw [if_pos e] at q1
    refine ⟨_, rfl, l, _, rfl, .inl ⟨SqL.mk (s4 _ _ hl0), fun t nt => ?_⟩⟩
    exact q1 _ _ (s4.trans (Same.new nt)) (.tup (SqT.mk upd_same) (.cons (.str _) dp_strs))
  rw [if_neg (nb_of B e)] at q1
  clear e B
  have q1 := fun v H' s' => q1 v H' (s4.trans s')
  have hl1 := s4 _ _ hl1
  have hl0 := s4 _ _ hl0
  have B : (decide (wd = "count") && (decide (ws.length = 2) && (ltB (wat ws 0) && nbB (wat ws 1)))) = true ↔ (wd = "count" ∧ ws.length = 2 ∧ ltB (wat ws 0) = true ∧ nbB (wat ws 1) = true) := by simp only [Bool.and_eq_true, decide_eq_true_iff]
  dsimp only [tNext]
  refine TVs.ifs (b := decide (wd = "count") && (decide (ws.length = 2) && (ltB (wat ws 0) && nbB (wat ws 1)))) (TVs.and (fun Q' q' => ⟨_, rfl, rfl, _, rfl, by have := q' _ (Same.refl _); rw [← Pg.eq_str] at this; exact this⟩) fun H' _ s' => TVs.and (fun Q' q' => ⟨_, rfl, l1, _, rfl, .inl (SqL.mk (s' _ _ hl1)), rfl, _, rfl, by have := q' _ (Same.refl _); rw [← len_eq] at this; exact this⟩) fun H'' e2 s'' => TVs.and (fun Q' q' => ⟨_, rfl, l1, _, _, _, rfl, rfl, SqL.mk ((s'.trans s'') _ _ hl1), wat_at (i := 0) (by have := of_decide_eq_true e2; omega), _, rfl, hwl _ (wat_mem (i := 0) (by have := of_decide_eq_true e2; omega)), fun H6 s6 => ⟨_, rfl, q' H6 s6⟩⟩) fun H''' _ s''' Q' q' => ⟨_, rfl, l1, _, _, _, rfl, rfl, SqL.mk (((s'.trans s'').trans s''') _ _ hl1), wat_at (i := 1) (by have := of_decide_eq_true e2; omega), _, rfl, hwl _ (wat_mem (i := 1) (by have := of_decide_eq_true e2; omega)), (haw _ (wat_mem (i := 1) (by have := of_decide_eq_true e2; omega))).2, fun H6 s6 => ⟨_, rfl, q' H6 s6⟩⟩) (fun H4 e s4 => ?_) (fun H4 e s4 => ?_)
  · have e := B.mp e
    rw [if_pos e] at q1
    refine ⟨_, rfl, l1, _, _, _, rfl, rfl, SqL.mk (s4 _ _ hl1), wat_at (i := 0) (by omega), _, rfl, l1, _, _, _, rfl, rfl, SqL.mk (s4 _ _ hl1), wat_at (i := 1) (by omega), _, _, rfl, nb_val e.2.2.2, nb_len e.2.2.2, (by show 3 ≤ sizeLine; decide), fun t nt => ?_⟩
    exact q1 _ _ (s4.trans (Same.new nt)) (.tup (SqT.mk upd_same) (.cons (.str _) (.cons (.str _) (.cons (.int _) .nil))))
  rw [if_neg (nb_of B e)] at q1
  clear e B
  have q1 := fun v H' s' => q1 v H' (s4.trans s')
  have hl1 := s4 _ _ hl1
  have hl0 := s4 _ _ hl0
  have B : (decide (wd = "tree") && (decide (ws.length = 3) && (ltB (wat ws 0) && (nbB (wat ws 1) && nbB (wat ws 2))))) = true ↔ (wd = "tree" ∧ ws.length = 3 ∧ ltB (wat ws 0) = true ∧ nbB (wat ws 1) = true ∧ nbB (wat ws 2) = true) := by simp only [Bool.and_eq_true, decide_eq_true_iff]
  dsimp only [tNext]
  refine TVs.ifs (b := decide (wd = "tree") && (decide (ws.length = 3) && (ltB (wat ws 0) && (nbB (wat ws 1) && nbB (wat ws 2))))) (TVs.and (fun Q' q' => ⟨_, rfl, rfl, _, rfl, by have := q' _ (Same.refl _); rw [← Pg.eq_str] at this; exact this⟩) fun H' _ s' => TVs.and (fun Q' q' => ⟨_, rfl, l1, _, rfl, .inl (SqL.mk (s' _ _ hl1)), rfl, _, rfl, by have := q' _ (Same.refl _); rw [← len_eq] at this; exact this⟩) fun H'' e2 s'' => TVs.and (fun Q' q' => ⟨_, rfl, l1, _, _, _, rfl, rfl, SqL.mk ((s'.trans s'') _ _ hl1), wat_at (i := 0) (by have := of_decide_eq_true e2; omega), _, rfl, hwl _ (wat_mem (i := 0) (by have := of_decide_eq_true e2; omega)), fun H6 s6 => ⟨_, rfl, q' H6 s6⟩⟩) fun H''' _ s''' => TVs.and (fun Q' q' => ⟨_, rfl, l1, _, _, _, rfl, rfl, SqL.mk (((s'.trans s'').trans s''') _ _ hl1), wat_at (i := 1) (by have := of_decide_eq_true e2; omega), _, rfl, hwl _ (wat_mem (i := 1) (by have := of_decide_eq_true e2; omega)), (haw _ (wat_mem (i := 1) (by have := of_decide_eq_true e2; omega))).2, fun H6 s6 => ⟨_, rfl, q' H6 s6⟩⟩) fun H4 _ s4 Q' q' => ⟨_, rfl, l1, _, _, _, rfl, rfl, SqL.mk ((((s'.trans s'').trans s''').trans s4) _ _ hl1), wat_at (i := 2) (by have := of_decide_eq_true e2; omega), _, rfl, hwl _ (wat_mem (i := 2) (by have := of_decide_eq_true e2; omega)), (haw _ (wat_mem (i := 2) (by have := of_decide_eq_true e2; omega))).2, fun H6 s6 => ⟨_, rfl, q' H6 s6⟩⟩) (fun H4 e s4 => ?_) (fun H4 e s4 => ?_)
  · have e := B.mp e
    rw [if_pos e] at q1
    refine ⟨_, rfl, l1, _, _, _, rfl, rfl, SqL.mk (s4 _ _ hl1), wat_at (i := 0) (by omega), _, rfl, l1, _, _, _, rfl, rfl, SqL.mk (s4 _ _ hl1), wat_at (i := 1) (by omega), _, _, rfl, nb_val e.2.2.2.1, nb_len e.2.2.2.1, _, rfl, l1, _, _, _, rfl, rfl, SqL.mk (s4 _ _ hl1), wat_at (i := 2) (by omega), _, _, rfl, nb_val e.2.2.2.2, nb_len e.2.2.2.2, (by show 4 ≤ sizeLine; decide), fun t nt => ?_⟩
    exact q1 _ _ (s4.trans (Same.new nt)) (.tup (SqT.mk upd_same) (.cons (.str _) (.cons (.str _) (.cons (.int _) (.cons (.int _) .nil)))))
  rw [if_neg (nb_of B e)] at q1
  clear e B
  have q1 := fun v H' s' => q1 v H' (s4.trans s')
  have hl1 := s4 _ _ hl1
  have hl0 := s4 _ _ hl0
  have B : (decide (wd = "begin") && decide ((ws.filter fun x => decide (x = smc)).length = 1)) = true ↔ (wd = "begin" ∧ (ws.filter fun x => decide (x = smc)).length = 1) := by simp only [Bool.and_eq_true, decide_eq_true_iff]
  dsimp only [tNext]
  refine TVs.ifs (b := decide (wd = "begin") && decide ((ws.filter fun x => decide (x = smc)).length = 1)) (TVs.and (fun Q' q' => ⟨_, rfl, rfl, _, rfl, by have := q' _ (Same.refl _); rw [← Pg.eq_str] at this; exact this⟩) fun H' _ s' Q' q' => by
    dsimp only [tTest]
    refine op_of ?_
    dsimp only [tCB, tCons]
    refine rd_strsIf (K := K) (xs := ws) (fun x => decide (x = smc)) (fun R h => ⟨_, rfl, l1, rfl, ⟨_, SqL.mk (s' _ _ hl1)⟩, h⟩) (SqL.mk (s' _ _ hl1)) (by omega) (fun _ => rfl) (fun _ => rfl) (fun x H6 hx s6 Q6 q6 => ⟨_, rfl, rfl, _, rfl, by rw [← Pg.eq_str] at q6; exact q6⟩) (fun D H6 nD s6 hD => ?_)
    refine ⟨D, _, rfl, .inl (SqL.mk hD), rfl, _, rfl, ?_⟩
    have := q' H6 s6
    rw [← len_eq] at this
    exact this) (fun H5 e s5 => ?_) (fun H5 e s5 => ?_)
  · have e := B.mp e
    rw [if_pos e] at q1
    have em : smc ∈ ws := by
      cases hf : ws.filter fun x => decide (x = smc) with
      | nil => have := e.2; rw [hf] at this; cases this
      | cons x r =>
        have hx : x ∈ ws.filter fun x => decide (x = smc) := by rw [hf]; exact List.mem_cons_self ..
        obtain ⟨h1, h2⟩ := List.mem_filter.mp hx
        rw [← of_decide_eq_true h2]
        exact h1
    have hl5 := s5 _ _ hl1
    have hi : ws.idxOf smc < ws.length := List.idxOf_lt_length_of_mem em
    have get : ∀ m : Nat, (ws.map V.str)[m]? = (ws[m]?).map V.str := fun m => List.getElem?_map
    refine seq_asg ?_
    obtain ⟨i, ei⟩ : ∃ i, i = ws.idxOf smc := ⟨_, rfl⟩
    rw [← ei] at q1
    refine ⟨_, rfl, .inl ⟨rfl, _, SqL.mk hl5⟩, l1, _, .str smc, i, .str smc, rfl, rfl, SqL.mk hl5, rfl, ?_, ?_, (by show decide (smc = smc) = true; simp), fun m z hm hz => ?_, ?_⟩
    · rw [List.all_map]; exact List.all_eq_true.mpr fun _ _ => rfl
    · rw [get, List.getElem?_eq_getElem (by rw [ei]; exact hi)]
      subst ei
      rw [List.getElem_idxOf]
      rfl
    · rw [get] at hz
      cases e1 : ws[m]? with
      | none => rw [e1] at hz; cases hz
      | some t =>
        rw [e1] at hz
        cases hz
        show decide (t = smc) = false
        refine decide_eq_false fun c => ?_
        rw [c] at e1
        obtain ⟨hm1, e2⟩ := List.getElem?_eq_some_iff.mp e1
        have : ws.idxOf smc ≤ m := by
          rw [← e2]
          exact idx_le hm1
        omega
    have tkA : AscW (ws.take i) := fun p hp => haw p (List.mem_of_mem_take hp)
    have drA : AscW (ws.drop (i + 1)) := fun p hp => haw p (List.mem_of_mem_drop hp)
    dsimp only [gName]
    refine ⟨_, rfl, _, rfl, (i : Int), rfl, l1, _, rfl, SqL.mk hl5, fun p1 np1 => ?_⟩
    rw [cutV_take, ← List.map_take]
    have s6 : Same H5 (upd H5 p1 (.lst ((ws.take i).map V.str))) := Same.new np1
    refine ⟨p1, ws.take i, rfl, upd_same, tkA, by rw [List.length_take]; omega, fun p hp => hwl p (List.mem_of_mem_take hp), fun t1 v1 H6 s7 h1 d1 => ?_⟩
    have hl6 := (s6.trans s7) _ _ hl5
    refine ⟨t1, _, rfl, h1, rfl, _, _, rfl, _, _, rfl, rfl, ?_⟩
    refine ⟨_, rfl, _, rfl, _, _, rfl, rfl, ((i + 1 : Nat) : Int), rfl, l1, _, rfl, SqL.mk hl6, fun p2 np2 => ?_⟩
    rw [cutV_drop, ← List.map_drop]
    have s8 : Same H6 (upd H6 p2 (.lst ((ws.drop (i + 1)).map V.str))) := Same.new np2
    refine ⟨p2, ws.drop (i + 1), rfl, upd_same, drA, by rw [List.length_drop]; omega, fun p hp => hwl p (List.mem_of_mem_drop hp), fun t2 v2 H7 s9 h2 d2 => ?_⟩
    refine ⟨t2, _, rfl, h2, rfl, _, _, rfl, _, _, rfl, rfl, ?_⟩
    have s59 := (s6.trans s7).trans (s8.trans s9)
    have q2 := fun v H' s' => q1 v H' ((s5.trans s59).trans s')
    cases e1 : pairsD (ws.take i) with
    | none =>
      rw [e1] at q2
      refine ⟨_, rfl, _, rfl, ?_⟩
      exact q2 _ _ (Same.refl _) .non
    | some a =>
      refine ⟨_, rfl, _, rfl, if_of (fun _ => ?_) (fun z => by cases z)⟩
      cases e2 : pairsD (ws.drop (i + 1)) with
      | none =>
        rw [e1, e2] at q2
        refine ⟨_, rfl, _, rfl, ?_⟩
        exact q2 _ _ (Same.refl _) .non
      | some b =>
        rw [e1, e2] at q2
        refine ⟨_, rfl, _, rfl, if_of (fun _ => ?_) (fun z => by cases z)⟩
        refine ⟨_, rfl, _, rfl, (by show 3 ≤ sizeLine; decide), fun t nt => ?_⟩
        have s10 : Same H7 (upd H7 t (.tup [.str (PySem.Str.ofString "begin"), v1, v2])) := Same.new nt
        exact q2 _ _ s10 (.tup (SqT.mk upd_same) (.cons (.str _) (.cons (dp_same ((s8.trans s9).trans s10) _ _ (d1 a e1)) (.cons (dp_same s10 _ _ (d2 b e2)) .nil))))
  · rw [if_neg (nb_of B e)] at q1
    exact q1 _ _ s5 .non
end
end K80

set_option Elab.async false
set_option linter.all false
set_option maxRecDepth 100000
set_option maxHeartbeats 4000000
namespace K80
open PySem PySem.Spec PyProof.Rows L2 Pg
section
variable {P : Program} {w : World} {K : PySem.W.Frag} {mg : Str → Option Value} {base : Heap} {f : Addr} {fd : FuncData} {rsa : Addr}
abbrev s_ltx : Stmt := top 20
abbrev N_ltx : List Str := ["state", "menu", "k"]
abbrev P_ltx : List Str := ["state"]
theorem sc_ltx : FnScope N_ltx P_ltx (defScope s_ltx) := ⟨rfl, rfl, rfl, by decide +kernel, rfl, by decide +kernel, by decide +kernel⟩

theorem ok_ltx (F : FnP K "_law_text" s_ltx f fd) (hm : mg "_law_text" = some (.ref f)) (Z : Zs mg) (c_next : Cal P w K mg base 1 "_law_next" spNext []) : Cal P w K mg base 2 "_law_text" spLtx [] := by
  refine mk_cal F hm sc_ltx (fun _ _ _ _ _ _ us hl => match us, hl with | [_], _ => rfl) (fun vs H Q E h => ?_) (fun cdv A outer s H vs Q E hr h => ?_)
  · obtain ⟨a, n, m, rfl, _⟩ := h
    rfl
  obtain ⟨a, n, m, rfl, st, hm8, q⟩ := h
  refine ⟨_, (pss_cons (ps_set (i := 1) sc_ltx.nd rfl (by first | exact Or.inl rfl | exact Or.inr rfl) (pe_lst (pa_cons pe_str (pa_cons pe_str (pa_cons pe_str (pa_cons pe_str (pa_cons pe_str (pa_cons pe_str (pa_cons pe_str (pa_cons pe_str (pa_cons pe_str (pa_cons pe_str (pa_cons pe_str pa_nil)))))))))))))
      (pss_one (ps_ret (pe_bm PySem.F.plainAttrs_str PySem.F.slot_str_join PySem.F.type_str_join mt_join pe_str (pa_cons (pe_lc (own := [("k", 2)]) (g := (gName 2)) (tt := tYes) (te := (tOp (rIxL K) (tVar 1) (tCall spNext [] C8.E0 (tCons (tVar 0) (tCons (tCB (fun xs H Q => ∃ (p : Addr) (ys : List V), xs = [.ref p] ∧ (SqL K H p ys ∨ SqT K H p ys) ∧ Q (.int (ys.length : Nat)) H) (tCons (tVar 1) tNil)) tNil))))) rfl sc_ltx.nd (pi_range1 (by rfl) Z.range (pa_cons (C8.pe_c c_next hr (by first | decide | omega) rfl (pa_cons (pv 0) (pa_cons pe_int pa_nil))) pa_nil)) (blkOk_by (N := N_ltx) (sc := defScope s_ltx) (by decide +kernel)) (fun _ _ _ _ _ => by exact (pg_name (i := 2) sc_ltx.nd rfl (Or.inl rfl))) (fun _ _ _ _ _ => by exact pts_nil) (fun _ _ _ _ _ => by exact (pe_ix ix_list (pv 1) (C8.pe_c c_next hr (by first | decide | omega) rfl (pa_cons (pv 0) (pa_cons (pe_callB call_len_seq (by rfl) Z.len (by decide +kernel) (pa_cons (pv 1) pa_nil)) pa_nil))) (fun _ _ => rfl)))) pa_nil))))), ?_⟩
  dsimp only [gName]
  refine seq_asg ?_
  refine ⟨(by show 11 ≤ sizeLine; decide), fun l nl => ?_⟩
  have hl : (upd H l (.lst (tmenu.map V.str))) l = some (.lst (tmenu.map V.str)) := upd_same
  have nla := (st.ne nl).1
  have s1 : StA (upd H l (.lst (tmenu.map V.str))) a n m := st.new nl
  have f1 : Pg.Fr a H (upd H l (.lst (tmenu.map V.str))) := Fr.new nl
  show tRet _ _ _ (upd H l (.lst (tmenu.map V.str)))
  generalize upd H l (.lst (tmenu.map V.str)) = H1 at hl s1 f1 ⊢
  refine ⟨rfl, ?_⟩
  refine rd_preR (K := K) ⟨_, rfl, a, n, 4, _, rfl, by decide, s1, by omega, fun r1 H2 r10 r11 f2 s2 => ⟨r1, rfl, by omega, by omega, ?_⟩⟩
  have hl2 := f2 _ _ nla hl
  refine rd_rngS (K := K) (lo := 0) (n := r1.toNat) (a := a) (nn := n) (c := 1) (fun _ _ v => ∃ x ∈ tmenu, v = V.str x) (fun H H' i v tk h => h) s2 (fun R h => h) (by omega) (by intro _; rfl) (fun i5 H' hi5 f' st' Q' q' => ?_) (fun D H9 vw nD f9 st9 hD hvw hall => ?_)
  · have hl3 := f' _ _ nla hl2
    refine ⟨_, rfl, _, rfl, _, rfl, l, _, rfl, .inl (SqL.mk hl3), a, n, 11, _, rfl, by decide, st', by omega, fun k3 H3' k30 k31 f3' st3' => ?_⟩
    obtain ⟨j3, rfl⟩ := Int.eq_ofNat_of_zero_le k30
    have hj3 : j3 < tmenu.length := by show j3 < 11; omega
    exact ⟨l, _, (j3 : Int), .str tmenu[j3], rfl, rfl, SqL.mk (f3' _ _ nla hl3), by rw [Pg.atI_get, List.getElem?_map, List.getElem?_eq_getElem hj3]; rfl, q' _ _ f3' (st3'.mono (by omega)) ⟨_, List.getElem_mem hj3, rfl⟩⟩
  obtain ⟨W, ew, hW⟩ := txts_of (le := tmenu) fun v hv => by obtain ⟨k, hk, e⟩ := List.getElem_of_mem hv; exact hall k v (by rw [List.getElem?_eq_getElem hk, e])
  subst ew
  have hwl : W.length ≤ 3 := by rw [List.length_map] at hvw; omega
  have h20 : ∀ p ∈ W, p.length ≤ 20 := fun p hp => (tmenu_ok p (hW p hp)).2
  have e1 := sum_lens80 h20
  have e2 := jn_len h20
  have e3 : sp1.length = 1 := by decide +kernel
  refine ⟨sp1, D, W, rfl, rfl, .inl (SqL.mk hD), ?_, ?_⟩
  · have : (W.map (·.length)).sum ≤ 60 := by omega
    rw [e3]
    omega
  · exact q (jn W) H9 (jn_asc fun p hp => (tmenu_ok p (hW p hp)).1) (by omega) (f1.trans (f2.trans f9)) (st9.mono (by omega))
end
end K80

set_option Elab.async false
set_option linter.all false
set_option maxRecDepth 100000
set_option maxHeartbeats 4000000
namespace K80
open PySem PySem.Spec PyProof.Rows L2 Pg
section
variable {P : Program} {w : World} {K : PySem.W.Frag} {mg : Str → Option Value} {base : Heap} {f : Addr} {fd : FuncData} {rsa : Addr}
abbrev s_lnm : Stmt := top 19
abbrev N_lnm : List Str := ["state"]
abbrev P_lnm : List Str := ["state"]
theorem sc_lnm : FnScope N_lnm P_lnm (defScope s_lnm) := ⟨rfl, rfl, rfl, by decide +kernel, rfl, by decide +kernel, by decide +kernel⟩

theorem ok_lnm (F : FnP K "_law_number" s_lnm f fd) (hm : mg "_law_number" = some (.ref f)) (Z : Zs mg) (c_next : Cal P w K mg base 1 "_law_next" spNext []) : Cal P w K mg base 2 "_law_number" spNmb [] := by
  refine mk_cal F hm sc_lnm (fun _ _ _ _ _ _ us hl => match us, hl with | [_], _ => rfl) (fun vs H Q E h => ?_) (fun cdv A outer s H vs Q E hr h => ?_)
  · obtain ⟨a, n, m, rfl, _⟩ := h
    rfl
  obtain ⟨a, n, m, rfl, st, hm8, q⟩ := h
  refine ⟨_, (pss_one (ps_ret (pe_callTy call_str_int (by rfl) Z.str (by decide +kernel) (pa_cons (pe_ix ix_list (pe_lst (pa_cons (C8.pe_c c_next hr (by first | decide | omega) rfl (pa_cons (pv 0) (pa_cons pe_int pa_nil))) (pa_cons (pe_op op_mul (C8.pe_c c_next hr (by first | decide | omega) rfl (pa_cons (pv 0) (pa_cons pe_int pa_nil))) pe_int) (pa_cons pe_int (pa_cons pe_int pa_nil))))) (C8.pe_c c_next hr (by first | decide | omega) rfl (pa_cons (pv 0) (pa_cons pe_int pa_nil))) (fun _ _ => rfl)) pa_nil)))), ?_⟩
  refine ⟨_, rfl, a, n, 9, _, rfl, by decide, st, by omega, fun r1 H1 r10 r11 f1 s1 => ⟨_, rfl, a, n, 1009, _, rfl, by decide, s1, by omega, fun r2 H2 r20 r21 f2 s2 => ?_⟩⟩
  refine ⟨_, _, rfl, rfl, .inr ⟨by decide, by decide⟩, (by show 4 ≤ sizeLine; decide), fun l nl => ⟨_, rfl, a, n, 4, _, rfl, by decide, s2.new nl, by omega, fun r3 H3 r30 r31 f3 s3 => ?_⟩⟩
  obtain ⟨k, hat, hk⟩ : ∃ k : Nat, atI [V.int r1, V.int (r2 * 9900), V.int 0, V.int 9999999] r3 = some (.int (k : Nat)) ∧ k < 10000000 := by
    rcases (by omega : r3 = 0 ∨ r3 = 1 ∨ r3 = 2 ∨ r3 = 3) with rfl | rfl | rfl | rfl
    · exact ⟨r1.toNat, by rw [Int.toNat_of_nonneg r10]; rfl, by omega⟩
    · exact ⟨(r2 * 9900).toNat, by rw [Int.toNat_of_nonneg (by omega)]; rfl, by omega⟩
    · exact ⟨0, rfl, by decide⟩
    · exact ⟨9999999, rfl, by decide⟩
  refine ⟨l, _, _, .int (k : Nat), rfl, rfl, SqL.mk (f3 _ _ (s2.ne nl).1 upd_same), hat, (k : Nat), rfl, ?_, ?_⟩
  · have : (10000000 : Nat) < 2 ^ 24 := by decide
    by_cases e : k = 0
    · subst e; decide
    · exact Nat.lt_of_lt_of_le ((Nat.log2_lt (by simpa using e)).mpr (show ((k : Nat) : Int).natAbs < 2 ^ 24 by rw [Int.natAbs_natCast]; omega)) (by decide)
  · exact q k H3 hk (f1.trans (f2.trans ((Fr.new nl).trans f3))) (s3.mono (by omega))
end
end K80

set_option Elab.async false
set_option linter.all false
set_option maxRecDepth 100000
set_option maxHeartbeats 4000000
namespace Pg
open PySem PySem.Spec PyProof.Rows L2
/-! ### good lines -/
theorem lt_low {x : Str} (h : ltB x = true) : cs x ≠ [] ∧ ∀ c ∈ cs x, 97 ≤ c ∧ c ≤ 122 := by
  unfold ltB at h
  rw [Bool.and_eq_true] at h
  refine ⟨fun z => ?_, fun c hc => ?_⟩
  · rw [z] at h
    exact absurd h.1 (by decide)
  · have := List.all_eq_true.mp h.2 c hc
    unfold lowC at this
    rw [Bool.and_eq_true, decide_eq_true_iff, decide_eq_true_iff] at this
    exact this
theorem lt_of {x : Str} (h1 : cs x ≠ []) (h : ∀ c ∈ cs x, 97 ≤ c ∧ c ≤ 122) : ltB x = true := by
  unfold ltB
  rw [decide_eq_false h1, Bool.not_false, Bool.true_and]
  refine List.all_eq_true.mpr fun c hc => ?_
  unfold lowC
  rw [decide_eq_true (h c hc).1, decide_eq_true (h c hc).2]
  rfl
theorem lt_asc {x : Str} (h : ltB x = true) : NoSp x ∧ Asc x :=
  ⟨fun z => by have := (lt_low h).2 32 z; omega, fun c hc => by have := (lt_low h).2 c hc; omega⟩
theorem wd_lt {w : Str} (h : Wd 0 w) : ltB w = true ∧ w.length ≤ 8 := by
  refine ⟨?_, h.len⟩
  rcases h with ⟨h1, h2, h3⟩ | ⟨_, h⟩
  · exact lt_of (fun z => by rw [z] at h1; exact absurd h1 (by decide)) fun c hc => by
      have := h3 c hc
      omega
  · exact lt_of (by rw [h]; simp) fun c hc => by
      rw [h] at hc
      simp at hc
      omega
theorem nm_len {k : Nat} (h : k < 10000000) : (nmS k).length ≤ 7 := by
  have := nm_nb h
  unfold nbB at this
  rw [Bool.and_eq_true, Bool.and_eq_true, Bool.and_eq_true, decide_eq_true_iff, decide_eq_true_iff] at this
  rw [cs_len]
  exact this.1.1.2
theorem asc_inv : ∀ {W : List Str}, Asc (jn W) → ∀ p ∈ W, Asc p
  | [], _, p, h => absurd h List.not_mem_nil
  | w :: ws, ha, p, h => by
    by_cases e : ws = []
    · subst e
      rw [jn_one] at ha
      rw [List.mem_singleton.mp h]
      exact ha
    · rw [jn_cons e] at ha
      rcases List.mem_cons.mp h with z | z
      · rw [z]
        exact fun c hc => ha c (by rw [cs_app, cs_app]; exact List.mem_append_left _ (List.mem_append_left _ hc))
      · exact asc_inv (fun c hc => ha c (by rw [cs_app, cs_app]; exact List.mem_append_right _ hc)) p z
theorem jn_many : ∀ W : List Str, W.length ≤ (jn W).length + 1
  | [] => Nat.zero_le _
  | w :: ws => by
    by_cases e : ws = []
    · subst e
      simp
    · have ih := jn_many ws
      rw [jn_cons e, cs_len, cs_app, cs_app, List.length_append, List.length_append, List.length_cons]
      rw [cs_len] at ih
      have e1 : (cs sp1).length = 1 := by rw [show cs sp1 = [32] from tl_sp1]; rfl
      omega
structure GdL (wd : Str) (ws : List Str) : Prop where
  asc : AscW (wd :: ws)
  len : (jn (wd :: ws)).length ≤ 154
  many : ws.length ≤ 200
  cmd : cmdD wd ws ≠ .none
theorem gd_mk {wd : Str} {ws : List Str} (h1 : ∀ p ∈ wd :: ws, NoSp p ∧ Asc p ∧ p.length ≤ 10) (h2 : ws.length ≤ 13) (h : cmdD wd ws ≠ .none) : GdL wd ws := by
  refine ⟨fun p hp => ⟨(h1 p hp).1, (h1 p hp).2.1⟩, ?_, by omega, h⟩
  have := jn_len (n := 10) (W := wd :: ws) fun p hp => (h1 p hp).2.2
  rw [List.length_cons] at this
  have : (ws.length + 1) * (10 + 1) ≤ 14 * 11 := Nat.mul_le_mul_right _ (by omega)
  omega
def spLgd : Sp := fun vs H Q _ => ∃ (a n : Addr) (m : Int), vs = [.ref a] ∧ StA H a n m ∧ m < 700000 ∧ ∀ (wd : Str) (ws : List Str) H', GdL wd ws → Fr a H H' → StA H' a n (m + 200) → Q (.str (jn (wd :: ws))) H'
theorem cm_txt {w : Str} {ws : List Str} (h : w ∈ wtxt) (e : ws ≠ []) : cmdD w ws ≠ .none := by
  unfold cmdD
  rw [if_neg (fun z => e z.2), if_pos h, if_neg e]
  exact fun z => by cases z
theorem cm_place {m : Str} {ws : List Str} (h : ltB m = true) (e : ws ≠ []) : cmdD "place" (m :: ws) ≠ .none := by
  unfold cmdD
  rw [if_neg (fun z => by cases z.2), if_neg (by decide +kernel), if_pos rfl]
  cases ws with
  | nil => exact absurd rfl e
  | cons t ts =>
    show (if ltB m then _ else _) ≠ _
    rw [if_pos h]
    exact fun z => by cases z
theorem cm_one : ∀ w ∈ ([("undo" : Str), "rows", "reader", "win"] : List Str), cmdD w [] ≠ .none := fun w h => by
  rcases List.mem_cons.mp h with rfl | h
  · rw [← due_eq]; unfold dueD; rw [if_neg (by decide +kernel), if_neg (by decide +kernel), if_neg (by decide +kernel), if_pos (by decide +kernel)]; exact fun z => by cases z
  rcases List.mem_cons.mp h with rfl | h
  · rw [← due_eq]; unfold dueD; rw [if_neg (by decide +kernel), if_neg (by decide +kernel), if_neg (by decide +kernel), if_pos (by decide +kernel)]; exact fun z => by cases z
  rcases List.mem_cons.mp h with rfl | h
  · rw [← due_eq]; unfold dueD; rw [if_neg (by decide +kernel), if_neg (by decide +kernel), if_neg (by decide +kernel), if_neg (by decide +kernel), if_neg (by decide +kernel), if_pos (by decide +kernel)]; exact fun z => by cases z
  rcases List.mem_cons.mp h with rfl | h
  · rw [← due_eq]; unfold dueD; rw [if_neg (by decide +kernel), if_neg (by decide +kernel), if_neg (by decide +kernel), if_neg (by decide +kernel), if_neg (by decide +kernel), if_pos (by decide +kernel)]; exact fun z => by cases z
  · cases h
theorem cm_num {w x : Str} (h : w ∈ nmw) (e : nbB x = true) : cmdD w [x] ≠ .none := by
  obtain ⟨_, n1, n2, n3, n4, n5, n6⟩ := ls1 w h
  rw [← due_eq]
  unfold dueD
  rw [if_neg (fun z => n5 z.1), if_neg (fun z => n1 z.1), if_neg (fun z => n2 z.1), if_neg (fun z => n6 z.1), if_pos ⟨h, rfl, e⟩]
  exact fun z => by cases z
theorem cm_wrd {w : Str} {ws : List Str} (h : w ∈ wwrd) (e : ws.all ltB = true) : cmdD w ws ≠ .none := by
  obtain ⟨n1, n2, n3, n4, n5, _⟩ := lsw w h
  rw [← due_eq]
  unfold dueD
  rw [if_neg (fun z => n1 z.1), if_neg (fun z => n2 z.1), if_neg (fun z => n3 z.1), if_neg (fun z => n4 z.1), if_neg (fun z => n5 z.1), if_pos ⟨h, e⟩]
  exact fun z => by cases z
theorem cm_cnt {x y : Str} (h : ltB x = true) (h2 : nbB y = true) : cmdD "count" [x, y] ≠ .none := by
  rw [← due_eq]
  unfold dueD
  rw [if_neg (fun z => by cases z.2), if_neg (fun z => absurd z.1 (by decide +kernel)), if_neg (fun z => absurd z.1 (by decide +kernel)), if_neg (fun z => absurd z.1 (by decide +kernel)), if_neg (fun z => absurd z.1 (by decide +kernel)), if_neg (fun z => absurd z.1 (by decide +kernel)), if_pos ⟨rfl, rfl, h, h2⟩]
  exact fun z => by cases z
theorem cm_tree {x y u : Str} (h : ltB x = true) (h2 : nbB y = true) (h3 : nbB u = true) : cmdD "tree" [x, y, u] ≠ .none := by
  rw [← due_eq]
  unfold dueD
  rw [if_neg (fun z => by cases z.2), if_neg (fun z => absurd z.1 (by decide +kernel)), if_neg (fun z => absurd z.1 (by decide +kernel)), if_neg (fun z => absurd z.1 (by decide +kernel)), if_neg (fun z => absurd z.1 (by decide +kernel)), if_neg (fun z => absurd z.1 (by decide +kernel)), if_neg (fun z => absurd z.1 (by decide +kernel)), if_pos ⟨rfl, rfl, h, h2, h3⟩]
  exact fun z => by cases z
theorem cm_beg {A B : List Str} {a b : List PyData} (h1 : pairsD A = some a) (h2 : pairsD B = some b) : cmdD "begin" (A ++ smc :: B) ≠ .none := by
  have nA : smc ∉ A := fun z => by rw [pairs_smc z] at h1; cases h1
  have ei : (A ++ smc :: B).idxOf smc = A.length := by
    rw [List.idxOf_append, if_neg nA, List.idxOf_cons_self]
    omega
  unfold cmdD
  rw [if_neg (fun z => absurd z.1 (by decide +kernel)), if_neg (by decide +kernel), if_neg (by decide +kernel), if_pos rfl]
  unfold begD
  rw [if_pos (List.mem_append_right _ (List.mem_cons_self ..)), ei, List.take_left, show (A ++ smc :: B).drop (A.length + 1) = B by rw [← List.drop_drop, List.drop_left]; rfl, h1, h2]
  exact fun z => by cases z
theorem pairs_snoc : ∀ {A : List Str} {a : List PyData} {x y : Str}, pairsD A = some a → ltB x = true → nbB y = true → ∃ a', pairsD (A ++ [x, y]) = some a'
  | [], _, x, y, _, h1, h2 => by
    have : pairsD [x, y] = some [.tuple [.str x, .int (valN y)]] := by
      unfold pairsD
      rw [if_pos (by rw [h1, h2]; rfl)]
      rfl
    exact ⟨_, this⟩
  | [_], _, _, _, h, _, _ => by cases h
  | u :: v :: r, a, x, y, h, h1, h2 => by
    unfold pairsD at h
    by_cases e : (ltB u && nbB v) = true
    · rw [if_pos e] at h
      cases hr : pairsD r with
      | none => rw [hr] at h; cases h
      | some p =>
        obtain ⟨a', ih⟩ := pairs_snoc hr h1 h2
        have : pairsD (u :: v :: (r ++ [x, y])) = some (.tuple [.str u, .int (valN v)] :: a') := by
          unfold pairsD
          rw [if_pos e, ih]
          rfl
        exact ⟨_, this⟩
    · rw [if_neg e] at h
      cases h
end Pg
namespace Pg
open PySem PySem.Spec PyProof.Rows L2
theorem pick_str {K : PySem.W.Frag} {σ : L2.St} {H : Hp} {Q : VK} {i : Nat} {a n : Addr} {m many : Int} (xs : List Str) (hi : σ[i]? = some (some (.ref a))) (hl : 1 ≤ xs.length ∧ xs.length ≤ sizeLine) (hy : many = ((xs.length : Nat) : Int)) (st : StA H a n m) (hm : m < 900000)
    (h : ∀ x ∈ xs, ∀ H', Fr a H H' → StA H' a n (m + 1) → Q (.str x) H') : tOp (rIxL K) (tLst (taS xs)) (tCall spNext [] C8.E0 (tCons (tVar i) (tCons (tC (.int many)) tNil))) σ H Q := by
  refine op_of ?_
  refine taS_ok xs _ _ _ ⟨by rw [List.length_map]; exact hl.2, fun l nl => ?_⟩
  refine ⟨_, hi, a, n, many, m, rfl, by omega, st.new nl, by omega, fun r H1 r0 r1 f1 s1 => ?_⟩
  obtain ⟨k, rfl⟩ := Int.eq_ofNat_of_zero_le r0
  have hk : k < xs.length := by omega
  exact ⟨l, _, (k : Int), .str xs[k], rfl, rfl, SqL.mk (f1 _ _ (st.ne nl).1 upd_same), by rw [Pg.atI_get, List.getElem?_map, List.getElem?_eq_getElem hk]; rfl, h _ (List.getElem_mem hk) H1 ((Fr.new nl).trans f1) s1⟩
theorem app_z {w x : Str} (h : ltB w = true) (hl : w.length ≤ 8) (hx : x ∈ ([PySem.Str.ofString "", PySem.Str.ofString "z"] : List Str)) : ltB (w ++ x) = true ∧ (w ++ x).length ≤ 9 := by
  have h1 := lt_low h
  rw [cs_len] at hl
  rcases List.mem_cons.mp hx with rfl | hx
  · refine ⟨lt_of (fun z => h1.1 ?_) fun c hc => h1.2 c ?_, ?_⟩
    · rw [cs_app, cs_e, List.append_nil] at z; exact z
    · rw [cs_app, cs_e, List.append_nil] at hc; exact hc
    · rw [cs_len, cs_app, cs_e, List.append_nil]; omega
  · have hx := List.mem_singleton.mp hx
    subst hx
    have ez : cs (PySem.Str.ofString "z") = [122] := by decide +kernel
    refine ⟨lt_of (fun z => h1.1 ?_) fun c hc => ?_, ?_⟩
    · rw [cs_app, ez] at z
      exact (List.append_eq_nil_iff.mp z).1
    · rw [cs_app, ez] at hc
      rcases List.mem_append.mp hc with y | y
      · exact h1.2 c y
      · have := List.mem_singleton.mp y; omega
    · rw [cs_len, cs_app, ez, List.length_append]; exact Nat.add_le_add_right hl 1
/-- a word of a line: without spaces, ASCII, short -/
def Ok20 (x : Str) : Prop := NoSp x ∧ Asc x ∧ x.length ≤ 10
theorem ok_lt {x : Str} (h : ltB x = true) (hl : x.length ≤ 10) : Ok20 x := ⟨(lt_asc h).1, (lt_asc h).2, hl⟩
theorem ok_nm {k : Nat} (h : k < 10000000) : Ok20 (nmS k) := ⟨nm_nosp k, nm_asc k, by have := nm_len h; omega⟩
theorem ok_txt : ∀ x ∈ wtxt, Ok20 x := by unfold wtxt Ok20 NoSp Asc; decide +kernel
theorem ok_one : ∀ x ∈ ([("undo" : Str), "rows", "reader", "win"] : List Str), Ok20 x := by unfold Ok20 NoSp Asc; decide +kernel
theorem ok_nmw : ∀ x ∈ nmw, Ok20 x := by unfold nmw Ok20 NoSp Asc; decide +kernel
theorem ok_wrd : ∀ x ∈ wwrd, Ok20 x := by unfold wwrd Ok20 NoSp Asc; decide +kernel
theorem ok_lit : Ok20 "count" ∧ Ok20 "tree" ∧ Ok20 "place" ∧ Ok20 "begin" ∧ Ok20 smc := by unfold Ok20 NoSp Asc smc; decide +kernel
theorem gd_of {wd : Str} {ws : List Str} (h0 : Ok20 wd) (h1 : ∀ p ∈ ws, Ok20 p) (h2 : ws.length ≤ 13) (h : cmdD wd ws ≠ .none) : GdL wd ws :=
  gd_mk (fun p hp => (List.mem_cons.mp hp).elim (fun z => z ▸ h0) (h1 p)) h2 h
/-- words ahead of any text -/
theorem gd_txt {wd t : Str} (h0 : Ok20 wd) (ht : Asc t) (hl : t.length ≤ 100) : ∃ W : List Str, W ≠ [] ∧ wd ++ sp1 ++ t = jn (wd :: W) ∧ AscW W ∧ (jn W).length ≤ 100 ∧ W.length ≤ 101 := by
  obtain ⟨W, hne, hns, hj⟩ := line_words t
  have := jn_many W
  refine ⟨W, hne, ?_, fun p hp => ⟨hns p hp, asc_inv (by rw [hj]; exact ht) p hp⟩, by rw [hj]; exact hl, by rw [hj] at this; omega⟩
  rw [jn_cons hne, hj]
theorem jn2 (w x : Str) : w ++ sp1 ++ x = jn [w, x] := by rw [jn_cons (List.cons_ne_nil _ _), jn_one]
theorem jlen {w : Str} {ws : List Str} (h : ws ≠ []) : (jn (w :: ws)).length = w.length + 1 + (jn ws).length := by
  rw [jn_cons h, cs_len, cs_app, cs_app, List.length_append, List.length_append, cs_len, cs_len]
  have e1 : (cs sp1).length = 1 := by rw [show cs sp1 = [32] from tl_sp1]; rfl
  omega
theorem sum20 {W : List Str} (h : ∀ p ∈ W, p.length ≤ 10) (hl : W.length ≤ 100) : (W.map (·.length)).sum + W.length * (PySem.Str.ofString " ").length ≤ 16777216 := by
  have := sum_lens80 h
  have e1 : (PySem.Str.ofString " ").length = 1 := by decide +kernel
  rw [e1]
  have : W.length * 10 ≤ 100 * 10 := Nat.mul_le_mul_right _ hl
  omega
theorem sz_add {x y : Str} (h : x.length + y.length ≤ 100000) : x.length + y.length ≤ sizeLine := Nat.le_of_lt (smallN h)
theorem len_app (x y : Str) : (x ++ y).length = x.length + y.length := by
  rw [cs_len, cs_app, List.length_append, cs_len, cs_len]
theorem sp_len : (PySem.Str.ofString " ").length = 1 := by decide +kernel
end Pg
namespace Pg
open PySem PySem.Spec PyProof.Rows L2
theorem place_jn {wo t : Str} (h0 : ltB wo = true) (hl : wo.length ≤ 10) (ht : Asc t) (hl2 : t.length ≤ 100) : ∃ ws : List Str, PySem.Str.ofString "place " ++ wo ++ PySem.Str.ofString " " ++ t = jn ("place" :: ws) ∧ GdL "place" ws := by
  have okw := ok_lt h0 hl
  obtain ⟨W, hne, hj, haW, hjl, hWl⟩ := gd_txt okw ht hl2
  refine ⟨wo :: W, ?_, ?_, ?_, by rw [List.length_cons]; omega, cm_place h0 hne⟩
  · rw [jn_cons (List.cons_ne_nil _ _), ← hj]
    have e : PySem.Str.ofString "place " = PySem.Str.ofString "place" ++ sp1 := by decide +kernel
    rw [e]
    refine cs_inj ?_
    simp only [cs_app, List.append_assoc]
    rfl
  · intro p hp
    rcases List.mem_cons.mp hp with rfl | hp
    · exact ⟨ok_lit.2.2.1.1, ok_lit.2.2.1.2.1⟩
    rcases List.mem_cons.mp hp with rfl | hp
    · exact ⟨okw.1, okw.2.1⟩
    · exact haW p hp
  · rw [jlen (List.cons_ne_nil _ _), jlen hne]
    have := ok_lit.2.2.1.2.2
    have := okw.2.2
    omega
end Pg

set_option Elab.async false
set_option linter.all false
set_option maxRecDepth 100000
set_option maxHeartbeats 4000000
namespace K80
open PySem PySem.Spec PyProof.Rows L2 Pg
section
variable {P : Program} {w : World} {K : PySem.W.Frag} {mg : Str → Option Value} {base : Heap} {f : Addr} {fd : FuncData}
abbrev s_lgd : Stmt := top 21
abbrev N_lgd : List Str := ["state", "way", "word", "parts", "k", "line"]
abbrev P_lgd : List Str := ["state"]
theorem sc_lgd : FnScope N_lgd P_lgd (defScope s_lgd) := ⟨rfl, rfl, rfl, by decide +kernel, rfl, by decide +kernel, by decide +kernel⟩

theorem ok_lgd (F : FnP K "_law_good" s_lgd f fd) (hm : mg "_law_good" = some (.ref f)) (Z : Zs mg) (c_next : Cal P w K mg base 1 "_law_next" spNext []) (c_word : Cal P w K mg base 2 "_law_word" (spWordW K) []) (c_lnm : Cal P w K mg base 2 "_law_number" spNmb []) (c_ltx : Cal P w K mg base 2 "_law_text" spLtx []) : Cal P w K mg base 3 "_law_good" spLgd [] := by
  refine mk_cal F hm sc_lgd (fun _ _ _ _ _ _ us hl => match us, hl with | [_], _ => rfl) (fun vs H Q E h => ?_) (fun cdv A outer s H vs Q E hr h => ?_)
  · obtain ⟨a, n, m, rfl, _⟩ := h
    rfl
  obtain ⟨a, n, m, rfl, st, hm8, q⟩ := h
  refine ⟨_, (pss_cons (ps_set (i := 1) sc_lgd.nd rfl (by first | exact Or.inl rfl | exact Or.inr rfl) (C8.pe_c c_next hr (by first | decide | omega) rfl (pa_cons (pv 0) (pa_cons pe_int pa_nil))))
      (pss_cons (ps_set (i := 2) sc_lgd.nd rfl (by first | exact Or.inl rfl | exact Or.inr rfl) (pe_op op_add_str (C8.pe_c c_word hr (by first | decide | omega) rfl (pa_cons (pv 0) (pa_cons (pe_lst pa_nil) pa_nil))) (pe_ix ix_list (pe_lst (pa_cons pe_str (pa_cons pe_str pa_nil))) (C8.pe_c c_next hr (by first | decide | omega) rfl (pa_cons (pv 0) (pa_cons pe_int pa_nil))) (fun _ _ => rfl))))
      (pss_cons (ps_if (pt_cmpR op_eq (pv 1) pe_int (nomark _)) (pss_one (ps_ret (pe_op op_add_str (pe_op op_add_str (pe_ix ix_list (pe_lst (pa_cons pe_str (pa_cons pe_str (pa_cons pe_str (pa_cons pe_str (pa_cons pe_str (pa_cons pe_str pa_nil))))))) (C8.pe_c c_next hr (by first | decide | omega) rfl (pa_cons (pv 0) (pa_cons pe_int pa_nil))) (fun _ _ => rfl)) pe_str) (C8.pe_c c_ltx hr (by first | decide | omega) rfl (pa_cons (pv 0) pa_nil))))) pss_nil)
      (pss_cons (ps_if (pt_cmpR op_eq (pv 1) pe_int (nomark _)) (pss_one (ps_ret (pe_ix ix_list (pe_lst (pa_cons pe_str (pa_cons pe_str (pa_cons pe_str (pa_cons pe_str pa_nil))))) (C8.pe_c c_next hr (by first | decide | omega) rfl (pa_cons (pv 0) (pa_cons pe_int pa_nil))) (fun _ _ => rfl)))) pss_nil)
      (pss_cons (ps_if (pt_cmpR op_eq (pv 1) pe_int (nomark _)) (pss_one (ps_ret (pe_op op_add_str (pe_op op_add_str (pe_ix ix_list (pe_lst (pa_cons pe_str (pa_cons pe_str (pa_cons pe_str (pa_cons pe_str pa_nil))))) (C8.pe_c c_next hr (by first | decide | omega) rfl (pa_cons (pv 0) (pa_cons pe_int pa_nil))) (fun _ _ => rfl)) pe_str) (C8.pe_c c_lnm hr (by first | decide | omega) rfl (pa_cons (pv 0) pa_nil))))) pss_nil)
      (pss_cons (ps_if (pt_cmpR op_eq (pv 1) pe_int (nomark _)) (pss_one (ps_ret (pe_bm PySem.F.plainAttrs_str PySem.F.slot_str_join PySem.F.type_str_join mt_join pe_str (pa_cons (pe_op op_cat (pe_lst (pa_cons (pe_ix ix_list (pe_lst (pa_cons pe_str (pa_cons pe_str pa_nil))) (C8.pe_c c_next hr (by first | decide | omega) rfl (pa_cons (pv 0) (pa_cons pe_int pa_nil))) (fun _ _ => rfl)) pa_nil)) (pe_op op_rep (pe_lst (pa_cons (pv 2) pa_nil)) (pe_op op_add pe_int (C8.pe_c c_next hr (by first | decide | omega) rfl (pa_cons (pv 0) (pa_cons pe_int pa_nil)))))) pa_nil)))) pss_nil)
      (pss_cons (ps_if (pt_cmpR op_eq (pv 1) pe_int (nomark _)) (pss_cons (ps_set (i := 5) sc_lgd.nd rfl (by first | exact Or.inl rfl | exact Or.inr rfl) (pe_ix ix_list (pe_lst (pa_cons (pe_lst (pa_cons pe_str (pa_cons (pv 2) (pa_cons (C8.pe_c c_lnm hr (by first | decide | omega) rfl (pa_cons (pv 0) pa_nil)) pa_nil)))) (pa_cons (pe_lst (pa_cons pe_str (pa_cons (pv 2) (pa_cons (C8.pe_c c_lnm hr (by first | decide | omega) rfl (pa_cons (pv 0) pa_nil)) (pa_cons (C8.pe_c c_lnm hr (by first | decide | omega) rfl (pa_cons (pv 0) pa_nil)) pa_nil))))) pa_nil))) (C8.pe_c c_next hr (by first | decide | omega) rfl (pa_cons (pv 0) (pa_cons pe_int pa_nil))) (fun _ _ => rfl)))
      (pss_one (ps_ret (pe_ix ix_list (pe_lst (pa_cons (pe_bm PySem.F.plainAttrs_str PySem.F.slot_str_join PySem.F.type_str_join mt_join pe_str (pa_cons (pv 5) pa_nil)) (pa_cons (pe_op op_add_str (pe_op op_add_str (pe_op op_add_str pe_str (pv 2)) pe_str) (C8.pe_c c_ltx hr (by first | decide | omega) rfl (pa_cons (pv 0) pa_nil))) pa_nil))) (C8.pe_c c_next hr (by first | decide | omega) rfl (pa_cons (pv 0) (pa_cons pe_int pa_nil))) (fun _ _ => rfl))))) pss_nil)
      (pss_cons (ps_set (i := 3) sc_lgd.nd rfl (by first | exact Or.inl rfl | exact Or.inr rfl) (pe_lst (pa_cons pe_str pa_nil)))
      (pss_cons (ps_for PassesOwn.never rfl (pi_range1 (by rfl) Z.range (pa_cons (C8.pe_c c_next hr (by first | decide | omega) rfl (pa_cons (pv 0) (pa_cons pe_int pa_nil))) pa_nil)) (pg_name (i := 4) sc_lgd.nd rfl (by first | exact Or.inl rfl | exact Or.inr rfl)) (pss_one (ps_set (i := 3) sc_lgd.nd rfl (by first | exact Or.inl rfl | exact Or.inr rfl) (pe_op op_cat (pv 3) (pe_lst (pa_cons (C8.pe_c c_word hr (by first | decide | omega) rfl (pa_cons (pv 0) (pa_cons (pe_lst pa_nil) pa_nil))) (pa_cons (C8.pe_c c_lnm hr (by first | decide | omega) rfl (pa_cons (pv 0) pa_nil)) pa_nil)))))))
      (pss_cons (ps_expr (pe_bm PySem.F.plainAttrs_list PySem.F.slot_list_append PySem.F.type_list_append mt_append (pv 3) (pa_cons pe_str pa_nil)))
      (pss_cons (ps_for PassesOwn.never rfl (pi_range1 (by rfl) Z.range (pa_cons (C8.pe_c c_next hr (by first | decide | omega) rfl (pa_cons (pv 0) (pa_cons pe_int pa_nil))) pa_nil)) (pg_name (i := 4) sc_lgd.nd rfl (by first | exact Or.inl rfl | exact Or.inr rfl)) (pss_one (ps_set (i := 3) sc_lgd.nd rfl (by first | exact Or.inl rfl | exact Or.inr rfl) (pe_op op_cat (pv 3) (pe_lst (pa_cons (C8.pe_c c_word hr (by first | decide | omega) rfl (pa_cons (pv 0) (pa_cons (pe_lst pa_nil) pa_nil))) (pa_cons (C8.pe_c c_lnm hr (by first | decide | omega) rfl (pa_cons (pv 0) pa_nil)) pa_nil)))))))
      (pss_one (ps_ret (pe_bm PySem.F.plainAttrs_str PySem.F.slot_str_join PySem.F.type_str_join mt_join pe_str (pa_cons (pv 3) pa_nil))))))))))))))), ?_⟩
  refine ⟨_, rfl, a, n, 6, m, rfl, by decide, st, by omega, fun way H1 w0 w6 f1 st1 => ?_⟩
  dsimp only [gName]
  refine seq_asg ?_
  refine op_of ?_
  refine ⟨_, rfl, (by show 0 ≤ sizeLine; decide), fun le nle => ?_⟩
  refine ⟨a, n, le, [], m + 1, rfl, st1.new nle, by omega, upd_same, (st1.ne nle).1, ⟨List.nodup_nil, fun t ht => by cases ht⟩, by decide, fun w0' H2 _ hw f2 st2 => ?_⟩
  obtain ⟨hw1, hw2⟩ := wd_lt hw
  refine pick_str (K := K) [Str.ofString "", Str.ofString "z"] rfl ⟨by decide, by decide⟩ rfl st2 (by omega) (fun x hx H3 f3 st3 => ?_)
  obtain ⟨lt1, lt2⟩ := app_z hw1 hw2 hx
  refine ⟨_, _, rfl, rfl, by rw [← len_app]; exact Nat.le_of_lt (smallN (by omega)), ?_⟩
  dsimp only [gName]
  have f13 : Pg.Fr a H H3 := f1.trans (((Fr.new nle).trans f2).trans f3)
  generalize w0' ++ x = wo at lt1 lt2 ⊢
  have okw : Ok20 wo := ok_lt lt1 (by omega)
  clear hw hw1 hw2 hx
  have st3 : StA H3 a n (m + 20) := st3.mono (by omega)
  -- a command that is handed a text
  refine ⟨_, rfl, rfl, _, rfl, ite2 (fun e => ?_) (fun e => ?_)⟩
  · dsimp only [tRet]
    refine op_of (op_of (pick_str (K := K) wtxt rfl ⟨by decide, by decide⟩ rfl st3 (by omega) fun x hx H4 f4 st4 => ?_))
    have ox := ok_txt x hx
    refine ⟨_, _, rfl, rfl, sz_add (by rw [sp_len]; have := ox.2.2; omega), ?_⟩
    refine ⟨_, rfl, a, n, _, rfl, st4, by omega, fun t H5 ta tl f5 st5 => ⟨_, _, rfl, rfl, sz_add (by rw [len_app, sp_len]; have := ox.2.2; omega), ?_⟩⟩
    obtain ⟨W, hne, hj, haW, hjl, hWl⟩ := gd_txt ox ta tl
    rw [show x ++ Str.ofString " " ++ t = jn (x :: W) from hj]
    refine q x W H5 ⟨fun p hp => (List.mem_cons.mp hp).elim (fun z => z ▸ ⟨ox.1, ox.2.1⟩) (haW p), ?_, by omega, cm_txt hx hne⟩ (f13.trans (f4.trans f5)) (st5.mono (by omega))
    rw [jlen hne]
    have := ox.2.2
    omega
  refine ⟨_, rfl, rfl, _, rfl, ite2 (fun e => ?_) (fun e => ?_)⟩
  · dsimp only [tRet]
    refine pick_str (K := K) [("undo" : Str), "rows", "reader", "win"] rfl ⟨by decide, by decide⟩ rfl st3 (by omega) fun x hx H4 f4 st4 => ?_
    rw [← jn_one x]
    exact q x [] H4 (gd_of (ok_one x hx) (fun p hp => by cases hp) (by decide) (cm_one x hx)) (f13.trans f4) (st4.mono (by omega))
  refine ⟨_, rfl, rfl, _, rfl, ite2 (fun e => ?_) (fun e => ?_)⟩
  · dsimp only [tRet]
    refine op_of (op_of (pick_str (K := K) nmw rfl ⟨by decide, by decide⟩ rfl st3 (by omega) fun x hx H4 f4 st4 => ?_))
    have ox := ok_nmw x hx
    refine ⟨_, _, rfl, rfl, sz_add (by rw [sp_len]; have := ox.2.2; omega), ?_⟩
    refine ⟨_, rfl, a, n, _, rfl, st4, by omega, fun k H5 hk f5 st5 => ⟨_, _, rfl, rfl, sz_add (by rw [len_app, sp_len]; have := ox.2.2; have := nm_len hk; omega), ?_⟩⟩
    rw [show x ++ Str.ofString " " ++ nmS k = jn [x, nmS k] from jn2 _ _]
    exact q x [nmS k] H5 (gd_of ox (fun p hp => by rw [List.mem_singleton.mp hp]; exact ok_nm hk) (by simp) (cm_num hx (nm_nb hk))) (f13.trans (f4.trans f5)) (st5.mono (by omega))
  refine ⟨_, rfl, rfl, _, rfl, ite2 (fun e => ?_) (fun e => ?_)⟩
  · dsimp only [tRet, tBM, tCons]
    refine ⟨rfl, op_of ?_⟩
    dsimp only [tLst, tCons]
    refine pick_str (K := K) wwrd rfl ⟨by decide, by decide⟩ rfl st3 (by omega) fun x hx H4 f4 st4 => ?_
    refine ⟨(by show 1 ≤ sizeLine; decide), fun l1 nl1 => ?_⟩
    refine op_of ?_
    refine ⟨_, rfl, (by show 1 ≤ sizeLine; decide), fun l2 nl2 => ?_⟩
    refine ⟨_, rfl, a, n, 4, _, rfl, by decide, (st4.new nl1).new nl2, by omega, fun r H5 r0 r4 f5 st5 => ?_⟩
    have g1 : H5 l1 = some (.lst [.str x]) := f5 _ _ ((st4.new nl1).ne nl2 |>.1 |> fun _ => (st4.ne nl1).1) (by rw [upd_ne (ne_of_none upd_same nl2)]; exact upd_same)
    have g2 : H5 l2 = some (.lst [.str wo]) := f5 _ _ ((st4.new nl1).ne nl2).1 upd_same
    have ek : (1 + r).toNat ≤ 4 := by omega
    refine ⟨_, _, rfl, rfl, l2, _, _, rfl, rfl, g2, by omega, by omega, ?_, fun l3 nl3 => ?_⟩
    · show 1 * (1 + r).toNat ≤ sizeLine
      exact Nat.le_of_lt (small1000 (by omega))
    have efl : (List.replicate (1 + r).toNat [V.str wo]).flatten = (List.replicate (1 + r).toNat wo).map V.str := by
      rw [List.map_replicate]
      generalize (1 + r).toNat = k
      induction k with
      | zero => rfl
      | succ k ih => rw [List.replicate_succ, List.flatten_cons, ih]; rfl
    rw [efl]
    have hlr : (List.replicate (1 + r).toNat wo).length = (1 + r).toNat := List.length_replicate
    refine ⟨l1, l3, _, _, rfl, rfl, (Same.new nl3) _ _ g1, upd_same, ?_, fun l4 nl4 => ?_⟩
    · rw [List.length_map, hlr]
      show 1 + _ ≤ sizeLine
      exact Nat.le_of_lt (small1000 (by omega))
    have hmem : ∀ p ∈ List.replicate (1 + r).toNat wo, p = wo := fun p hp => List.eq_of_mem_replicate hp
    refine ⟨_, l4, x :: List.replicate (1 + r).toNat wo, rfl, rfl, .inl (SqL.mk upd_same), ?_, ?_⟩
    · refine sum20 (fun p hp => ?_) (by rw [List.length_cons, hlr]; omega)
      rcases List.mem_cons.mp hp with z | z
      · rw [z]; exact (ok_wrd x hx).2.2
      · rw [hmem p z]; exact okw.2.2
    · refine q x _ _ (gd_of (ok_wrd x hx) (fun p hp => by rw [hmem p hp]; exact okw) (by rw [hlr]; omega) (cm_wrd hx ?_)) ?_ ?_
      · refine List.all_eq_true.mpr fun p hp => ?_
        rw [hmem p hp]
        exact lt1
      · exact f13.trans (f4.trans (((Fr.new nl1).trans (Fr.new nl2)).trans (f5.trans ((Fr.new nl3).trans (Fr.new nl4)))))
      · exact ((st5.new nl3).new nl4).mono (by omega)
  refine ⟨_, rfl, rfl, _, rfl, ite2 (fun e => ?_) (fun e => ?_)⟩
  · refine seq_asg ?_
    refine op_of ?_
    refine ⟨_, rfl, _, rfl, a, n, _, rfl, st3, by omega, fun k1 H4 hk1 f4 st4 => ⟨(by show 3 ≤ sizeLine; decide), fun l1 nl1 => ⟨_, rfl, _, rfl, a, n, _, rfl, st4.new nl1, by omega, fun k2 H5 hk2 f5 st5 => ⟨_, rfl, a, n, _, rfl, st5, by omega, fun k3 H6 hk3 f6 st6 => ⟨(by show 4 ≤ sizeLine; decide), fun l2 nl2 => ⟨(by show 2 ≤ sizeLine; decide), fun l3 nl3 => ⟨_, rfl, a, n, 2, _, rfl, by decide, (st6.new nl2).new nl3, by omega, fun r H7 r0 r2 f7 st7 => ?_⟩⟩⟩⟩⟩⟩⟩
    have na1 : l1 ≠ a := (st4.ne nl1).1
    have na2 : l2 ≠ a := (st6.ne nl2).1
    have na3 : l3 ≠ a := ((st6.new nl2).ne nl3).1
    have g1 : H7 l1 = some (.lst (([("count" : Str), wo, nmS k1] : List Str).map V.str)) := f7 _ _ na1 ((Same.new nl3) _ _ ((Same.new nl2) _ _ (f6 _ _ na1 (f5 _ _ na1 upd_same))))
    have g2 : H7 l2 = some (.lst (([("tree" : Str), wo, nmS k2, nmS k3] : List Str).map V.str)) := f7 _ _ na2 ((Same.new nl3) _ _ upd_same)
    have g3 : H7 l3 = some (.lst [.ref l1, .ref l2]) := f7 _ _ na3 upd_same
    have f37 : Pg.Fr a H H7 := f13.trans (f4.trans ((Fr.new nl1).trans (f5.trans (f6.trans ((Fr.new nl2).trans ((Fr.new nl3).trans f7))))))
    obtain ⟨lx, wd, ws, hlx, hat, gd, h20, hw3, nax⟩ : ∃ (lx : Addr) (wd : Str) (ws : List Str), H7 lx = some (.lst ((wd :: ws).map V.str)) ∧ atI [V.ref l1, V.ref l2] r = some (.ref lx) ∧ GdL wd ws ∧ (∀ p ∈ wd :: ws, Ok20 p) ∧ ws.length ≤ 3 ∧ lx ≠ a := by
      rcases (by omega : r = 0 ∨ r = 1) with rfl | rfl
      · have hm : ∀ p ∈ [wo, nmS k1], Ok20 p := fun p hp => by
          rcases List.mem_cons.mp hp with rfl | hp
          · exact okw
          · rw [List.mem_singleton.mp hp]; exact ok_nm hk1
        exact ⟨l1, "count", [wo, nmS k1], g1, rfl, gd_of ok_lit.1 hm (by simp) (cm_cnt lt1 (nm_nb hk1)), fun p hp => (List.mem_cons.mp hp).elim (fun z => z ▸ ok_lit.1) (hm p), by simp, na1⟩
      · have hm : ∀ p ∈ [wo, nmS k2, nmS k3], Ok20 p := fun p hp => by
          rcases List.mem_cons.mp hp with rfl | hp
          · exact okw
          rcases List.mem_cons.mp hp with rfl | hp
          · exact ok_nm hk2
          · rw [List.mem_singleton.mp hp]; exact ok_nm hk3
        exact ⟨l2, "tree", [wo, nmS k2, nmS k3], g2, rfl, gd_of ok_lit.2.1 hm (by simp) (cm_tree lt1 (nm_nb hk2) (nm_nb hk3)), fun p hp => (List.mem_cons.mp hp).elim (fun z => z ▸ ok_lit.2.1) (hm p), by simp, na2⟩
    refine ⟨l3, _, r, _, rfl, rfl, SqL.mk g3, hat, ?_⟩
    dsimp only [tRet, gName]
    refine op_of ?_
    have pl6 : (Str.ofString "place ").length = 6 := by decide +kernel
    refine ⟨rfl, _, rfl, _, lx, wd :: ws, rfl, rfl, .inl (SqL.mk hlx), sum20 (fun p hp => (h20 p hp).2.2) (by rw [List.length_cons]; omega), ?_⟩
    refine ⟨_, rfl, _, _, rfl, rfl, sz_add (by rw [pl6]; omega), _, _, rfl, rfl, sz_add (by rw [len_app, pl6, sp_len]; omega), ?_⟩
    refine ⟨_, rfl, a, n, _, rfl, st7, by omega, fun t H8 ta tl f8 st8 => ⟨_, _, rfl, rfl, sz_add (by rw [len_app, len_app, pl6, sp_len]; omega), (by show 2 ≤ sizeLine; decide), fun l4 nl4 => ?_⟩⟩
    refine ⟨_, rfl, a, n, 2, _, rfl, by decide, st8.new nl4, by omega, fun r2 H9 r20 r22 f9 st9 => ?_⟩
    have f39 : Pg.Fr a H H9 := f37.trans (f8.trans ((Fr.new nl4).trans f9))
    have g4 := f9 _ _ (st8.ne nl4).1 (upd_same (H := H8) (a := l4))
    rcases (by omega : r2 = 0 ∨ r2 = 1) with rfl | rfl
    · exact ⟨l4, _, 0, _, rfl, rfl, SqL.mk g4, rfl, q wd ws H9 gd f39 (st9.mono (by omega))⟩
    · obtain ⟨W, hj, gp⟩ := place_jn lt1 okw.2.2 ta tl
      refine ⟨l4, _, 1, _, rfl, rfl, SqL.mk g4, rfl, ?_⟩
      show Q (.str (Str.ofString "place " ++ wo ++ Str.ofString " " ++ t)) H9
      rw [hj]
      exact q "place" W H9 gp f39 (st9.mono (by omega))
  dsimp only [tNext]
  refine ⟨(by show 1 ≤ sizeLine; decide), fun p0 np0 => ?_⟩
  have s30 := st3.new (o := .lst [.str "begin"]) np0
  have hp0 : (upd H3 p0 (.lst [.str "begin"])) p0 = some (.lst ((([("begin" : Str)] : List Str)).map V.str)) := upd_same
  have np0a := st3.ne np0
  have np0h := f13.free np0 np0a.1
  have f30 : Pg.Fr a H (upd H3 p0 (.lst [.str "begin"])) := f13.trans (Fr.new np0)
  dsimp only [gName]
  refine ⟨_, rfl, a, n, 4, _, rfl, by decide, s30, by omega, fun rA HA rA0 rA4 fA stA => ⟨rA, rfl, by omega, by omega, ?_⟩⟩
  refine for_range (lo := 0) (n := rA.toNat) (fun i σ H' => ∃ (p : Addr) (A : List Str) (pd : List PyData) (k : Option V), σ = [some (.ref a), some (.int way), some (.str wo), some (.ref p), k, none] ∧ H' p = some (.lst ((([("begin" : Str)] : List Str) ++ A).map V.str)) ∧ (p ≠ a ∧ p ≠ n) ∧ H p = none ∧ pairsD A = some pd ∧ (∀ x ∈ A, Ok20 x) ∧ A.length = 2 * i ∧ Pg.Fr a H H' ∧ StA H' a n (m + 21 + 20 * i))
    ⟨p0, [], [], _, rfl, by rw [List.append_nil]; exact fA _ _ np0a.1 hp0, np0a, np0h, rfl, fun x hx => (by cases hx), rfl, (f30).trans fA, stA.mono (by omega)⟩ ?_ ?_
  · rintro i σ H' hi ⟨p, A, pd, k, rfl, hp, npa, hnp, hpd, hA, hAl, fr, st'⟩
    refine ⟨_, rfl, _, rfl, (by show 0 ≤ sizeLine; decide), fun le nle => ⟨a, n, le, [], _, rfl, st'.new nle, by omega, upd_same, (st'.ne nle).1, ⟨List.nodup_nil, fun t ht => by cases ht⟩, by decide, fun w1 H5 _ hw f5 st5 => ⟨_, rfl, a, n, _, rfl, st5, by omega, fun k1 H6 hk f6 st6 => ⟨(by show 2 ≤ sizeLine; decide), fun l2 nl2 => ?_⟩⟩⟩⟩
    obtain ⟨hw1, hw2⟩ := wd_lt hw
    have hp6 : (upd H6 l2 (.lst [.str w1, .str (nmS k1)])) p = some (.lst ((([("begin" : Str)] : List Str) ++ A).map V.str)) := (Same.new nl2) _ _ (f6 _ _ npa.1 (f5 _ _ npa.1 ((Same.new nle) _ _ hp)))
    refine ⟨p, l2, _, _, rfl, rfl, hp6, upd_same, ?_, fun l3 nl3 => ?_⟩
    · refine Nat.le_of_lt (small1000 ?_)
      rw [List.length_map, List.length_append, hAl]
      have : (([("begin" : Str)] : List Str)).length ≤ 20 := by simp
      show _ + 2 * i + 2 ≤ 1000
      omega
    obtain ⟨pd2, hpd2⟩ := pairs_snoc hpd hw1 (nm_nb hk)
    have ne3 := (st6.new nl2).ne nl3
    have fr6 : Pg.Fr a H (upd H6 l2 (.lst [.str w1, .str (nmS k1)])) := fr.trans ((Fr.new nle).trans (f5.trans (f6.trans (Fr.new nl2))))
    refine ⟨l3, A ++ [w1, nmS k1], pd2, _, rfl, ?_, ne3, fr6.free nl3 ne3.1, hpd2, fun x hx => ?_, by rw [List.length_append, hAl]; rfl, fr6.trans (Fr.new nl3), ((st6.new nl2).new nl3).mono (by omega)⟩
    · rw [← List.append_assoc, List.map_append (l₁ := ([("begin" : Str)] : List Str) ++ A)]
      exact upd_same
    · rcases List.mem_append.mp hx with z | z
      · exact hA x z
      rcases List.mem_cons.mp z with rfl | z
      · exact ok_lt hw1 (by omega)
      · rw [List.mem_singleton.mp z]; exact ok_nm hk
  rintro σ H4 ⟨p, A1, pd, k, rfl, hp, npa, hnp, hpd, hA1, hA1l, fr, st4⟩
  refine ⟨_, rfl, .inl ⟨rfl, _, SqL.mk hp⟩, p, _, _, rfl, rfl, hp, ?_, ?_⟩
  · refine small1000 ?_
    rw [List.length_map, List.length_append, hA1l]
    show 1 + _ ≤ 1000
    omega
  have hp4 : (upd H4 p (.lst ((([("begin" : Str)] ++ A1).map V.str) ++ [.str (Str.ofString ";")]))) p = some (.lst ((([("begin" : Str)] ++ A1 ++ [smc]) : List Str).map V.str)) := by
    rw [List.map_append (l₁ := [("begin" : Str)] ++ A1)]
    exact upd_same
  have f4 : Pg.Fr a H (upd H4 p (.lst ((([("begin" : Str)] ++ A1).map V.str) ++ [.str (Str.ofString ";")]))) := fr.mut hnp
  have s4 : StA (upd H4 p (.lst ((([("begin" : Str)] ++ A1).map V.str) ++ [.str (Str.ofString ";")]))) a n (m + 21 + 60) := (st4.put npa).mono (by omega)
  generalize upd H4 p (.lst ((([("begin" : Str)] ++ A1).map V.str) ++ [.str (Str.ofString ";")])) = H40 at hp4 f4 s4 ⊢
  refine ⟨_, rfl, a, n, 4, _, rfl, by decide, s4, by omega, fun rB HB rB0 rB4 fB stB => ⟨rB, rfl, by omega, by omega, ?_⟩⟩
  refine for_range (lo := 0) (n := rB.toNat) (fun i σ H' => ∃ (p : Addr) (A : List Str) (pd : List PyData) (k : Option V), σ = [some (.ref a), some (.int way), some (.str wo), some (.ref p), k, none] ∧ H' p = some (.lst ((([("begin" : Str)] ++ A1 ++ [smc]) ++ A).map V.str)) ∧ (p ≠ a ∧ p ≠ n) ∧ H p = none ∧ pairsD A = some pd ∧ (∀ x ∈ A, Ok20 x) ∧ A.length = 2 * i ∧ Pg.Fr a H H' ∧ StA H' a n (m + 82 + 20 * i))
    ⟨p, [], [], _, rfl, by rw [List.append_nil]; exact fB _ _ npa.1 hp4, npa, hnp, rfl, fun x hx => (by cases hx), rfl, (f4).trans fB, stB.mono (by omega)⟩ ?_ ?_
  · rintro i σ H' hi ⟨p, A, pd, k, rfl, hp, npa, hnp, hpd, hA, hAl, fr, st'⟩
    refine ⟨_, rfl, _, rfl, (by show 0 ≤ sizeLine; decide), fun le nle => ⟨a, n, le, [], _, rfl, st'.new nle, by omega, upd_same, (st'.ne nle).1, ⟨List.nodup_nil, fun t ht => by cases ht⟩, by decide, fun w1 H5 _ hw f5 st5 => ⟨_, rfl, a, n, _, rfl, st5, by omega, fun k1 H6 hk f6 st6 => ⟨(by show 2 ≤ sizeLine; decide), fun l2 nl2 => ?_⟩⟩⟩⟩
    obtain ⟨hw1, hw2⟩ := wd_lt hw
    have hp6 : (upd H6 l2 (.lst [.str w1, .str (nmS k1)])) p = some (.lst ((([("begin" : Str)] ++ A1 ++ [smc]) ++ A).map V.str)) := (Same.new nl2) _ _ (f6 _ _ npa.1 (f5 _ _ npa.1 ((Same.new nle) _ _ hp)))
    refine ⟨p, l2, _, _, rfl, rfl, hp6, upd_same, ?_, fun l3 nl3 => ?_⟩
    · refine Nat.le_of_lt (small1000 ?_)
      rw [List.length_map, List.length_append, hAl]
      have : (([("begin" : Str)] ++ A1 ++ [smc])).length ≤ 20 := by rw [List.length_append, List.length_append, hA1l]; show 1 + 2 * rA.toNat + 1 ≤ 20; omega
      show _ + 2 * i + 2 ≤ 1000
      omega
    obtain ⟨pd2, hpd2⟩ := pairs_snoc hpd hw1 (nm_nb hk)
    have ne3 := (st6.new nl2).ne nl3
    have fr6 : Pg.Fr a H (upd H6 l2 (.lst [.str w1, .str (nmS k1)])) := fr.trans ((Fr.new nle).trans (f5.trans (f6.trans (Fr.new nl2))))
    refine ⟨l3, A ++ [w1, nmS k1], pd2, _, rfl, ?_, ne3, fr6.free nl3 ne3.1, hpd2, fun x hx => ?_, by rw [List.length_append, hAl]; rfl, fr6.trans (Fr.new nl3), ((st6.new nl2).new nl3).mono (by omega)⟩
    · rw [← List.append_assoc, List.map_append (l₁ := ([("begin" : Str)] ++ A1 ++ [smc]) ++ A)]
      exact upd_same
    · rcases List.mem_append.mp hx with z | z
      · exact hA x z
      rcases List.mem_cons.mp z with rfl | z
      · exact ok_lt hw1 (by omega)
      · rw [List.mem_singleton.mp z]; exact ok_nm hk
  rintro σ H7 ⟨p2, B, pdB, k2, rfl, hp7, npa7, _, hpdB, hB, hBl, fr7, st7⟩
  have hws : ([("begin" : Str)] ++ A1 ++ [smc]) ++ B = ("begin" : Str) :: (A1 ++ smc :: B) := by simp
  rw [hws] at hp7
  have h20 : ∀ x ∈ A1 ++ smc :: B, Ok20 x := fun x hx => by
    rcases List.mem_append.mp hx with z | z
    · exact hA1 x z
    rcases List.mem_cons.mp z with rfl | z
    · exact ok_lit.2.2.2.2
    · exact hB x z
  have hln : (A1 ++ smc :: B).length ≤ 13 := by rw [List.length_append, List.length_cons, hA1l, hBl]; omega
  refine ⟨rfl, _, rfl, _, p2, "begin" :: (A1 ++ smc :: B), rfl, rfl, .inl (SqL.mk hp7), sum20 (fun x hx => ?_) (by rw [List.length_cons]; omega), ?_⟩
  · rcases List.mem_cons.mp hx with rfl | z
    · exact ok_lit.2.2.2.1.2.2
    · exact (h20 x z).2.2
  exact q "begin" (A1 ++ smc :: B) H7 (gd_of ok_lit.2.2.2.1 h20 hln (cm_beg hpd hpdB)) fr7 (st7.mono (by omega))
end
end K80

set_option Elab.async false
set_option linter.all false
set_option maxRecDepth 100000
set_option maxHeartbeats 4000000
namespace Pg
open PySem PySem.Spec PyProof.Rows L2
section
/-! own rule: a list display whose first item is e + a written text: behind it a token is out -/
variable {X : Cx}
def PEK (X : Cx) (e : Expr) (t : TE) : Prop := ∀ (pins : List (Addr × Obj)) (s : Shared) (σ : L2.St) (H : Hp) (Q : VK), L2.Inv X pins σ H s → t σ H Q → wpAny (model X.prog X.w) X.A (eval e X.env) (fun v s1 => 1 ≤ s1.toks ∧ EP X pins σ Q v s1) X.xe s
theorem pek_addl {op : Operator} {r : R2} {e : Expr} {te : TE} {c : Str} {j : Nat} {p pos : Pos} (ho : OpR X (binaryOp op) r) (ha : PE X e te) : PEK X (.BinOp e op (.Constant (.str c) j p) pos) (tOp r te (tC (.str c))) := by
  intro pins s σ H Q I h
  refine wpAny_BinOp (thn (ha.run pins s σ H _ I h) fun v s1 ⟨x, H1, I1, r1, q1⟩ => Calls.Constant_str ?_)
  refine wpAny_mono (PySem.wpAny_toks (ho pins { s1 with toks := s1.toks + 1 } σ H1 x (.str c) v (.str c s1.toks) Q (I1.tok _) r1 ⟨_, rfl⟩ q1)) (fun v2 s2 q => ⟨?_, q.2⟩) fun _ _ z => z.2
  have : s1.toks + 1 ≤ s2.toks := q.1
  omega
theorem pa_consK {e : Expr} {es : List Expr} {te : TE} {ta : TA} (ha : PEK X e te) (hr : PAT X es ta) (hs : starEach (e :: es) X.env = (false, eval e X.env) :: starEach es X.env := by rfl) : PA X (e :: es) (tCons te ta) := by
  refine ⟨fun pos pins s σ H Q I h => ?_⟩
  rw [hs]
  show wpAny _ _ (spliced ((false, eval e X.env) :: backTo pos (starEach es X.env))) _ _ s
  refine Calls.spliced_cons (thn (ha pins s σ H _ I h) fun u s1 ⟨hk, x, H1, I1, r1, q1⟩ => ?_)
  exact thn (hr pos pins s1 σ H1 _ hk I1 q1) fun us s2 ⟨xs, H2, I2, r2, q2⟩ => ⟨x :: xs, H2, I2, .cons r1 r2, q2⟩
end
/-! ### a line replaced -/
theorem replS_mem {y z : List Nat} : ∀ (l : List Nat) (s c : Nat), c ∈ StrLaws.replS y z s l → c ∈ z ∨ c ∈ l
  | [], s, c, h => by
    rw [StrLaws.replS] at h
    cases h
  | a :: r, 0, c, h => by
    rw [StrLaws.replS] at h
    split at h
    · rcases List.mem_append.mp h with h | h
      · exact .inl h
      · exact (replS_mem r _ c h).imp id fun q => List.mem_cons_of_mem _ q
    · rcases List.mem_cons.mp h with h | h
      · exact .inr (h ▸ List.mem_cons_self ..)
      · exact (replS_mem r _ c h).imp id fun q => List.mem_cons_of_mem _ q
  | a :: r, s + 1, c, h => by
    rw [StrLaws.replS] at h
    exact (replS_mem r _ c h).imp id fun q => List.mem_cons_of_mem _ q
theorem repl_asc {x : Str} (h : Asc x) : Asc (Txt.replace x (PySem.Str.ofString " ") (PySem.Str.ofString "  ")) := fun c hc => by
  have e := StrLaws.replace_list (x := x) (y := PySem.Str.ofString " ") (z := PySem.Str.ofString "  ") (by decide +kernel)
  have hc : c ∈ StrLaws.replL (cs (PySem.Str.ofString " ")) (cs (PySem.Str.ofString "  ")) (cs x) := by
    rw [← e]
    exact hc
  rcases replS_mem _ _ _ hc with h1 | h1
  · have : cs (PySem.Str.ofString "  ") = [32, 32] := by decide +kernel
    rw [this] at h1
    simp at h1
    omega
  · exact h c h1
def tot (W : List Str) : Nat := (W.map (·.length)).sum + W.length
theorem tot_app (A B : List Str) : tot (A ++ B) = tot A + tot B := by
  unfold tot
  rw [List.map_append, List.sum_append, List.length_append]
  omega
theorem tot_cut (W : List Str) (i j : Nat) : tot ((W.drop i).take j) ≤ tot W := by
  have e1 := congrArg tot (List.take_append_drop j (W.drop i))
  have e2 := congrArg tot (List.take_append_drop i W)
  rw [tot_app] at e1 e2
  omega
theorem jn_tot : ∀ W : List Str, (jn W).length ≤ tot W
  | [] => by
    have : cs (jn []) = [] := by
      show TL.tl (Txt.join sp1 []) = []
      rw [TL.join_eq, TL.tl_join] <;> rfl
    rw [cs_len, this]
    exact Nat.zero_le _
  | w :: ws => by
    by_cases e : ws = []
    · subst e
      rw [jn_one]
      unfold tot
      simp
    · have ih := jn_tot ws
      have e2 : tot (w :: ws) = w.length + 1 + tot ws := by
        unfold tot
        rw [List.map_cons, List.sum_cons, List.length_cons]
        omega
      rw [jlen e, e2]
      omega
theorem tot_jn : ∀ W : List Str, tot W ≤ (jn W).length + 1
  | [] => Nat.zero_le _
  | w :: ws => by
    by_cases e : ws = []
    · subst e
      rw [jn_one]
      unfold tot
      simp
    · have ih := tot_jn ws
      have e2 : tot (w :: ws) = w.length + 1 + tot ws := by
        unfold tot
        rw [List.map_cons, List.sum_cons, List.length_cons]
        omega
      rw [jlen e, e2]
      omega
/-- a slice of words -/
theorem cut_str (W : List Str) (lo hi : Option Int) : ∃ W', cutV (W.map V.str) lo hi = W'.map V.str ∧ (∀ p ∈ W', p ∈ W) ∧ tot W' ≤ tot W := by
  unfold cutV
  refine ⟨(W.drop (HT.sIx (W.map V.str).length 0 lo)).take (HT.sIx (W.map V.str).length (W.map V.str).length hi - HT.sIx (W.map V.str).length 0 lo), ?_, fun p hp => List.mem_of_mem_drop (List.mem_of_mem_take hp), tot_cut _ _ _⟩
  rw [List.map_take, List.map_drop]
theorem tot_len (W : List Str) : W.length ≤ tot W := Nat.le_add_left _ _
theorem tot_join {W : List Str} (h : tot W ≤ 1000) : (W.map (·.length)).sum + W.length * (PySem.Str.ofString " ").length ≤ 16777216 := by
  rw [sp_len]
  unfold tot at h
  omega
def smenu : List Str := ["x", "01", "12345678", "-1", "Rule", "undo", ";", "", "0", "count", "q7", "place", "rule"]
theorem smenu_ok : ∀ x ∈ smenu, Asc x ∧ x.length ≤ 8 := by unfold smenu Asc; decide +kernel
def spLsp80 (K : PySem.W.Frag) : Sp := fun vs H Q _ => ∃ (a n : Addr) (m : Int) (x : Str), vs = [.ref a, .str x] ∧ StA H a n m ∧ m < 700000 ∧ Asc x ∧ x.length ≤ 154 ∧ ∀ (y : Str) H', Asc y → y.length ≤ 700 → Fr a H H' → StA H' a n (m + 10) → Q (.str y) H'
end Pg
namespace Pg
open PySem PySem.Spec PyProof.Rows L2
/-- an expression that makes a list of texts -/
def TeL (te : TE) (σ : L2.St) (H : Hp) (k : Nat) : Prop := ∀ Q : VK, (∀ p W H', Same H H' → H' p = some (.lst (W.map V.str)) → (∀ x ∈ W, Asc x) → tot W ≤ k → Q (.ref p) H') → te σ H Q
theorem TeL.cat {t1 t2 : TE} {σ : L2.St} {H : Hp} {k1 k2 : Nat} (h1 : TeL t1 σ H k1) (h2 : ∀ H', Same H H' → TeL t2 σ H' k2) (hk : k1 + k2 ≤ 1000) : TeL (tOp rCat t1 t2) σ H (k1 + k2) := fun Q q =>
  h1 _ fun p1 W1 H1 s1 g1 a1 l1 => h2 H1 s1 _ fun p2 W2 H2 s2 g2 a2 l2 => ⟨p1, p2, _, _, rfl, rfl, s2 _ _ g1, g2, by
    rw [List.length_map, List.length_map]
    have := tot_len W1
    have := tot_len W2
    exact Nat.le_of_lt (small1000 (by omega)), fun p np => q p (W1 ++ W2) _ (s1.trans (s2.trans (Same.new np))) (by rw [List.map_append]; exact upd_same) (fun x hx => (List.mem_append.mp hx).elim (a1 x) (a2 x)) (by rw [tot_app]; omega)⟩
theorem cut_q {W : List Str} (hW : ∀ x ∈ W, Asc x) {lo hi : Option Int} {H' : Hp} {p : Addr} {Q : VK} (np : H' p = none) (q : ∀ p W' H'', Same H' H'' → H'' p = some (.lst (W'.map V.str)) → (∀ x ∈ W', Asc x) → tot W' ≤ tot W → Q (.ref p) H'') : Q (.ref p) (upd H' p (.lst (cutV (W.map V.str) lo hi))) := by
  obtain ⟨W', e, hm, ht⟩ := cut_str W lo hi
  exact q p W' _ (Same.new np) (by rw [e]; exact upd_same) (fun y hy => hW y (hm y hy)) ht
end Pg

set_option Elab.async false
set_option linter.all false
set_option maxRecDepth 100000
set_option maxHeartbeats 4000000
namespace K80
open PySem PySem.Spec PyProof.Rows L2 Pg
section
variable {P : Program} {w : World} {K : PySem.W.Frag} {mg : Str → Option Value} {base : Heap} {f : Addr} {fd : FuncData}
abbrev s_lsp : Stmt := top 22
abbrev N_lsp : List Str := ["state", "line", "words", "at", "menu", "other", "way"]
abbrev P_lsp : List Str := ["state", "line"]
theorem sc_lsp : FnScope N_lsp P_lsp (defScope s_lsp) := ⟨rfl, rfl, rfl, by decide +kernel, rfl, by decide +kernel, by decide +kernel⟩

theorem ok_lsp (F : FnP K "_law_spoilt" s_lsp f fd) (hm : mg "_law_spoilt" = some (.ref f)) (Z : Zs mg) (c_next : Cal P w K mg base 1 "_law_next" spNext []) : Cal P w K mg base 2 "_law_spoilt" (spLsp80 K) [] := by
  refine mk_cal F hm sc_lsp (fun _ _ _ _ _ _ us hl => match us, hl with | [_, _], _ => rfl) (fun vs H Q E h => ?_) (fun cdv A outer s H vs Q E hr h => ?_)
  · obtain ⟨a, n, m, x, rfl, _⟩ := h
    rfl
  obtain ⟨a, n, m, x, rfl, st, hm8, ha, hl, q⟩ := h
  refine ⟨_, (pss_cons (ps_set (i := 2) sc_lsp.nd rfl (by first | exact Or.inl rfl | exact Or.inr rfl) (pe_bm PySem.F.plainAttrs_str PySem.F.slot_str_split PySem.F.type_str_split mt_split (pv 1) (pa_cons pe_str pa_nil)))
      (pss_cons (ps_set (i := 3) sc_lsp.nd rfl (by first | exact Or.inl rfl | exact Or.inr rfl) (C8.pe_c c_next hr (by first | decide | omega) rfl (pa_cons (pv 0) (pa_cons (pe_callB call_len_seq (by rfl) Z.len (by decide +kernel) (pa_cons (pv 2) pa_nil)) pa_nil))))
      (pss_cons (ps_set (i := 4) sc_lsp.nd rfl (by first | exact Or.inl rfl | exact Or.inr rfl) (pe_lst (pa_cons pe_str (pa_cons pe_str (pa_cons pe_str (pa_cons pe_str (pa_cons pe_str (pa_cons pe_str (pa_cons pe_str (pa_cons pe_str (pa_cons pe_str (pa_cons pe_str (pa_cons pe_str (pa_cons pe_str (pa_cons pe_str pa_nil)))))))))))))))
      (pss_cons (ps_set (i := 5) sc_lsp.nd rfl (by first | exact Or.inl rfl | exact Or.inr rfl) (pe_ix ix_list (pv 4) (C8.pe_c c_next hr (by first | decide | omega) rfl (pa_cons (pv 0) (pa_cons (pe_callB call_len_seq (by rfl) Z.len (by decide +kernel) (pa_cons (pv 4) pa_nil)) pa_nil))) (fun _ _ => rfl)))
      (pss_cons (ps_set (i := 6) sc_lsp.nd rfl (by first | exact Or.inl rfl | exact Or.inr rfl) (C8.pe_c c_next hr (by first | decide | omega) rfl (pa_cons (pv 0) (pa_cons pe_int pa_nil))))
      (pss_cons (ps_if (pt_cmpR op_eq (pv 6) pe_int (nomark _)) (pss_one (ps_ret (pe_bm PySem.F.plainAttrs_str PySem.F.slot_str_join PySem.F.type_str_join mt_join pe_str (pa_cons (pe_op op_cat (pe_slice sl_list (pv 2) po_none (po_some (pv 3))) (pe_slice sl_list (pv 2) (po_some (pe_op op_add (pv 3) pe_int)) po_none)) pa_nil)))) pss_nil)
      (pss_cons (ps_if (pt_cmpR op_eq (pv 6) pe_int (nomark _)) (pss_one (ps_ret (pe_bm PySem.F.plainAttrs_str PySem.F.slot_str_join PySem.F.type_str_join mt_join pe_str (pa_cons (pe_op op_cat (pe_op op_cat (pe_slice sl_list (pv 2) po_none (po_some (pv 3))) (pe_lst (pa_cons (pv 5) pa_nil))) (pe_slice sl_list (pv 2) (po_some (pv 3)) po_none)) pa_nil)))) pss_nil)
      (pss_cons (ps_if (pt_cmpR op_eq (pv 6) pe_int (nomark _)) (pss_one (ps_ret (pe_bm PySem.F.plainAttrs_str PySem.F.slot_str_join PySem.F.type_str_join mt_join pe_str (pa_cons (pe_op op_cat (pe_op op_cat (pe_slice sl_list (pv 2) po_none (po_some (pv 3))) (pe_lst (pa_cons (pv 5) pa_nil))) (pe_slice sl_list (pv 2) (po_some (pe_op op_add (pv 3) pe_int)) po_none)) pa_nil)))) pss_nil)
      (pss_cons (ps_if (pt_cmpR op_eq (pv 6) pe_int (nomark _)) (pss_one (ps_ret (pe_bm PySem.F.plainAttrs_str PySem.F.slot_str_join PySem.F.type_str_join mt_join pe_str (pa_cons (pe_op op_cat (pe_op op_cat (pe_op op_cat (pe_slice sl_list (pv 2) po_none (po_some (pv 3))) (pe_slice sl_list (pv 2) (po_some (pe_op op_add (pv 3) pe_int)) (po_some (pe_op op_add (pv 3) pe_int)))) (pe_slice sl_list (pv 2) (po_some (pv 3)) (po_some (pe_op op_add (pv 3) pe_int)))) (pe_slice sl_list (pv 2) (po_some (pe_op op_add (pv 3) pe_int)) po_none)) pa_nil)))) pss_nil)
      (pss_one (ps_ret (pe_ix ix_list (pe_lst (pa_consK (pek_addl op_add_str (pv 1)) (pat_cons (CwR.PET.of (pe_op op_add_str pe_str (pv 1))) (pat_cons (CwR.PET.of (pe_op op_add_str (pv 1) pe_str)) (pat_cons (CwR.pet_replC (pv 1)) pat_nil))))) (C8.pe_c c_next hr (by first | decide | omega) rfl (pa_cons (pv 0) (pa_cons pe_int pa_nil))) (fun _ _ => rfl))))))))))))), ?_⟩
  obtain ⟨W, hne, hns, hj⟩ := line_words x
  have hWa : ∀ y ∈ W, Asc y := asc_inv (by rw [hj]; exact ha)
  have htot : tot W ≤ 155 := by have := tot_jn W; rw [hj] at this; omega
  have es : Txt.split x (Str.ofString " ") = W := by
    rw [← hj]
    exact split_words hne hns
  refine ⟨_, rfl, rfl, _, _, rfl, rfl, by decide +kernel, Nat.le_of_lt (smallN (by omega)), fun l nl => ?_⟩
  rw [es]
  have hl0 : (upd H l (.lst (W.map V.str))) l = some (.lst (W.map V.str)) := upd_same
  have nla := (st.ne nl).1
  have s1 : StA (upd H l (.lst (W.map V.str))) a n m := st.new nl
  have f1 : Pg.Fr a H (upd H l (.lst (W.map V.str))) := Fr.new nl
  dsimp only [gName]
  generalize upd H l (.lst (W.map V.str)) = H1 at hl0 s1 f1 ⊢
  have hWp := List.length_pos_iff.mpr hne
  refine ⟨_, rfl, _, rfl, l, _, rfl, .inl (SqL.mk hl0), a, n, _, _, rfl, by rw [List.length_map]; omega, s1, by omega, fun ia H2 i0 i1 f2 s2 => ?_⟩
  dsimp only [gName]
  refine seq_asg ?_
  refine taS_ok smenu _ _ _ ⟨by show 13 ≤ sizeLine; decide, fun lm nlm => ?_⟩
  have hlm : (upd H2 lm (.lst (smenu.map V.str))) lm = some (.lst (smenu.map V.str)) := upd_same
  have nlma := (s2.ne nlm).1
  have s3 : StA (upd H2 lm (.lst (smenu.map V.str))) a n (m + 1) := s2.new nlm
  have f3 : Pg.Fr a H2 (upd H2 lm (.lst (smenu.map V.str))) := Fr.new nlm
  dsimp only [gName]
  generalize upd H2 lm (.lst (smenu.map V.str)) = H3 at hlm s3 f3 ⊢
  refine ⟨_, rfl, _, rfl, _, rfl, lm, _, rfl, .inl (SqL.mk hlm), a, n, 13, _, rfl, by decide, s3, by omega, fun ro H4 r0 r1 f4 s4 => ?_⟩
  obtain ⟨jo, rfl⟩ := Int.eq_ofNat_of_zero_le r0
  have hjo : jo < smenu.length := by show jo < 13; omega
  refine ⟨lm, _, (jo : Int), .str smenu[jo], rfl, rfl, SqL.mk (f4 _ _ nlma hlm), by rw [Pg.atI_get, List.getElem?_map, List.getElem?_eq_getElem hjo]; rfl, ?_⟩
  obtain ⟨oa, ol⟩ := smenu_ok _ (List.getElem_mem hjo)
  generalize smenu[jo] = ot at oa ol ⊢
  dsimp only [gName]
  refine ⟨_, rfl, a, n, 5, _, rfl, by decide, s4, by omega, fun way H5 w0 w5 f5 s5 => ?_⟩
  have f25 := f2.trans (f3.trans (f4.trans f5))
  have hl0 := f25 _ _ nla hl0
  have fA := f1.trans f25
  have s5 : StA H5 a n (m + 5) := s5.mono (by omega)
  dsimp only [gName]
  have fin : ∀ (p : Addr) (W' : List Str) H', Same H5 H' → H' p = some (.lst (W'.map V.str)) → (∀ x ∈ W', Asc x) → tot W' ≤ 650 → Q (.str (jn W')) H' := fun p W' H' s' g a' l' =>
    q (jn W') H' (jn_asc a') (by have := jn_tot W'; omega) (fA.trans (Fr.of s')) ((s5.same s').mono (by omega))
  have ot1 : tot [ot] ≤ 9 := by unfold tot; simp; omega
  -- the parts
  refine ⟨_, rfl, rfl, _, rfl, ite2 (fun e => ?_) (fun e => ?_)⟩
  · dsimp only [tRet, tBM, tCons]
    refine ⟨rfl, (TeL.cat (k1 := 155) (k2 := 155) (fun Q' q' => ⟨_, rfl, _, rfl, (ia : Int), rfl, l, _, rfl, SqL.mk (hl0), fun p np => cut_q hWa np fun p W' H'' s g a' l' => q' p W' H'' s g a' (by omega)⟩) (fun H' s' => fun Q' q' => ⟨_, rfl, _, rfl, _, _, rfl, rfl, _, rfl, l, _, rfl, SqL.mk (s' _ _ hl0), fun p np => cut_q hWa np fun p W' H'' s g a' l' => q' p W' H'' s g a' (by omega)⟩) (by decide)) _ fun p W' H' s' g a' l' => ?_⟩
    exact ⟨_, p, W', rfl, rfl, .inl (SqL.mk g), tot_join (by omega), fin p W' H' s' g a' (by omega)⟩
  refine ⟨_, rfl, rfl, _, rfl, ite2 (fun e => ?_) (fun e => ?_)⟩
  · dsimp only [tRet, tBM, tCons]
    refine ⟨rfl, (TeL.cat (k1 := (155 + 9)) (k2 := 155) (TeL.cat (k1 := 155) (k2 := 9) (fun Q' q' => ⟨_, rfl, _, rfl, (ia : Int), rfl, l, _, rfl, SqL.mk (hl0), fun p np => cut_q hWa np fun p W' H'' s g a' l' => q' p W' H'' s g a' (by omega)⟩) (fun H' s' => fun Q' q' => ⟨_, rfl, (by show 1 ≤ sizeLine; decide), fun p np => q' p [ot] _ (Same.new np) upd_same (fun y hy => by rw [List.mem_singleton.mp hy]; exact oa) ot1⟩) (by decide)) (fun H' s' => fun Q' q' => ⟨_, rfl, _, rfl, (ia : Int), rfl, l, _, rfl, SqL.mk (s' _ _ hl0), fun p np => cut_q hWa np fun p W' H'' s g a' l' => q' p W' H'' s g a' (by omega)⟩) (by decide)) _ fun p W' H' s' g a' l' => ?_⟩
    exact ⟨_, p, W', rfl, rfl, .inl (SqL.mk g), tot_join (by omega), fin p W' H' s' g a' (by omega)⟩
  refine ⟨_, rfl, rfl, _, rfl, ite2 (fun e => ?_) (fun e => ?_)⟩
  · dsimp only [tRet, tBM, tCons]
    refine ⟨rfl, (TeL.cat (k1 := (155 + 9)) (k2 := 155) (TeL.cat (k1 := 155) (k2 := 9) (fun Q' q' => ⟨_, rfl, _, rfl, (ia : Int), rfl, l, _, rfl, SqL.mk (hl0), fun p np => cut_q hWa np fun p W' H'' s g a' l' => q' p W' H'' s g a' (by omega)⟩) (fun H' s' => fun Q' q' => ⟨_, rfl, (by show 1 ≤ sizeLine; decide), fun p np => q' p [ot] _ (Same.new np) upd_same (fun y hy => by rw [List.mem_singleton.mp hy]; exact oa) ot1⟩) (by decide)) (fun H' s' => fun Q' q' => ⟨_, rfl, _, rfl, _, _, rfl, rfl, _, rfl, l, _, rfl, SqL.mk (s' _ _ hl0), fun p np => cut_q hWa np fun p W' H'' s g a' l' => q' p W' H'' s g a' (by omega)⟩) (by decide)) _ fun p W' H' s' g a' l' => ?_⟩
    exact ⟨_, p, W', rfl, rfl, .inl (SqL.mk g), tot_join (by omega), fin p W' H' s' g a' (by omega)⟩
  refine ⟨_, rfl, rfl, _, rfl, ite2 (fun e => ?_) (fun e => ?_)⟩
  · dsimp only [tRet, tBM, tCons]
    refine ⟨rfl, (TeL.cat (k1 := ((155 + 155) + 155)) (k2 := 155) (TeL.cat (k1 := (155 + 155)) (k2 := 155) (TeL.cat (k1 := 155) (k2 := 155) (fun Q' q' => ⟨_, rfl, _, rfl, (ia : Int), rfl, l, _, rfl, SqL.mk (hl0), fun p np => cut_q hWa np fun p W' H'' s g a' l' => q' p W' H'' s g a' (by omega)⟩) (fun H' s' => fun Q' q' => ⟨_, rfl, _, rfl, _, _, rfl, rfl, _, rfl, _, rfl, _, _, rfl, rfl, _, rfl, l, _, rfl, SqL.mk (s' _ _ hl0), fun p np => cut_q hWa np fun p W' H'' s g a' l' => q' p W' H'' s g a' (by omega)⟩) (by decide)) (fun H' s' => fun Q' q' => ⟨_, rfl, _, rfl, (ia : Int), rfl, _, rfl, _, _, rfl, rfl, _, rfl, l, _, rfl, SqL.mk (s' _ _ hl0), fun p np => cut_q hWa np fun p W' H'' s g a' l' => q' p W' H'' s g a' (by omega)⟩) (by decide)) (fun H' s' => fun Q' q' => ⟨_, rfl, _, rfl, _, _, rfl, rfl, _, rfl, l, _, rfl, SqL.mk (s' _ _ hl0), fun p np => cut_q hWa np fun p W' H'' s g a' l' => q' p W' H'' s g a' (by omega)⟩) (by decide)) _ fun p W' H' s' g a' l' => ?_⟩
    exact ⟨_, p, W', rfl, rfl, .inl (SqL.mk g), tot_join (by omega), fin p W' H' s' g a' (by omega)⟩
  dsimp only [tNext, tRet]
  refine op_of ?_
  have e02 : (Str.ofString " 0").length = 2 := by decide +kernel
  have e2s : (Str.ofString "  ").length = 2 := by decide +kernel
  refine ⟨_, rfl, _, _, rfl, rfl, sz_add (by rw [sp_len]; omega), _, rfl, _, _, rfl, rfl, sz_add (by rw [sp_len]; omega), _, rfl, _, _, rfl, rfl, sz_add (by rw [e02]; omega), _, rfl, x, rfl, (by rw [e2s]; omega), (by show 4 ≤ sizeLine; decide), fun lr nlr => ?_⟩
  refine ⟨_, rfl, a, n, 4, _, rfl, by decide, s5.new nlr, by omega, fun r H6 r0 r4 f6 s6 => ?_⟩
  have g6 := f6 _ _ (s5.ne nlr).1 (upd_same (H := H5) (a := lr))
  have f56 := fA.trans ((Fr.new nlr).trans f6)
  have s6 := s6.mono (show m + 5 + 1 ≤ m + 10 by omega)
  have asp : Asc (Str.ofString " ") := by unfold Asc; decide +kernel
  have a02 : Asc (Str.ofString " 0") := by unfold Asc; decide +kernel
  have aap : ∀ {u v : Str}, Asc u → Asc v → Asc (u ++ v) := fun h1 h2 c hc => by
    rw [cs_app] at hc
    exact (List.mem_append.mp hc).elim (h1 c) (h2 c)
  rcases (by omega : r = 0 ∨ r = 1 ∨ r = 2 ∨ r = 3) with rfl | rfl | rfl | rfl
  · exact ⟨lr, _, 0, _, rfl, rfl, SqL.mk g6, rfl, q _ H6 (aap ha asp) (by rw [len_app, sp_len]; omega) f56 s6⟩
  · exact ⟨lr, _, 1, _, rfl, rfl, SqL.mk g6, rfl, q _ H6 (aap asp ha) (by rw [len_app, sp_len]; omega) f56 s6⟩
  · exact ⟨lr, _, 2, _, rfl, rfl, SqL.mk g6, rfl, q _ H6 (aap ha a02) (by rw [len_app, e02]; omega) f56 s6⟩
  · refine ⟨lr, _, 3, _, rfl, rfl, SqL.mk g6, rfl, q _ H6 (repl_asc ha) ?_ f56 s6⟩
    have := TK.replace_len x (Str.ofString " ") (Str.ofString "  ")
    rw [e2s] at this
    omega
end
end K80

set_option Elab.async false
set_option linter.all false
set_option maxRecDepth 100000
set_option maxHeartbeats 4000000
namespace K80
open PySem PySem.Spec PyProof.Rows L2 Pg
section
variable {P : Program} {w : World} {K : PySem.W.Frag} {mg : Str → Option Value} {base : Heap} {f : Addr} {fd : FuncData} {rsa : Addr}
abbrev s_same : Stmt := top 15
abbrev N_same : List Str := ["told", "due"]
abbrev P_same : List Str := ["told", "due"]
theorem sc_same : FnScope N_same P_same (defScope s_same) := ⟨rfl, rfl, rfl, by decide +kernel, rfl, by decide +kernel, by decide +kernel⟩

theorem ok_same (F : FnP K "_law_same" s_same f fd) (Z : Zs mg) : FnG P w K mg base 1 f fd ["told", "due"] (spSam80 K) := by
  refine mk_fng F sc_same (fun vs H Q E h => ?_) (fun cdv A outer s H vs Q hG hr h => ?_)
  · obtain ⟨_, _, _, rfl, _⟩ := h
    rfl
  obtain ⟨v1, v2, d, rfl, h1, h2, hs, hn, q⟩ := h
  refine ⟨_, (pss_one (ps_ret (pe_cmpR op_eq (pe_callB (cr_repr (n := 8) (Nat.lt_of_le_of_lt (Nat.succ_le_succ (Nat.add_le_add_left (by decide) _)) (hu_n1 hr)) hG) (by rfl) Z.repr (by decide +kernel) (pa_cons (pe_lst (pa_cons (pv 0) pa_nil)) pa_nil)) (pe_callB (cr_repr (n := 8) (Nat.lt_of_le_of_lt (Nat.succ_le_succ (Nat.add_le_add_left (by decide) _)) (hu_n1 hr)) hG) (by rfl) Z.repr (by decide +kernel) (pa_cons (pe_lst (pa_cons (pv 1) pa_nil)) pa_nil)) (nomark _)))), ?_⟩
  have hsl := sh_list1 hs
  have hno : (PyData.list [d]).hasDict = false := by simp [PyData.hasDict, PyData.hasDictAll, hn]
  dsimp only [tRet, tOp, tCB, tCons]
  refine ⟨_, rfl, (by show 1 ≤ sizeLine; decide), fun l1 n1 => ?_⟩
  refine ⟨l1, _, rfl, Dp.lst (SqL.mk upd_same) (.cons (dp_same (Same.new n1) _ _ h1) .nil), hsl.ok, hno, hsl.size (by decide), Nat.le_trans hsl.dp (by decide), ?_⟩
  refine ⟨_, rfl, (by show 1 ≤ sizeLine; decide), fun l2 n2 => ?_⟩
  refine ⟨l2, _, rfl, Dp.lst (SqL.mk upd_same) (.cons (dp_same ((Same.new n1).trans (Same.new n2)) _ _ h2) .nil), hsl.ok, hno, hsl.size (by decide), Nat.le_trans hsl.dp (by decide), ?_⟩
  have e := q _ ((Same.new (o := .lst [v1]) n1).trans (Same.new (o := .lst [v2]) n2))
  refine ⟨rfl, ?_⟩
  rw [decide_eq_true rfl]
  exact e
end
end K80

set_option Elab.async false
set_option linter.all false
set_option maxRecDepth 100000
set_option maxHeartbeats 4000000
namespace Pg
open PySem PySem.Spec PyProof.Rows L2
/-! ### how long a command shown is -/
theorem dv_lt : ∀ (r : List Nat), (∀ c ∈ r, c ≤ 57) → NumText.digitsVal r.reverse < 10 ^ r.length
  | [], _ => by decide
  | c :: r, h => by
    have ih := dv_lt r fun d hd => h d (List.mem_cons_of_mem _ hd)
    have hc := h c (List.mem_cons_self ..)
    rw [List.reverse_cons, NumText.digitsVal_snoc, List.length_cons, Nat.pow_succ]
    omega
theorem val_lt {y : Str} (h : nbB y = true) : 0 ≤ valN y ∧ valN y < 10000000 := by
  unfold nbB at h
  rw [Bool.and_eq_true, Bool.and_eq_true, Bool.and_eq_true, decide_eq_true_iff, decide_eq_true_iff] at h
  obtain ⟨⟨⟨h1, h2⟩, h3⟩, _⟩ := h
  have := dv_lt (cs y).reverse fun c hc => by
    have := List.all_eq_true.mp h3 c (List.mem_reverse.mp hc)
    unfold dgC at this
    rw [Bool.and_eq_true, decide_eq_true_iff, decide_eq_true_iff] at this
    exact this.2
  rw [List.reverse_reverse, List.length_reverse] at this
  have h10 : 10 ^ (cs y).length ≤ 10 ^ 7 := Nat.pow_le_pow_right (by decide) h2
  unfold valN
  have : (10 : Nat) ^ 7 = 10000000 := by decide
  omega
theorem Sh.int7 {n : Int} (h0 : 0 ≤ n) (h1 : n < 10000000) : Sh 0 0 (.int n) := by
  obtain ⟨k, rfl⟩ := Int.eq_ofNat_of_zero_le h0
  have hk : k < 10000000 := by omega
  refine ⟨?_, ?_, Nat.le_refl _, Nat.le_refl _⟩
  · rw [PyData.showable]
    refine decide_eq_true ?_
    show k.log2 < 1920
    by_cases e : k = 0
    · subst e; decide
    · exact Nat.lt_of_lt_of_le ((Nat.log2_lt e).mpr (show k < 2 ^ 24 by omega)) (by decide)
  · rw [PyData.leavesShort]
    have := nm_len hk
    exact decide_eq_true (show (nmS k).length ≤ 8 by omega)
theorem Sh.asc {x : Str} {B : Nat} (h : Asc x) (hl : x.length ≤ B) : Sh 0 B (.str x) := Sh.str (fun c hc => by have := h c hc; omega) (by rw [← cs_len]; exact hl)
/-- what can be shown, without dicts -/
structure Sn (D B : Nat) (d : PyData) : Prop where
  sh : Sh D B d
  nd : PyData.hasDict d = false
structure SnA (D B : Nat) (ds : List PyData) : Prop where
  s1 : PyData.showableAll ds = true
  s2 : PyData.leavesShortAll 8 ds = true
  s3 : PyData.depthAll ds ≤ D
  s4 : PyData.bulkAll ds ≤ B
  nd : PyData.hasDictAll ds = false
theorem SnA.nil {D B : Nat} : SnA D B [] := ⟨rfl, rfl, Nat.zero_le _, Nat.zero_le _, rfl⟩
theorem SnA.cons {D B1 B2 : Nat} {d : PyData} {ds : List PyData} (h : Sn D B1 d) (t : SnA D B2 ds) : SnA D (B1 + 1 + B2) (d :: ds) :=
  ⟨by rw [PyData.showableAll, h.sh.ok, t.s1]; rfl, by rw [PyData.leavesShortAll, h.sh.sh, t.s2]; rfl, by rw [PyData.depthAll]; have := h.sh.dp; have := t.s3; omega, by rw [PyData.bulkAll]; have := h.sh.bk; have := t.s4; omega, by rw [PyData.hasDictAll, h.nd, t.nd]; rfl⟩
theorem SnA.tup {D B : Nat} {ds : List PyData} (h : SnA D B ds) : Sn (D + 1) B (.tuple ds) :=
  ⟨⟨by rw [PyData.showable]; exact h.s1, by rw [PyData.leavesShort]; exact h.s2, by rw [PyData.depth]; have := h.s3; omega, by rw [PyData.bulk]; exact h.s4⟩, by rw [PyData.hasDict]; exact h.nd⟩
theorem Sn.mono {D B D' B' : Nat} {d : PyData} (h : Sn D B d) (h1 : D ≤ D') (h2 : B ≤ B') : Sn D' B' d := ⟨h.sh.mono h1 h2, h.nd⟩
theorem SnA.mono {D B D' B' : Nat} {d : List PyData} (h : SnA D B d) (h1 : D ≤ D') (h2 : B ≤ B') : SnA D' B' d := ⟨h.s1, h.s2, Nat.le_trans h.s3 h1, Nat.le_trans h.s4 h2, h.nd⟩
theorem Sn.str {D : Nat} {x : Str} (h : Asc x) : Sn D x.length (.str x) := ⟨(Sh.asc h (Nat.le_refl _)).mono (Nat.zero_le _) (Nat.le_refl _), rfl⟩
theorem Sn.num {D B : Nat} {y : Str} (h : nbB y = true) : Sn D B (.int (valN y)) := ⟨(Sh.int7 (val_lt h).1 (val_lt h).2).mono (Nat.zero_le _) (Nat.zero_le _), rfl⟩
theorem Sn.none {D B : Nat} : Sn D B .none := ⟨⟨rfl, rfl, Nat.zero_le _, Nat.zero_le _⟩, rfl⟩
theorem tot_cons (w : Str) (ws : List Str) : tot (w :: ws) = w.length + 1 + tot ws := by
  unfold tot
  rw [List.map_cons, List.sum_cons, List.length_cons]
  omega
theorem sn_strs {D : Nat} : ∀ {ws : List Str}, (∀ p ∈ ws, Asc p) → SnA D (tot ws) (ws.map PyData.str)
  | [], _ => .nil
  | w :: ws, h => by
    rw [tot_cons]
    exact .cons (.str (h w (List.mem_cons_self ..))) (sn_strs fun p hp => h p (List.mem_cons_of_mem _ hp))
theorem sn_pairs : ∀ {ws : List Str} {ps : List PyData}, (∀ p ∈ ws, Asc p) → pairsD ws = some ps → SnA 1 (2 * tot ws) ps
  | [], ps, _, h => by
    have h : some [] = some ps := h
    cases h
    exact .nil
  | [_], _, _, h => by cases h
  | x :: y :: r, ps, ha, h => by
    unfold pairsD at h
    by_cases e : (ltB x && nbB y) = true
    · rw [if_pos e] at h
      rw [Bool.and_eq_true] at e
      cases hr : pairsD r with
      | none => rw [hr] at h; cases h
      | some p =>
        rw [hr] at h
        obtain rfl := Option.some.inj h
        have ih := sn_pairs (ws := r) (fun p hp => ha p (List.mem_cons_of_mem _ (List.mem_cons_of_mem _ hp))) hr
        have h1 : Sn 1 (x.length + 1 + (0 + 1 + 0)) (.tuple [.str x, .int (valN y)]) := SnA.tup (.cons (.str (ha x (List.mem_cons_self ..))) (.cons (.num e.2) .nil))
        refine (SnA.cons h1 ih).mono (Nat.le_refl _) ?_
        rw [tot_cons, tot_cons]
        omega
    · rw [if_neg e] at h
      cases h
theorem sn_fm : ∀ {fs : List Bool} {ws : List Str} {ds : List PyData}, (∀ p ∈ ws, Asc p) → fmD fs ws = some ds → SnA 0 (tot ws) ds
  | [], [], _, _, h => by
    have h : some [] = some _ := h
    cases h
    exact .nil
  | [], _ :: _, _, _, h => by cases h
  | true :: _, [], _, _, h => by cases h
  | false :: _, [], _, _, h => by cases h
  | b :: fs, x :: r, ds, ha, h => by
    rw [fm_cons] at h
    by_cases e : gdF b x = true
    · rw [if_pos e] at h
      cases hr : fmD fs r with
      | none => rw [hr] at h; cases h
      | some p =>
        rw [hr] at h
        obtain rfl := Option.some.inj h
        have ih := sn_fm (ws := r) (fun p hp => ha p (List.mem_cons_of_mem _ hp)) hr
        rw [tot_cons]
        refine SnA.cons ?_ ih
        cases b with
        | true => exact .str (ha x (List.mem_cons_self ..))
        | false => exact .num e
    · rw [if_neg e] at h
      cases h
theorem cmd_sn {wd : Str} {ws : List Str} (ha : ∀ p ∈ wd :: ws, Asc p) (ht : tot (wd :: ws) ≤ 701) : Sn 3 10000 (cmdD wd ws) := by
  have hw := ha wd (List.mem_cons_self ..)
  have hs : ∀ p ∈ ws, Asc p := fun p hp => ha p (List.mem_cons_of_mem _ hp)
  rw [tot_cons] at ht
  have hj : Asc (jn ws) := jn_asc hs
  have hjl := jn_tot ws
  unfold cmdD
  split
  · exact (SnA.nil.tup (D := 0) (B := 0)).mono (by decide) (by decide)
  split
  · split
    · exact .none
    · exact ((SnA.cons (D := 0) (.str hw) (.cons (.str hj) .nil)).tup (B := wd.length + 1 + ((jn ws).length + 1 + 0))).mono (by decide) (by omega)
  split
  · unfold placeD
    split
    · rename_i m t ts _
      have hm := hs m (List.mem_cons_self ..)
      have ht1 := jn_asc fun p hp => hs p (List.mem_cons_of_mem _ hp)
      have hl2 := jn_tot (t :: ts)
      have hp5 : Str.length "place" = 5 := by decide +kernel
      rw [tot_cons] at ht
      split
      · exact ((SnA.cons (D := 0) (.str (x := "place") (by unfold Asc; decide +kernel)) (.cons (.str hm) (.cons (.str ht1) .nil))).tup (B := Str.length "place" + 1 + (m.length + 1 + ((jn (t :: ts)).length + 1 + 0)))).mono (by decide) (by omega)
      · exact .none
    · exact .none
  split
  · unfold begD
    split
    · split
      · rename_i a b h1 h2
        have p1 := sn_pairs (fun p hp => hs p (List.mem_of_mem_take hp)) h1
        have p2 := sn_pairs (fun p hp => hs p (List.mem_of_mem_drop hp)) h2
        have e := congrArg tot (List.take_append_drop (ws.idxOf smc) ws)
        rw [tot_app] at e
        have e2 := tot_cut ws (ws.idxOf smc + 1) ws.length
        rw [List.take_of_length_le (by rw [List.length_drop]; omega)] at e2
        have h5 : Str.length "begin" = 5 := by decide +kernel
        exact ((SnA.cons (D := 2) (.str (x := "begin") (by unfold Asc; decide +kernel)) (.cons p1.tup (.cons p2.tup .nil))).tup (B := Str.length "begin" + 1 + (2 * tot (ws.take (ws.idxOf smc)) + 1 + (2 * tot (ws.drop (ws.idxOf smc + 1)) + 1 + 0)))).mono (by decide) (by omega)
      · exact .none
    · exact .none
  split
  · split
    · exact ((SnA.cons (D := 0) (.str hw) (sn_strs hs)).tup (B := wd.length + 1 + tot ws)).mono (by decide) (by omega)
    · exact .none
  unfold formD
  split
  · split
    · rename_i ds h
      exact ((SnA.cons (D := 0) (.str hw) (sn_fm hs h)).tup (B := wd.length + 1 + tot ws)).mono (by decide) (by omega)
    · exact .none
  · exact .none
/-- a line's data is none or a tuple -/
theorem cmd_none {K : PySem.W.Frag} {H : Hp} {v : V} {wd : Str} {ws : List Str} (h : Dp K H v (cmdD wd ws)) (hc : cmdD wd ws ≠ .none) : decide (v = V.non) = false := by
  refine decide_eq_false fun z => ?_
  subst z
  generalize cmdD wd ws = d at h hc
  cases h
  exact hc rfl
end Pg

set_option Elab.async false
set_option linter.all false
set_option maxRecDepth 100000
set_option maxHeartbeats 4000000
namespace K80
open PySem PySem.Spec PyProof.Rows L2 Pg
section
variable {P : Program} {w : World} {K : PySem.W.Frag} {mg : Str → Option Value} {base : Heap} {f : Addr} {fd : FuncData}
abbrev s_law : Stmt := top 27
abbrev N_law : List Str := ["script", "state", "k", "line", "due", "spoilt", "told"]
abbrev P_law : List Str := ["script"]
theorem sc_law : FnScope N_law P_law (defScope s_law) := ⟨rfl, rfl, rfl, by decide +kernel, rfl, by decide +kernel, by decide +kernel⟩

theorem ok_law {fS : Addr} {fdS : FuncData} (F : FnP K "law" s_law f fd) (FS : FnP K "_law_same" s_same fS fdS) (m_same : mg "_law_same" = some (.ref fS)) (G_same : FnG P w K mg base 1 fS fdS ["told", "due"] (spSam80 K)) (Z : Zs mg)
    (c_stream : Cal P w K mg base 1 "_law_stream" (spStream K) []) (c_rcm : Cal P w K mg base 5 "read_command" (spRcm K) []) (c_lgd : Cal P w K mg base 3 "_law_good" spLgd []) (c_due : Cal P w K mg base 3 "_law_due" (spDue80 K) []) (c_lsp : Cal P w K mg base 2 "_law_spoilt" (spLsp80 K) []) : FnG P w K mg base 132 f fd ["script"] (spLaw K) := by
  have kp_same := FS.kp
  have b_same : Binds K fdS ["told", "due"] [] := FS.bindsN (fun _ _ _ _ _ _ us hl => match us, hl with | [_, _], _ => rfl)
  refine mk_fng F sc_law (fun vs H Q E h => ?_) (fun cdv A outer s H vs Q hG hr h => ?_)
  · obtain ⟨a, ns, rfl, _⟩ := h
    rfl
  obtain ⟨a0, zs, rfl, hS0, h63, q⟩ := h
  refine ⟨_, (pss_cons (ps_set (i := 1) sc_law.nd rfl (by first | exact Or.inl rfl | exact Or.inr rfl) (pe_lst (pa_cons (C8.pe_c c_stream hr (by first | decide | omega) rfl (pa_cons (pv 0) pa_nil)) (pa_cons pe_int pa_nil))))
      (pss_cons (ps_if (pt_not (pt_val (pe_callG G_same hG (hr.mono (by decide)) (by rfl) m_same kp_same b_same (pa_cons (C8.pe_c c_rcm hr (by first | decide | omega) rfl (pa_cons pe_str pa_nil)) (pa_cons (pe_tup pa_nil) pa_nil))))) (pss_one (ps_ret pe_bl)) pss_nil)
      (pss_cons (ps_for PassesOwn.never rfl (pi_range1 (by rfl) Z.range (pa_cons pe_int pa_nil)) (pg_name (i := 2) sc_law.nd rfl (by first | exact Or.inl rfl | exact Or.inr rfl)) (pss_cons (ps_set (i := 3) sc_law.nd rfl (by first | exact Or.inl rfl | exact Or.inr rfl) (C8.pe_c c_lgd hr (by first | decide | omega) rfl (pa_cons (pv 1) pa_nil)))
      (pss_cons (ps_set (i := 4) sc_law.nd rfl (by first | exact Or.inl rfl | exact Or.inr rfl) (C8.pe_c c_due hr (by first | decide | omega) rfl (pa_cons (pv 3) pa_nil)))
      (pss_cons (ps_if (PW.pt (pw_or (pt_cmpR op_isN (pv 4) pe_non (nomark _)) (pw_or1 (pt_not (pt_val (pe_callG G_same hG (hr.mono (by decide)) (by rfl) m_same kp_same b_same (pa_cons (C8.pe_c c_rcm hr (by first | decide | omega) rfl (pa_cons (pv 3) pa_nil)) (pa_cons (pv 4) pa_nil)))))))) (pss_one (ps_ret pe_bl)) pss_nil)
      (pss_cons (ps_set (i := 5) sc_law.nd rfl (by first | exact Or.inl rfl | exact Or.inr rfl) (C8.pe_c c_lsp hr (by first | decide | omega) rfl (pa_cons (pv 1) (pa_cons (pv 3) pa_nil))))
      (pss_cons (ps_set (i := 4) sc_law.nd rfl (by first | exact Or.inl rfl | exact Or.inr rfl) (C8.pe_c c_due hr (by first | decide | omega) rfl (pa_cons (pv 5) pa_nil)))
      (pss_cons (ps_set (i := 6) sc_law.nd rfl (by first | exact Or.inl rfl | exact Or.inr rfl) (C8.pe_c c_rcm hr (by first | decide | omega) rfl (pa_cons (pv 5) pa_nil)))
      (pss_one (ps_if (pt_not (pt_val (pe_callG G_same hG (hr.mono (by decide)) (by rfl) m_same kp_same b_same (pa_cons (pv 6) (pa_cons (pv 4) pa_nil))))) (pss_one (ps_ret pe_bl)) pss_nil)))))))))
      (pss_one (ps_ret pe_bl))))), ?_⟩
  refine ⟨_, rfl, a0, zs, rfl, hS0, h63, fun n ns H1 nn0 sm1 hn hne hlen hin => ?_⟩
  refine ⟨(by show 2 ≤ sizeLine; decide), fun a na => ?_⟩
  have nna : n ≠ a := ne_of_none hn na
  have s0 : StA (upd H1 a (.lst [.ref n, .int 0])) a n 0 := ⟨ns, 0, upd_same, by rw [upd_ne nna]; exact hn, nna, hne, hlen, hin, Int.le_refl _, Int.le_refl _⟩
  generalize upd H1 a (.lst [.ref n, .int 0]) = Ha at s0 ⊢
  dsimp only [gName]
  have e0 : cmdD Str.empty [] = .tuple [] := by
    unfold cmdD
    rw [if_pos ⟨rfl, rfl⟩]
  have l0 : (jn [Str.empty]).length ≤ 20000 := by rw [jn_one]; decide +kernel
  refine ⟨Str.empty, [], congrArg (fun z => [V.str z]) (jn_one _).symm, fun p hp => ?_, l0, by decide, fun v1 H2 s2 d1 => ?_⟩
  · rw [List.mem_singleton.mp hp]
    exact ⟨(fun z => nomatch (show 32 ∈ ([] : List Nat) from z)), (fun c z => nomatch (show c ∈ ([] : List Nat) from z))⟩
  rw [e0] at d1
  refine ⟨(by show 0 ≤ sizeLine; decide), fun t nt => ?_⟩
  refine ⟨v1, .ref t, .tuple [], rfl, dp_same (Same.new nt) _ _ d1, .tup (SqT.mk upd_same) .nil, ((SnA.nil.tup (D := 0) (B := 0)).mono (by decide) (by decide)).sh, rfl, fun H3 s3 => ⟨_, rfl, ite2 (fun z => by cases z) (fun _ => ?_)⟩⟩
  have s30 : StA H3 a n 0 := s0.same ((s2.trans (Same.new nt)).trans s3)
  dsimp only [tNext]
  refine ⟨6, rfl, by decide, by decide, for_range (lo := 0) (n := 6) (fun i σ H' => (∃ o2 o3 o4 o5 o6 : Option V, σ = [some (.ref a0), some (.ref a), o2, o3, o4, o5, o6]) ∧ StA H' a n (210 * i))
    ⟨⟨none, none, none, none, none, rfl⟩, s30.mono (by omega)⟩ ?_ ?_⟩
  · rintro i σ H4 hi ⟨⟨o2, o3, o4, o5, o6, rfl⟩, st⟩
    refine ⟨_, rfl, a, n, _, rfl, st, by omega, fun wd ws H5 gd f5 st5 => ?_⟩
    have gl := gd.len
    have gm := gd.many
    have ht := tot_jn (wd :: ws)
    have sn := (cmd_sn (fun p hp => (gd.asc p hp).2) (show tot (wd :: ws) ≤ 701 by omega)).mono (show 3 ≤ 5 by decide) (show 10000 ≤ 100000 by decide)
    refine ⟨_, rfl, wd, ws, rfl, gd.asc, by omega, by omega, fun v H6 s6 d6 => ?_⟩
    refine ⟨_, rfl, rfl, _, rfl, ?_⟩
    rw [cmd_none d6 gd.cmd]
    refine if_of (fun z => by cases z) (fun _ => ?_)
    refine ⟨_, rfl, wd, ws, rfl, gd.asc, by omega, by omega, fun v2 H7 s7 d7 => ⟨_, rfl, v2, v, cmdD wd ws, rfl, d7, dp_same s7 _ _ d6, sn.sh, sn.nd, fun H8 s8 => ⟨_, rfl, ite2 (fun z => by cases z) (fun _ => ?_)⟩⟩⟩
    have st8 : StA H8 a n (210 * i + 200) := st5.same (s6.trans (s7.trans s8))
    refine ⟨_, rfl, _, rfl, a, n, _, jn (wd :: ws), rfl, st8, by omega, jn_asc fun p hp => (gd.asc p hp).2, gd.len, fun y H9 ya yl f9 st9 => ?_⟩
    obtain ⟨W, hne, hns, hj⟩ := line_words y
    subst hj
    have hWa := asc_inv ya
    have hWm := jn_many W
    have hWt := tot_jn W
    obtain ⟨wd2, ws2, rfl⟩ : ∃ wd2 ws2, W = wd2 :: ws2 := by
      cases W with
      | nil => exact absurd rfl hne
      | cons x r => exact ⟨x, r, rfl⟩
    rw [List.length_cons] at hWm
    have haw : AscW (wd2 :: ws2) := fun p hp => ⟨hns p hp, hWa p hp⟩
    have sn2 := (cmd_sn (fun p hp => (haw p hp).2) (show tot (wd2 :: ws2) ≤ 701 by omega)).mono (show 3 ≤ 5 by decide) (show 10000 ≤ 100000 by decide)
    refine ⟨_, rfl, wd2, ws2, rfl, haw, by omega, by omega, fun u H10 s10 d10 => ?_⟩
    refine ⟨_, rfl, wd2, ws2, rfl, haw, by omega, by omega, fun u2 H11 s11 d11 => ?_⟩
    refine ⟨_, rfl, _, rfl, u2, u, cmdD wd2 ws2, rfl, d11, dp_same s11 _ _ d10, sn2.sh, sn2.nd, fun H12 s12 => ⟨_, rfl, ite2 (fun z => by cases z) (fun _ => ?_)⟩⟩
    exact ⟨⟨_, _, _, _, _, rfl⟩, (st9.same (s10.trans (s11.trans s12))).mono (by omega)⟩
  · rintro σ H4 ⟨⟨o2, o3, o4, o5, o6, rfl⟩, st⟩
    exact q H4
end
end K80

set_option Elab.async false
set_option linter.all false
set_option maxRecDepth 100000
set_option maxHeartbeats 0
namespace K80
open PySem PySem.Spec PyProof.Rows L2 Pg LamX
def dOf (x : Str) (st : Stmt) : He.DefD := ⟨(x, none), x, x, defArgs st, defBody st, defScope st, [], []⟩
def fn : List He.DefD := [dOf "is_small_letter" (top 1), dOf "read_command" (top 7), dOf "is_letters" (top 8), dOf "is_number" (top 9), dOf "read_place" (top 10), dOf "read_begin" (top 11), dOf "read_pairs" (top 12), dOf "read_form" (top 13), dOf "_law_same" (top 15), dOf "_law_stream" (top 16), dOf "_law_next" (top 17), dOf "_law_word" (top 18), dOf "_law_number" (top 19), dOf "_law_text" (top 20), dOf "_law_good" (top 21), dOf "_law_spoilt" (top 22), dOf "_law_is_letters" (top 23), dOf "_law_is_number" (top 24), dOf "_law_pairs" (top 25), dOf "_law_due" (top 26), dOf "law" (top 27)]
def fa : List He.Fa := [.glo "is_small_letter", .glo "read_command", .glo "is_letters", .glo "is_number", .glo "read_place", .glo "read_begin", .glo "read_pairs", .glo "read_form", .glo "_law_same", .glo "_law_stream", .glo "_law_next", .glo "_law_word", .glo "_law_number", .glo "_law_text", .glo "_law_good", .glo "_law_spoilt", .glo "_law_is_letters", .glo "_law_is_number", .glo "_law_pairs", .glo "_law_due", .glo "law", .free "len", .free "abs", .free "int", .free "repr", .free "range", .free "all", .free "str", .free "tuple", .free "zip", .int "MAX_DIGITS" 7, .glo "WITH_TEXT", .glo "WITH_WORDS", .glo "FORMS"]
def ex (K : PySem.W.Frag) : Bool := He.tupB K "WITH_TEXT" (wtxt.map He.Dv.str) && (He.tupB K "WITH_WORDS" (wwrd.map He.Dv.str) && frmB K (He.ga K "FORMS"))
abbrev R : PySem.W.OpenRow := PySem.W.OpenLaw.row PySem.Challenge.rw_pergola_k80_commands_read
def tf : List He.Defn := []
def ts : List He.Tab := [(fun K => He.ga K "FORMS", ["drop", "let", "undo", "since", "rows", "row", "count", "tree"])]
abbrev hk : PySem.W.Hook := He.hookX 4 fa fn ts tf ex
def ob (s : PySem.W.SharedT) : He.AlX := He.obsX 4 fa fn ts tf ex (HandSHeadRun.getT s)
theorem ob_eq (s : PySem.W.SharedT) : ob s = hk.obs s.abs := He.obsX_eq (HandSHeadRun.getT_eq s)
/-- the world, its answer to one open question written out -/
def setW (b : Bool) (w : World) : World := { w with params := { w.params with followText := fun r => if r = "special-get-raises" then b else w.params.followText r } }
theorem setW_eq (w : World) : setW (w.params.followText "special-get-raises") w = w := by
  have e : (fun r => if r = "special-get-raises" then w.params.followText "special-get-raises" else w.params.followText r) = w.params.followText := funext fun r => by
    by_cases h : r = "special-get-raises"
    · rw [if_pos h, h]
    · rw [if_neg h]
  unfold setW
  rw [e]
theorem run_t (w : World) : HandSHeadRun.RunEq R (PySem.W.view R.prog [27]) hk ob 1000 ["is_small_letter", "MAX_DIGITS", "FORMS", "WITH_TEXT", "WITH_WORDS", "read_command", "is_letters", "is_number", "read_place", "read_begin", "read_pairs", "read_form", "_law_same", "_law_stream", "_law_next", "_law_word", "_law_number", "_law_text", "_law_good", "_law_spoilt", "_law_is_letters", "_law_is_number", "_law_pairs", "_law_due"] (setW true w) := by
  intro os
  kernel_rfl
theorem run_f (w : World) : HandSHeadRun.RunEq R (PySem.W.view R.prog [27]) hk ob 1000 ["is_small_letter", "MAX_DIGITS", "FORMS", "WITH_TEXT", "WITH_WORDS", "read_command", "is_letters", "is_number", "read_place", "read_begin", "read_pairs", "read_form", "_law_same", "_law_stream", "_law_next", "_law_word", "_law_number", "_law_text", "_law_good", "_law_spoilt", "_law_is_letters", "_law_is_number", "_law_pairs", "_law_due"] (setW false w) := by
  intro os
  kernel_rfl
theorem run (w : World) : HandSHeadRun.RunEq R (PySem.W.view R.prog [27]) hk ob 1000 ["is_small_letter", "MAX_DIGITS", "FORMS", "WITH_TEXT", "WITH_WORDS", "read_command", "is_letters", "is_number", "read_place", "read_begin", "read_pairs", "read_form", "_law_same", "_law_stream", "_law_next", "_law_word", "_law_number", "_law_text", "_law_good", "_law_spoilt", "_law_is_letters", "_law_is_number", "_law_pairs", "_law_due"] w := by
  have e := setW_eq w
  cases hb : w.params.followText "special-get-raises" with
  | true => rw [hb] at e; rw [← e]; exact run_t w
  | false => rw [hb] at e; rw [← e]; exact run_f w
theorem facts {P : Program} {w : World} {K : PySem.W.Frag} {h : Heap} {mg : Str → Option Value} {f : Addr} (X : K.In h) (GN : h.Ns mainGlobals mg) (hfa : mg ("law" : Str) = some (.ref f)) (c : He.SaysX fa fn ts tf ex w h K) :
    ∃ fd : FuncData, (∀ (s : Shared) (v : Value), BindsTo s fd ⟨[v], []⟩ [("script", v)]) ∧ ∀ base : Heap, K.In base → base.Ns mainGlobals mg → (∀ j ∈ tf.map (He.cT K), TabB base mg j.1 j.2) → FnG P w K mg base 132 f fd ["script"] (spLaw K) := by
  have cd := c.t.d
  obtain ⟨d0, F_low⟩ := cd.def_ 0 (d := dOf "is_small_letter" (top 1)) rfl
  obtain ⟨d1, F_rcm⟩ := cd.def_ 1 (d := dOf "read_command" (top 7)) rfl
  obtain ⟨d2, F_ltr⟩ := cd.def_ 2 (d := dOf "is_letters" (top 8)) rfl
  obtain ⟨d3, F_num⟩ := cd.def_ 3 (d := dOf "is_number" (top 9)) rfl
  obtain ⟨d4, F_rpl⟩ := cd.def_ 4 (d := dOf "read_place" (top 10)) rfl
  obtain ⟨d5, F_rbg⟩ := cd.def_ 5 (d := dOf "read_begin" (top 11)) rfl
  obtain ⟨d6, F_rps⟩ := cd.def_ 6 (d := dOf "read_pairs" (top 12)) rfl
  obtain ⟨d7, F_rfm⟩ := cd.def_ 7 (d := dOf "read_form" (top 13)) rfl
  obtain ⟨d8, F_same⟩ := cd.def_ 8 (d := dOf "_law_same" (top 15)) rfl
  obtain ⟨d9, F_stream⟩ := cd.def_ 9 (d := dOf "_law_stream" (top 16)) rfl
  obtain ⟨d10, F_next⟩ := cd.def_ 10 (d := dOf "_law_next" (top 17)) rfl
  obtain ⟨d11, F_word⟩ := cd.def_ 11 (d := dOf "_law_word" (top 18)) rfl
  obtain ⟨d12, F_lnm⟩ := cd.def_ 12 (d := dOf "_law_number" (top 19)) rfl
  obtain ⟨d13, F_ltx⟩ := cd.def_ 13 (d := dOf "_law_text" (top 20)) rfl
  obtain ⟨d14, F_lgd⟩ := cd.def_ 14 (d := dOf "_law_good" (top 21)) rfl
  obtain ⟨d15, F_lsp⟩ := cd.def_ 15 (d := dOf "_law_spoilt" (top 22)) rfl
  obtain ⟨d16, F_lil⟩ := cd.def_ 16 (d := dOf "_law_is_letters" (top 23)) rfl
  obtain ⟨d17, F_lin⟩ := cd.def_ 17 (d := dOf "_law_is_number" (top 24)) rfl
  obtain ⟨d18, F_lps⟩ := cd.def_ 18 (d := dOf "_law_pairs" (top 25)) rfl
  obtain ⟨d19, F_due⟩ := cd.def_ 19 (d := dOf "_law_due" (top 26)) rfl
  obtain ⟨d20, F_law⟩ := cd.def_ 20 (d := dOf "law" (top 27)) rfl
  have m_low := He.glo_ok X GN (cd.fact 0 (f := .glo "is_small_letter") rfl)
  have m_rcm := He.glo_ok X GN (cd.fact 1 (f := .glo "read_command") rfl)
  have m_ltr := He.glo_ok X GN (cd.fact 2 (f := .glo "is_letters") rfl)
  have m_num := He.glo_ok X GN (cd.fact 3 (f := .glo "is_number") rfl)
  have m_rpl := He.glo_ok X GN (cd.fact 4 (f := .glo "read_place") rfl)
  have m_rbg := He.glo_ok X GN (cd.fact 5 (f := .glo "read_begin") rfl)
  have m_rps := He.glo_ok X GN (cd.fact 6 (f := .glo "read_pairs") rfl)
  have m_rfm := He.glo_ok X GN (cd.fact 7 (f := .glo "read_form") rfl)
  have m_same := He.glo_ok X GN (cd.fact 8 (f := .glo "_law_same") rfl)
  have m_stream := He.glo_ok X GN (cd.fact 9 (f := .glo "_law_stream") rfl)
  have m_next := He.glo_ok X GN (cd.fact 10 (f := .glo "_law_next") rfl)
  have m_word := He.glo_ok X GN (cd.fact 11 (f := .glo "_law_word") rfl)
  have m_lnm := He.glo_ok X GN (cd.fact 12 (f := .glo "_law_number") rfl)
  have m_ltx := He.glo_ok X GN (cd.fact 13 (f := .glo "_law_text") rfl)
  have m_lgd := He.glo_ok X GN (cd.fact 14 (f := .glo "_law_good") rfl)
  have m_lsp := He.glo_ok X GN (cd.fact 15 (f := .glo "_law_spoilt") rfl)
  have m_lil := He.glo_ok X GN (cd.fact 16 (f := .glo "_law_is_letters") rfl)
  have m_lin := He.glo_ok X GN (cd.fact 17 (f := .glo "_law_is_number") rfl)
  have m_lps := He.glo_ok X GN (cd.fact 18 (f := .glo "_law_pairs") rfl)
  have m_due := He.glo_ok X GN (cd.fact 19 (f := .glo "_law_due") rfl)
  have e := hfa.symm.trans (He.glo_ok X GN (cd.fact 20 (f := .glo "law") rfl))
  cases e
  have b := FunD.bindsA (ps := ["script"]) F_law fun _ _ _ _ _ _ us hl => match us, hl with | [_], _ => rfl
  have Z : Zs mg := ⟨He.free_ok X GN (cd.fact 21 (f := .free "len") rfl), He.free_ok X GN (cd.fact 22 (f := .free "abs") rfl), He.free_ok X GN (cd.fact 23 (f := .free "int") rfl), He.free_ok X GN (cd.fact 24 (f := .free "repr") rfl), He.free_ok X GN (cd.fact 25 (f := .free "range") rfl), He.free_ok X GN (cd.fact 26 (f := .free "all") rfl), He.free_ok X GN (cd.fact 27 (f := .free "str") rfl), He.free_ok X GN (cd.fact 28 (f := .free "tuple") rfl), He.free_ok X GN (cd.fact 29 (f := .free "zip") rfl)⟩
  have hex : ex K = true := c.more
  obtain ⟨x1, hex⟩ := He.ba hex
  obtain ⟨x2, x3⟩ := He.ba hex
  obtain ⟨tk7, i7⟩ := He.int_ok X GN (cd.fact 30 (f := .int "MAX_DIGITS" 7) rfl)
  have G7 : ∃ u, mg "MAX_DIGITS" = some u ∧ L2.RelV (.int 7) u := ⟨_, i7, tk7, rfl⟩
  obtain ⟨es, n, KD⟩ := c.t.tab 0
  have G : GCm K w mg (He.ga K "WITH_TEXT") (He.ga K "WITH_WORDS") (He.ga K "FORMS") es n := ⟨He.glo_ok X GN (cd.fact 31 (f := .glo "WITH_TEXT") rfl), fun H => He.tupB_ok x1 H, He.glo_ok X GN (cd.fact 32 (f := .glo "WITH_WORDS") rfl), fun H => He.tupB_ok x2 H, He.glo_ok X GN (cd.fact 33 (f := .glo "FORMS") rfl), frg_of KD x3⟩
  refine ⟨d20, fun s v => b s [v] rfl, fun base _ _ tb => ?_⟩
  have c_next : Cal P w K mg base 1 "_law_next" spNext [] := ok_next F_next m_next Z
  have c_word := ok_word F_word m_word Z c_next
  have c_stream : Cal P w K mg base 1 "_law_stream" (spStream K) [] := ok_stream F_stream m_stream Z
  have c_low : Cal P w K mg base 1 "is_small_letter" spLow [] := ok_low F_low m_low Z
  have c_ltr := ok_ltr F_ltr m_ltr Z c_low
  have c_num : Cal P w K mg base 1 "is_number" spNbr [] := ok_num F_num m_num Z G7
  have c_rpl := ok_rpl F_rpl m_rpl Z c_ltr
  have c_rps := ok_rps F_rps m_rps Z c_ltr c_num
  have c_rbg := ok_rbg F_rbg m_rbg Z c_rps
  have c_rfm := ok_rfm F_rfm m_rfm Z c_ltr c_num
  have c_rcm := ok_rcm F_rcm m_rcm Z G c_ltr c_rpl c_rbg c_rfm
  have c_lil : Cal P w K mg base 1 "_law_is_letters" spLtr [] := ok_lil F_lil m_lil Z
  have c_lin : Cal P w K mg base 1 "_law_is_number" spNbr [] := ok_lin F_lin m_lin Z
  have c_lps := ok_lps F_lps m_lps Z c_lil c_lin
  have c_due := ok_due F_due m_due Z c_lil c_lin c_lps
  have c_lnm := ok_lnm F_lnm m_lnm Z c_next
  have c_ltx := ok_ltx F_ltx m_ltx Z c_next
  have c_lgd := ok_lgd F_lgd m_lgd Z c_next c_word c_lnm c_ltx
  have c_lsp := ok_lsp F_lsp m_lsp Z c_next
  have G_same := ok_same (P := P) (w := w) (mg := mg) (base := base) F_same Z
  exact ok_law F_law F_same m_same G_same Z c_stream c_rcm c_lgd c_due c_lsp
end K80
open PySem PySem.W PySem.Calls PyProof.Rows
theorem PySem.Challenge.cw_pergola_k80_commands_read_holds : PySem.Challenge.rw_pergola_k80_commands_read.Holds := by
  w_on; o_law
  refine HandSHeadRun.head_any (r := OpenLaw.row PySem.Challenge.rw_pergola_k80_commands_read) (q := view (OpenLaw.row PySem.Challenge.rw_pergola_k80_commands_read).prog [27]) (H := K80.hk) (ob := K80.ob) (M := 1000) (loose := ["is_small_letter", "MAX_DIGITS", "FORMS", "WITH_TEXT", "WITH_WORDS", "read_command", "is_letters", "is_number", "read_place", "read_begin", "read_pairs", "read_form", "_law_same", "_law_stream", "_law_next", "_law_word", "_law_number", "_law_text", "_law_good", "_law_spoilt", "_law_is_letters", "_law_is_number", "_law_pairs", "_law_due"]) (d := HandSHeadRun.topDef (OpenLaw.row PySem.Challenge.rw_pergola_k80_commands_read).prog 27) (kwd := []) K80.ob_eq
    (by kernel_rfl) (fun s => by kernel_rfl) K80.run (by kernel_rfl) (by kernel_rfl) (by kernel_rfl) (by rfl) (by first | assumption | decide +kernel) (by decide +kernel) ⟨rfl, rfl, rfl, rfl, rfl, by decide +kernel⟩ ?hw ?hc
  case hw => w_witness2
  case hc =>
    refine Att.attach_call (l := PySem.Challenge.rw_pergola_k80_commands_read) (n := 63) rfl (by kernel_rfl) fun w s₀ s₁ mg mb fa o pm cd doc a vs ns G Y ho hd hcd hmg0 hobj hints hlen hg => ?_
    obtain ⟨K, KX, c⟩ := Y
    have hmg : mg ("law" : PySem.Str) = some (.ref fa) := by
      have e : (HandSHeadRun.topDef (OpenLaw.row PySem.Challenge.rw_pergola_k80_commands_read).prog 27).name = ("law" : PySem.Str) := by kernel_rfl
      rw [← e]
      exact hmg0
    obtain ⟨fd, hb, hF⟩ := K80.facts (P := (PySem.Challenge.rw_pergola_k80_commands_read).prog) (w := w) KX G.T.g hmg c
    refine Pg.law_callTG (js := K80.tf.map (He.cT K)) KX G.T.g G.T.b G.T.builtins G.T.nolimit hg (fun j hj => ?_) G.T.bmain hobj hints (Nat.le_trans hlen (by decide)) (k := 132) ⟨rfl, by decide, by decide⟩ rfl hF hb (fun H hT hS => ⟨a, ns, rfl, hS, hlen, fun _ => rfl⟩)
    obtain ⟨p, hp, e⟩ := List.mem_map.mp hj
    subst e
    exact ⟨c.empty p hp, c.out p hp, c.hd p hp⟩

