import PyProof.Rows.All
import Wide.All
import OpenK.AllK
import Wide.FinOn
import PyProof.EqAt
import PyProof.EqKinds
import PyProof.TupleCall
import PyProof.AutoSeq1
import PyProof.SliceList
import PyProof.ReprRoads
import KE.DataCmp
import HandS.Base
import HandS.Call
import HandS.List
import HandS.Comp
import HandS.Ends
import HandS.Dict
import HandS.Iter
import HandS.Text
import HandS.Words
import HandS.WordsList
import HandS.Flow
import HandS.ForMost
import HandS.Defaults
import HandS.IsInst
import HandS.TupAny
import HandS.Rev
import HandS.Codes
import HandS.Style
import HandS.HeadEnd
import HandS.HeadHook2
import HandS.Wide
import HandS.Exc
import HandS.ExcOwn
import HandS.ExcIs
import HandS.RaiseMore
import HandS.FStr
import HandS.WordsExc
import HandS.Head0
import HandS.Head1
import HandS.Head2
import HandS.HeadHook1
import HandS.HeadHook3
import HandS.HeadHook4
import HandS.More
import PySem.Challenge.RW_pergola_k02_trees_listed_and_counted
set_option Elab.async false
set_option linter.all false
set_option maxRecDepth 100000
set_option maxHeartbeats 4000000
namespace Pg
open PySem PySem.Spec PyProof.Rows L2 PySem.SeqAt
open AutoSeq1 (wpAny_loadPart' idx_int)
open MeetsSeq MeetsSeq2 MeetsSeq3 SeqRoads2

/-! own rule: a list takes the items of a tuple -/
theorem ext_tup (l : Addr) (its : Array Value) (n : Nat) (b : Addr) (its2 : Array Value) (n2 : Nat) (dd : Option Addr) (sl : Array (Option Value))
    (hs0 : ¬(!its.isEmpty && Builtin.List.listTooLong (its.size + its2.size)) = true) (hs1 : its.size ≤ sizeLine) (hs2 : its.size + its2.size ≤ sizeLine + 1) :
    Meets (Builtin.«list.extend» ⟨[.ref l, .ref b], []⟩) (fun _ R s => s.heap.get? l = some { cls := .type "list", dict := none, data := .seq its n, slots := #[] } ∧
      s.heap.get? b = some { cls := .type "tuple", dict := dd, data := .seq its2 n2, slots := sl } ∧
      R (.ok (.ret Value.none)) { s with heap := s.heap.update l (Obj.mapSeq fun x => x ++ its2), toks := s.toks }) :=
  .of_wp fun prog w A R s h => by
    obtain ⟨hp, g, d, tk, os⟩ := s
    obtain ⟨hl, hb, h⟩ := h
    have g1 := idx_int
    have g2 := AutoSeq1.sub_tuple_tuple
    have g3 := AutoSeq1.sub_list_list
    have g4 := AutoSeq1.sub_tuple_list
    have g5 := AutoSeq1.sub_list_tuple
    have hz' : (its ++ its2).size ≤ sizeLine + 1 := by
      rw [Array.size_append]
      exact hs2
    wp_walk using (wpAny_updateSeq hl rfl (hz := hs1) (_hz' := hz')), wpAny_loadPart' hl, wpAny_loadPart' hb
    exact ⟨_, rfl, h⟩
section
variable {X : Cx}
def rExtT (K : PySem.W.Frag) : V → List V → Hp → VK → Prop := fun x vs H Q => ∃ l b xs zs, x = .ref l ∧ vs = [.ref b] ∧ H l = some (.lst xs) ∧ SqT K H b zs ∧ xs.length + zs.length ≤ sizeLine ∧ Q .non (upd H l (.lst (xs ++ zs)))
theorem mt_extT : MtM X "list.extend" (rExtT X.K) := by
  intro pins s σ H x vs v us Q I rx rv h
  obtain ⟨l, b, xs, zs, rfl, rfl, hH, hB, hz, q⟩ := h
  cases rx
  obtain ⟨u, rfl, ru⟩ := rv.one
  cases ru
  obtain ⟨z, its, n, r, hl, e⟩ := I.lstM hH
  obtain ⟨its2, r2, ⟨⟨cls, dd, data, sl⟩, ho, hc, n2, hd⟩, hz2⟩ := I.tuple hB
  simp only at hc hd
  subst hc hd
  have r2l := r2.length
  have rl := r.length
  have hsz : its.toArray.size + its2.toArray.size ≤ sizeLine := by rw [List.size_toArray, List.size_toArray]; omega
  have hlong : ¬ (!its.toArray.isEmpty && Builtin.List.listTooLong (its.toArray.size + its2.toArray.size)) = true := by rw [notLongL hsz, Bool.and_false]; exact Bool.false_ne_true
  refine call_meets F.slot_list_extend ⟨_, e, rfl⟩ F.entry_list_extend (F.args_list_extend_2 _ _)
    (ext_tup l its.toArray n b its2.toArray n2 dd sl hlong (by rw [List.size_toArray] at hsz ⊢; omega) (Nat.le_succ_of_le hsz)) ⟨e, ho, ?_⟩
  refine ⟨.non, _, I.lset (its' := its ++ its2) hH e (by simp) (r.append r2) ?_, rfl, q⟩
  rw [List.length_append]
  exact hz

/-! own rule: t[:0:-1], the parts behind the first one, from the last to the first -/
theorem down_adj (n : Nat) : Builtin.Slice.sliceAdjust none (some 0) (-1) (n : Int) = ((n : Int) - 1, if n = 0 then -1 else 0) := by
  unfold Builtin.Slice.sliceAdjust
  simp only [show ((-1 : Int) < 0) from by decide, if_true, show ¬ ((0 : Int) < 0) from by decide, if_false]
  refine Prod.ext rfl ?_
  show min (0 : Int) ((n : Int) - 1) = if n = 0 then -1 else 0
  split <;> omega
theorem down_places (n : Nat) : Builtin.Slice.slicePlaces ((n : Int) - 1) (if n = 0 then -1 else 0) (-1) = n - 1 := by
  unfold Builtin.Slice.slicePlaces
  simp only [show ¬ ((-1 : Int) > 0) from by decide, if_false, Int.neg_neg, Int.ediv_one]
  by_cases h : n = 0
  · subst h; simp
  · rw [if_neg h]
    split <;> omega
theorem down_pick (l : List Value) : ((List.range (l.length - 1)).filterMap fun (k : Nat) => l.toArray[((l.length : Int) - 1 + (k : Int) * -1).toNat]?) = (l.drop 1).reverse := by
  cases l with
  | nil => rfl
  | cons a t =>
    have e1 : (a :: t).length - 1 = t.length := rfl
    rw [e1]
    have : ∀ (m : Nat) , m ≤ t.length → ((List.range m).filterMap fun (k : Nat) => (a :: t).toArray[((((a :: t).length : Nat) : Int) - 1 + (k : Int) * -1).toNat]?) = t.reverse.take m := by
      intro m
      induction m with
      | zero => intro _; rfl
      | succ m ih =>
        intro hm
        rw [List.range_succ, List.filterMap_append, ih (by omega)]
        have ei : ((((a :: t).length : Nat) : Int) - 1 + (m : Int) * -1).toNat = (t.length - 1 - m) + 1 := by rw [List.length_cons]; omega
        have hlt : t.length - 1 - m < t.length := by omega
        have eg : (a :: t).toArray[(t.length - 1 - m) + 1]? = some (t[t.length - 1 - m]'hlt) := by simp [hlt]
        have er : t.reverse[m]? = some (t[t.length - 1 - m]'hlt) := by
          rw [List.getElem?_reverse (by omega), List.getElem?_eq_getElem hlt]
        rw [List.take_add_one, er]
        simp only [List.filterMap_cons, List.filterMap_nil, ei, eg, Option.toList_some]
    rw [this t.length (Nat.le_refl _), List.take_of_length_le (by simp)]
    rfl
theorem down_item {prog : Program} {w : World} {A : Around} {E : Value → Shared → Prop} {s : Shared} {t sl : Addr} {l : List Value} {k1 k2 : Tok} {Q : Value → Shared → Prop} (hT : IsTup s.heap t l.toArray) (hS : s.heap.IsSliceOf sl .none (.int 0 k1) (.int (-1) k2))
    (h : Q (.ref s.heap.objs.size) { s with heap := s.heap.push { cls := .type "tuple", data := .seq (l.drop 1).reverse.toArray } }) (hz : l.length ≤ sizeLine) : wpAny (model prog w) A (getItem (.ref t) (.ref sl)) Q E s := by
  have fit : sizeOk (.seq (l.drop 1).reverse.toArray) := by
    show (l.drop 1).reverse.toArray.size ≤ sizeLine
    rw [List.size_toArray, List.length_reverse, List.length_drop]
    omega
  obtain ⟨os, gs, cs, ds⟩ := id hS
  have hTs : s.TypeIs (.ref sl) "slice" := ⟨os, gs, cs⟩
  unfold getItem
  try with_reducible refine wpAny_holding ?_
  first | refine wpAny_bind (wpAny_pure ?_) | skip
  refine wpAny_bind (wpAny_sequenceKey hT.typeIs (by decide) (wpAny_bind (wpAny_callSpecial?_slot (name := Str.ofString "__getitem__") hT.typeIs PyProof.Rows.slot_tuple_getitem
    (wpAny_call_entry PyProof.Rows.slot_tuple_getitem hT.typeIs entry_tuple_getitem ?_ (args_tuple_getitem _ _)))))
  show wpAny _ _ (Builtin.Tuple.tupleItemsOf (.ref t) >>= _) _ _ s
  refine wpAny_bind (tupleItemsOf_ hT (wpAny_bind (wpAny_typeOf hTs ?_)))
  rw [if_pos (by decide)]
  have app : ∀ {Q' : Int × Int × Nat → Shared → Prop}, Q' ((l.length : Int) - 1, -1, l.length - 1) s → wpAny (model prog w) A.in1 (Builtin.Slice.sliceApplied (.ref sl) (pure ((l.toArray.size : Nat) : Int))) Q' (fun e s' => True) s → True := fun _ _ => trivial
  refine wpAny_bind ?_
  unfold Builtin.Slice.sliceApplied Builtin.Slice.sliceFields
  refine wpAny_bind (wpAny_bind (wpAny_field gs ds (x := .none) rfl (wpAny_bind (wpAny_field gs ds (x := .int 0 k1) rfl (wpAny_bind (wpAny_field gs ds (x := .int (-1) k2) rfl (wpAny_pure ?_)))))))
  refine wpAny_bind (slicePart_int ?_)
  show wpAny _ _ (if ((-1 : Int) == 0) = true then _ else _) _ _ s
  rw [if_neg (by decide)]
  refine wpAny_bind (slicePart_none (wpAny_bind (slicePart_int (wpAny_bind (wpAny_pure ?_)))))
  show wpAny _ _ (match Builtin.Slice.sliceAdjust none (some 0) (-1) ((l.toArray.size : Nat) : Int) with | (lo, hi) => pure (lo, (-1 : Int), Builtin.Slice.slicePlaces lo hi (-1))) _ _ s
  rw [List.size_toArray, down_adj l.length]
  show wpAny _ _ (pure ((l.length : Int) - 1, (-1 : Int), Builtin.Slice.slicePlaces ((l.length : Int) - 1) (if l.length = 0 then -1 else 0) (-1))) _ _ s
  rw [down_places]
  refine wpAny_pure ?_
  have hno : ¬ (((l.length : Int) - 1 == 0 && (-1 : Int) == 1 && (l.length - 1) == l.toArray.size) = true) := by
    simp
  show wpAny _ _ (if (((l.length : Int) - 1 == 0 && (-1 : Int) == 1 && (l.length - 1) == l.toArray.size) = true) then _ else _) _ _ s
  rw [if_neg hno, down_pick]
  first
    | exact wpAny_bind (m := Builtin.Tuple.tupleExact _) (wpAny_newObj_type (wpAny_pure ⟨_, rfl, wpAny_pure h⟩) fit)
    | exact wpAny_bind (m := Builtin.Tuple.tupleExact _) (wpAny_newObj_type (wpAny_bind (wpAny_pure (wpAny_pure ⟨_, rfl, wpAny_pure h⟩))) fit)
    | exact wpAny_bind (wpAny_bind (m := Builtin.Tuple.tupleExact _) (wpAny_newObj_type (wpAny_pure (wpAny_pure ⟨_, rfl, wpAny_pure h⟩)) fit))
    | exact wpAny_bind (wpAny_bind (m := Builtin.Tuple.tupleExact _) (wpAny_newObj_type (wpAny_pure ⟨_, rfl, wpAny_pure h⟩) fit))
end
end Pg

set_option Elab.async false
set_option linter.all false
set_option maxRecDepth 100000
set_option maxHeartbeats 4000000
namespace Pg
open PySem PySem.Spec PyProof.Rows L2 PySem.SeqAt
section
variable {X : Cx}
def tDown (K : PySem.W.Frag) (te : TE) : TE := fun σ H Q => te σ H fun x H1 => ∃ a xs, x = .ref a ∧ SqT K H1 a xs ∧ ∀ p, H1 p = none → Q (.ref p) (upd H1 p (.tup (xs.drop 1).reverse))
theorem pe_down {e : Expr} {te : TE} {k k0 : Nat} {p0 p1 p2 p3 pos : Pos} (he : PE X e te) :
    PE X (.Subscript e (.Slice none (some (.Constant (.int 0) k0 p0)) (some (.UnaryOp .USub (.Constant (.int 1) k p1) p2)) p3) pos) (tDown X.K te) := by
  refine ⟨fun pins s σ H Q I h => Subscript_ (thn (he.run pins s σ H _ I h) fun v s1 ⟨x, H1, I1, r1, q1⟩ => ?_)⟩
  obtain ⟨a, xs, ex, hx, q⟩ := q1
  subst ex
  cases r1
  have st1 : PO X (some (.UnaryOp .USub (.Constant (.int 1) k p1) p2)) (tPart (tUn (rU fun i => .int (-i)) (tC (.int 1)))) := po_some (pe_un un_neg pe_int)
  have st0 : PO X (some (.Constant (.int 0) k0 p0)) (tPart (tC (.int 0))) := po_some pe_int
  refine wpAny_Slice (thn (po_none.run pins s1 σ H1 (fun o H2 => o = none ∧ H2 = H1) I1 ⟨rfl, rfl⟩) fun vl s2 ⟨l, H2, I2, pl, el, e2⟩ => ?_)
  subst el e2
  refine thn (st0.run pins s2 σ H2 (fun o H3 => o = some 0 ∧ H3 = H2) I2 ⟨0, rfl, rfl, rfl⟩) fun vu s3 ⟨u, H3, I3, pu, eu, e3⟩ => ?_
  subst eu e3
  refine thn (st1.run pins s3 σ H3 (fun o H4 => o = some (-1) ∧ H4 = H3) I3 ⟨1, rfl, -1, rfl, rfl, rfl⟩) fun vs s4 ⟨o, H4, I4, ps, eo, e4⟩ => ?_
  subst eo e4
  obtain rfl : vl = .none := by cases pl; rfl
  obtain ⟨t0, rfl⟩ : ∃ t, vu = .int 0 t := by cases pu; exact ⟨_, rfl⟩
  obtain ⟨t1, rfl⟩ : ∃ t, vs = .int (-1) t := by cases ps; exact ⟨_, rfl⟩
  have I5 : Inv X pins σ H4 { s4 with heap := s4.heap.push { cls := .type "slice", data := .fields #[.none, .int 0 t0, .int (-1) t1] } } := I4.kept (t' := s4.toks) fun b ob q => Heap.get?_push_of_some _ q
  obtain ⟨its, r, ht, hz⟩ := I5.tuple hx
  have hlen := r.length
  show wpAny (model X.prog X.w) X.A (subscriptTail e (.Slice none (some (.Constant (.int 0) k0 p0)) (some (.UnaryOp .USub (.Constant (.int 1) k p1) p2)) p3) (.ref a) (.ref s4.heap.objs.size)) (EP X pins σ Q) X.xe { s4 with heap := s4.heap.push { cls := .type "slice", data := .fields #[.none, .int 0 t0, .int (-1) t1] } }
  refine tail_any (ops := [.ref a, .ref s4.heap.objs.size]) ht.typeIs (PyProof.Rows.slot_tuple_getitem.lookup) ?_ (by with_unfolding_all rfl)
  refine down_item ht (Heap.IsSliceOf.new ..) ?_ (by omega)
  refine ⟨.ref _, _, I5.laid (t' := s4.toks) (o := .tup (xs.drop 1).reverse) (fun b ob q => Heap.get?_push_of_some _ q) (Nat.le_refl _) ?_, rfl, q _ (I5.hok.fresh (Nat.le_refl _))⟩
  exact ⟨by rw [List.length_reverse, List.length_drop]; omega, _, (r.drop 1).reverse, IsTup.new _ _⟩

/-! own rules: the order of data that can be compared place by place; == of data of any depth -/
def rLtD (K : PySem.W.Frag) (n : Nat) : R2 := fun x y H Q => ∃ d e, Dp K H x d ∧ Dp K H y e ∧ PySem.W.alike d e = true ∧ d ≠ .none ∧ min d.depth e.depth ≤ n ∧ Q (.bl (PySem.W.dataLt d e)) H
theorem op_ltD {n : Nat} (hu : X.A.units + n < cLine) : OpR X (compareOp .Lt) (rLtD X.K n) := by
  intro pins s σ H x y v u Q I rx ry ⟨d, e, hd, he, al, nn, hm, q⟩
  obtain ⟨as, r1⟩ := Dp.reads I d x v hd rx
  obtain ⟨bs, r2⟩ := Dp.reads I e y u he ry
  exact PySem.W.lt_data r1 r2 al nn (by omega) ⟨.bl _, H, I, rfl, q⟩
def rGtD (K : PySem.W.Frag) (n : Nat) : R2 := fun x y H Q => ∃ d e, Dp K H x d ∧ Dp K H y e ∧ PySem.W.alike d e = true ∧ d ≠ .none ∧ min d.depth e.depth ≤ n ∧ Q (.bl (PySem.W.dataLt e d)) H
theorem op_gtD {n : Nat} (hu : X.A.units + n < cLine) : OpR X (compareOp .Gt) (rGtD X.K n) := by
  intro pins s σ H x y v u Q I rx ry ⟨d, e, hd, he, al, nn, hm, q⟩
  obtain ⟨as, r1⟩ := Dp.reads I d x v hd rx
  obtain ⟨bs, r2⟩ := Dp.reads I e y u he ry
  exact PySem.W.gt_data r1 r2 al nn (by omega) ⟨.bl _, H, I, rfl, q⟩
/-! own rule: repr of a list or tuple of data, where no repr is under way -/
def rRepr (K : PySem.W.Frag) (n : Nat) : List V → Hp → VK → Prop := fun xs H Q => ∃ (a : Addr) (d : PyData), xs = [.ref a] ∧ Dp K H (.ref a) d ∧ d.showable = true ∧ d.hasDict = false ∧ d.shown.length ≤ sizeLine ∧ d.depth ≤ n ∧ Q (.str d.shown) H
theorem cr_repr {n : Nat} (hu : X.A.units + n + 1 < cLine) (hg : X.A.guards = some []) : CallR X (.builtin "repr") (rRepr X.K n) := by
  intro pins s σ H xs us Q I r ⟨a, d, e, hd, hs, hno, hz, hn, q⟩
  subst e
  obtain ⟨u, rfl, ru⟩ := vals1 r
  obtain ⟨as, r1⟩ := Dp.reads I d (.ref a) u hd ru
  cases ru
  refine repr_of_reads' r1 hs (PyData.noDict_hsm hno) hg (by omega) (fun _ _ e => e) (fun h' w tk hk => ?_) hz
  exact ⟨.str d.shown, H, I.kept (t' := tk) hk, ⟨w, rfl⟩, q⟩
end

/-! ### promises of defs that run where no repr is under way -/
structure FnG (P : Program) (w : World) (K : PySem.W.Frag) (mg : Str → Option Value) (base : Heap) (k : Nat) (f : Addr) (fd : FuncData) (ps : List Str) (sp : Sp) : Prop where
  len : ∀ vs H Q E, sp vs H Q E → vs.length = ps.length
  run : ∀ (A : Around) (outer : List Env) (s : Shared) (H : Hp) (args : Args) (us : List Value) (vs : List V) (Q : VK), A.guards = some [] → Room k A → Env0 P w K mg base A outer s H → BindsTo s fd args (ps.zip us) → Vals vs us →
    sp vs H Q E0 → codeAny (model P w) A (.call (.ref f) args) (CR CX0 outer P w H s Q E0) s
section
variable {P : Program} {w : World} {K : PySem.W.Frag} {mg : Str → Option Value} {base : Heap}
theorem fng_of {k : Nat} {f : Addr} {name qual : Str} {params : Arguments} {body : List Stmt} {scope : Scope} {dV kV doc pm cdv ct oc : Value} {an od : Option Addr} {osl : Array (Option Value)} {N ps : List Str} {sp : Sp}
    (lk : K.lookup f = some ⟨oc, od, .func (PySem.W.fnOf name qual params body scope dV kV doc pm an cdv ct), osl⟩) (hcd : PySem.W.codeIn K cdv qual = true) (S : FnScope N ps scope) (len : ∀ vs H Q E, sp vs H Q E → vs.length = ps.length)
    (hbody : ∀ (A : Around) (outer : List Env) (s : Shared) (H : Hp) (vs : List V) (Q : VK), (A.deeper (envOfC qual scope s.heap.objs.size f cdv)).guards = some [] → Room k (A.deeper (envOfC qual scope s.heap.objs.size f cdv)) → sp vs H Q E0 →
      ∃ t, PSs (cxOf CX0 P w K mg base N qual scope f cdv A outer s H E0).nox body t ∧ t { nx := fun _ H' => Q .non H', rt := Q } (start N vs) H) :
    FnG P w K mg base (k + 1) f (PySem.W.fnOf name qual params body scope dV kV doc pm an cdv ct) ps sp := by
  refine ⟨len, fun A outer s H args us vs Q hgd room env bind rv hsp => ?_⟩
  have KX : K.In s.heap := env.mod.kin.keeps fun b o e => (env.bs b o e).1
  have lim : s.heap.NoLimit := env.mod.nolimit.keeps fun b o e => (env.bs b o e).1
  have kinds : ∀ y ∈ ps.zip us, scope.names.lookup y.1 = some .local ∨ (scope.names.lookup y.1 = some .cell ∧ ((cellsFrom (s.heap.objs.size + 1) scope.names []).lookup y.1).isSome = true) := fun ⟨n, v⟩ hy =>
    (S.par n (List.of_mem_zip hy).1).imp_right fun q => ⟨q, PySem.W.cellsFrom_some _ _ _ (.inl q)⟩
  refine codeAny_call_function room.depth (KX _ _ lk) rfl S.co S.gen rfl (PySem.W.codeRec_of KX hcd) (bind _ _ _ _ (wpAny_newFunctionEnv_cells S.kind kinds fun ev he s1 x => ?_))
  subst he
  refine ⟨lim.keeps x.toInCall.keep, codeAny_func ?_⟩
  obtain ⟨t, ht, hq⟩ := hbody A outer s H vs Q hgd (room.deeper _) hsp
  have I := inv_start (CX := CX0) (E := E0) S room.hd env (len _ _ _ _ hsp) rv x
  refine wpAny_mono (ht.nox.run [] s1 (start N vs) H _ I hq) (fun fl s' hs => ?_) fun e s' hs => hs
  cases fl with
  | ret u => obtain ⟨v, σ', H', J, rv, q⟩ := hs; exact ⟨v, H', J.os, J.bare, J.base, J.hok, rv, q⟩
  | next => obtain ⟨σ', H', J, q⟩ := hs; exact ⟨V.non, H', J.os, J.bare, J.base, J.hok, rfl, q⟩
  | brk => obtain ⟨_, _, _, q⟩ := hs; exact q.elim
  | cont => obtain ⟨_, _, _, q⟩ := hs; exact q.elim
end
section
variable {X : Cx} {k : Nat} {f : Addr} {fd : FuncData} {ps : List Str} {sp : Sp} {x : Str} {p pos : Pos} {e : Expr} {es : List Expr} {t : TA}
theorem pe_callG (F : FnG X.prog X.w X.K X.mg X.base k f fd ps sp) (hG : X.A.guards = some []) (hr : Room k X.A) (hg : Gl X x) (hm : X.mg x = some (.ref f)) (hk : PySem.W.keepIn X.K (.ref f) = true) (hb : Binds X.K fd ps [])
    (ha : PA X (e :: es) t) (hdb : (x == ("__debug__" : Str)) = false := by decide) (he : starEach (e :: es) X.env = (false, eval e X.env) :: starEach es X.env := by rfl) (hpl : (backTo pos (starEach es X.env)).any (·.1) = false := by rfl) :
    PE X (.Call (.Name x p) (e :: es) [] pos) (tCall sp [] E0 t) := by
  refine ⟨fun pins s σ H Q I h => wpAny_Call_Name_kw (ld_glob I hg hm ?_ hdb)⟩
  refine PySem.W.callWith_K (h₀ := X.base) I.ok.mod.kin hk (thn (ha.run pos pins s σ H _ I h) fun us s1 ⟨vs, H1, I1, r, q⟩ => ⟨I1.kIn, ?_⟩) he hpl
  have q : sp vs H1 Q E0 := by
    have q' : sp (vs ++ []) H1 Q E0 := q
    rw [List.append_nil] at q'
    exact q'
  have hl : (us ++ []).length = ps.length := by rw [List.append_nil, ← r.length]; exact F.len _ _ _ _ q
  have hb' := hb s1 us I1.kIn hl
  rw [List.append_nil] at hb'
  show wpAny _ _ (call (Value.ref f) us) _ _ s1
  refine wpAny_call (codeAny_mono (F.run X.A X.stack s1 H1 ⟨us, []⟩ us vs Q hG hr I1.env0 hb' r q) fun r s' hq => ?_)
  cases r with
  | error e => exact (show False from hq).elim
  | ok fl =>
    cases fl with
    | ret u => exact I1.after hq
    | next => exact False.elim hq
    | brk => exact False.elim hq
    | cont => exact False.elim hq
end
end Pg

set_option Elab.async false
set_option linter.all false
set_option maxRecDepth 100000
set_option maxHeartbeats 4000000
namespace Pg
open PySem PySem.Spec PyProof.Rows L2

/-! ### a def of the text, called by its name -/
abbrev FnP (K : PySem.W.Frag) (x : Str) (st : Stmt) (f : Addr) (fd : FuncData) : Prop := FunD K x x (defArgs st) (defBody st) (defScope st) [] [] f fd
abbrev Cal := @C8.Cal
theorem mk_cal {P : Program} {w : World} {K : PySem.W.Frag} {mg : Str → Option Value} {base : Heap} {x : Str} {st : Stmt} {f : Addr} {fd : FuncData} {N ps : List Str} {k : Nat} {sp : Sp} (F : FnP K x st f fd) (hm : mg x = some (.ref f)) (S : FnScope N ps (defScope st))
    (hb : ∀ (kV doc pm : Value) (an : Option Addr) (cdv ct : Value) (us : List Value), us.length = ps.length → bindArgs (PySem.W.fnOf x x (defArgs st) (defBody st) (defScope st) .none kV doc pm an cdv ct) ⟨us, []⟩ = pure (ps.zip us))
    (len : ∀ vs H Q E, sp vs H Q E → vs.length = ps.length)
    (body : ∀ (cdv : Value) (A : Around) (outer : List Env) (s : Shared) (H : Hp) (vs : List V) (Q : VK) (E : XK), Room k (A.deeper (envOfC x (defScope st) s.heap.objs.size f cdv)) → sp vs H Q E →
      ∃ t, PSs (cxOf CX0 P w K mg base N x (defScope st) f cdv A outer s H E).nox (defBody st) t ∧ t { nx := fun _ H' => Q .non H', rt := Q } (start N vs) H) : Cal P w K mg base (k + 1) x sp [] :=
  ⟨f, fd, ps, [], F.ok S len (fun cdv A outer s H vs Q E hr h => let ⟨t, a, b⟩ := body cdv A outer s H vs Q E hr h; ⟨t, a.nox, b⟩), hm, F.kp, F.bindsN hb, .nil⟩
/-- a weaker promise, more room -/
theorem cal_imp {P : Program} {w : World} {K : PySem.W.Frag} {mg : Str → Option Value} {base : Heap} {x : Str} {k j : Nat} {sp sp' : Sp} {dv : List V} (c : Cal P w K mg base k x sp dv) (hk : k ≤ j) (h : ∀ vs H Q E, sp' vs H Q E → sp vs H Q E) : Cal P w K mg base j x sp' dv := by
  obtain ⟨f, fd, ps, ds, a, b, c, d, e⟩ := c.ex
  exact ⟨f, fd, ps, ds, (a.mono hk).imp h, b, c, d, e⟩
/-- no call with this promise -/
theorem cal_none {P : Program} {w : World} {K : PySem.W.Frag} {mg : Str → Option Value} {base : Heap} {x : Str} {k : Nat} {sp sp' : Sp} {dv : List V} (c : Cal P w K mg base k x sp' dv) (h : ∀ vs H Q E, ¬ sp vs H Q E) : Cal P w K mg base 0 x sp dv := by
  obtain ⟨f, fd, ps, ds, a, b, c, d, e⟩ := c.ex
  exact ⟨f, fd, ps, ds, ⟨fun vs H Q E q => absurd q (h vs H Q E), fun A outer s H args us vs Q E _ _ _ _ q => absurd q (h vs H Q E)⟩, b, c, d, e⟩

/-! ### what is kept -/
/-- all but the object at a -/
def Fr (a : Addr) (H H' : Hp) : Prop := ∀ b o, b ≠ a → H b = some o → H' b = some o
/-- tuples are kept -/
def TK (K : PySem.W.Frag) (H H' : Hp) : Prop := ∀ p xs, SqT K H p xs → SqT K H' p xs
section
variable {K : PySem.W.Frag} {H H1 H2 : Hp} {a p : Addr} {o : HO} {xs ys : List V}
theorem Fr.refl : Fr a H H := fun _ _ _ h => h
theorem Fr.trans (f : Fr a H H1) (g : Fr a H1 H2) : Fr a H H2 := fun b o n h => g b o n (f b o n h)
theorem Fr.of (s : Same H H1) : Fr a H H1 := fun b o _ h => s b o h
theorem Same.new (h : H p = none) : Same H (upd H p o) := fun b u q => by rw [upd_ne (ne_of_none q h)]; exact q
theorem Same.mut (h : H p = none) (s : Same H H1) : Same H (upd H1 p o) := fun b u q => by rw [upd_ne (ne_of_none q h)]; exact s b u q
theorem Fr.new (h : H p = none) : Fr a H (upd H p o) := .of (Same.new h)
theorem Fr.own : Fr a H (upd H a o) := fun b u n q => by rw [upd_ne n]; exact q
theorem Fr.mut (f : Fr a H H1) (h : H p = none) : Fr a H (upd H1 p o) := fun b u n q => by rw [upd_ne (ne_of_none q h)]; exact f b u n q
theorem TK.refl : TK K H H := fun _ _ h => h
theorem TK.trans (f : TK K H H1) (g : TK K H1 H2) : TK K H H2 := fun p xs h => g p xs (f p xs h)
theorem TK.same (s : Same H H1) : TK K H H1 := fun p xs h => by
  rcases h with (h | ⟨o, h⟩) | h
  · exact .inl (.inl (s _ _ h))
  · exact .inl (.inr ⟨o, s _ _ h⟩)
  · exact .inr h
theorem TK.fr (f : Fr a H H1) (hl : H a = some (.lst xs)) : TK K H H1 := fun p ys h => by
  rcases h with (h | ⟨o, h⟩) | h
  · exact .inl (.inl (f _ _ (ne_of h hl (by intro z; cases z)) h))
  · exact .inl (.inr ⟨o, f _ _ (ne_of h hl (by intro z; cases z)) h⟩)
  · exact .inr h
theorem TK.new (h : H p = none) : TK K H (upd H p o) := .same (Same.new h)
theorem TK.put (h : H p = some (.lst xs)) : TK K H (upd H p o) := .fr Fr.own h
theorem SqT.mk (h : H p = some (.tup xs)) : SqT K H p xs := .inl (.inl h)
theorem SqL.mk (h : H p = some (.lst xs)) : SqL K H p xs := .inl (.inl h)
theorem Fr.seq (f : Fr a H H1) (n : p ≠ a) (h : SqL K H p xs) : SqL K H1 p xs := by
  rcases h with (h | ⟨o, h⟩) | h
  · exact .inl (.inl (f _ _ n h))
  · exact .inl (.inr ⟨o, f _ _ n h⟩)
  · exact .inr h
theorem Fr.free (f : Fr a H H1) (h : H1 p = none) (n : p ≠ a) : H p = none := by
  cases q : H p with
  | none => rfl
  | some o => rw [f p o n q] at h; cases h
theorem same_free (s : Same H H1) (h : H1 p = none) : H p = none := s.free h
end

/-! ### the law's stream of numbers: state[0] a list of numbers below 1009 at n, state[1] how many were taken, at most m -/
structure StA (H : Hp) (a n : Addr) (m : Int) : Prop where
  ex : ∃ (ns : List Int) (c : Int), H a = some (.lst [.ref n, .int c]) ∧ H n = some (.lst (ns.map V.int)) ∧ n ≠ a ∧ ns ≠ [] ∧ ns.length ≤ 4000 ∧ (∀ x ∈ ns, 0 ≤ x ∧ x < 1009) ∧ 0 ≤ c ∧ c ≤ m
section
variable {K : PySem.W.Frag} {H H1 H2 : Hp} {a p n : Addr} {o : HO} {xs ys : List V} {m m' : Int}
theorem StA.mono (s : StA H a n m) (h : m ≤ m') : StA H a n m' := by
  obtain ⟨ns, c, h1, h2, h3, h4, h5, h6, h7, h8⟩ := s.ex
  exact ⟨ns, c, h1, h2, h3, h4, h5, h6, h7, by omega⟩
theorem StA.same (s : StA H a n m) (e : Same H H1) : StA H1 a n m := by
  obtain ⟨ns, c, h1, h2, h3, h4, h5, h6, h7, h8⟩ := s.ex
  exact ⟨ns, c, e _ _ h1, e _ _ h2, h3, h4, h5, h6, h7, h8⟩
theorem StA.at (s : StA H a n m) : ∃ xs, H a = some (.lst xs) := let ⟨ns, c, h1, _⟩ := s.ex; ⟨_, h1⟩
theorem StA.tk (s : StA H a n m) (f : Fr a H H1) : TK K H H1 := let ⟨_, h⟩ := s.at; TK.fr f h
theorem StA.ne (s : StA H a n m) (h : H p = none) : p ≠ a ∧ p ≠ n := by
  obtain ⟨ns, c, h1, h2, _⟩ := s.ex
  exact ⟨(ne_of_none h1 h).symm, (ne_of_none h2 h).symm⟩
theorem StA.put (s : StA H a n m) (h : p ≠ a ∧ p ≠ n) : StA (upd H p o) a n m := by
  obtain ⟨ns, c, h1, h2, h3, h4, h5, h6, h7, h8⟩ := s.ex
  exact ⟨ns, c, by rw [upd_ne h.1.symm]; exact h1, by rw [upd_ne h.2.symm]; exact h2, h3, h4, h5, h6, h7, h8⟩
theorem StA.new (s : StA H a n m) (h : H p = none) : StA (upd H p o) a n m := s.same (Same.new h)
theorem StA.free (s : StA H a n m) (f : Fr a H H1) (s1 : StA H1 a n m') (h : H1 p = none) : H p = none := f.free h (s1.ne h).1
end
/-- the promise of the law's next(state, many): some number below many; one more is taken -/
def spNext : Sp := fun vs H Q _ => ∃ (a n : Addr) (many m : Int), vs = [.ref a, .int many] ∧ 1 ≤ many ∧ StA H a n m ∧ m < 1000000 ∧ ∀ (r : Int) (H' : Hp), 0 ≤ r → r < many → Fr a H H' → StA H' a n (m + 1) → Q (.int r) H'

/-! ### terms and signs -/
inductive Tr where
  | nm (x : Str) | c0 (s : Str) | c1 (s : Str) (t : Tr) | c2 (s : Str) (t u : Tr)
def Tr.size : Tr → Nat
  | .nm _ => 1
  | .c0 _ => 1
  | .c1 _ t => 1 + t.size
  | .c2 _ t u => 1 + t.size + u.size
def Tr.dep : Tr → Nat
  | .nm _ => 1
  | .c0 _ => 1
  | .c1 _ t => 1 + t.dep
  | .c2 _ t u => 1 + max t.dep u.dep
theorem Tr.size_pos : ∀ t : Tr, 1 ≤ t.size
  | .nm _ => Nat.le_refl _
  | .c0 _ => Nat.le_refl _
  | .c1 _ t => by show 1 ≤ 1 + t.size; omega
  | .c2 _ t u => by show 1 ≤ 1 + t.size + u.size; omega
theorem Tr.dep_pos : ∀ t : Tr, 1 ≤ t.dep
  | .nm _ => Nat.le_refl _
  | .c0 _ => Nat.le_refl _
  | .c1 _ t => by show 1 ≤ 1 + t.dep; omega
  | .c2 _ t u => by show 1 ≤ 1 + max t.dep u.dep; omega
theorem Tr.dep_le : ∀ t : Tr, t.dep ≤ t.size
  | .nm _ => Nat.le_refl _
  | .c0 _ => Nat.le_refl _
  | .c1 _ t => by have := t.dep_le; show 1 + t.dep ≤ 1 + t.size; omega
  | .c2 _ t u => by have := t.dep_le; have := u.dep_le; show 1 + max t.dep u.dep ≤ 1 + t.size + u.size; omega
/-- the value v is the term -/
def TrAt (K : PySem.W.Frag) (H : Hp) : Tr → V → Prop
  | .nm x, v => v = .str x
  | .c0 s, v => ∃ p, v = .ref p ∧ SqT K H p [.str s]
  | .c1 s t, v => ∃ p u, v = .ref p ∧ SqT K H p [.str s, u] ∧ TrAt K H t u
  | .c2 s t t', v => ∃ p u u', v = .ref p ∧ SqT K H p [.str s, u, u'] ∧ TrAt K H t u ∧ TrAt K H t' u'
theorem TrAt.keep {K : PySem.W.Frag} {H H' : Hp} (k : TK K H H') : ∀ {t : Tr} {v : V}, TrAt K H t v → TrAt K H' t v
  | .nm _, _, h => h
  | .c0 _, _, ⟨p, e, q⟩ => ⟨p, e, k _ _ q⟩
  | .c1 _ _, _, ⟨p, u, e, q, r⟩ => ⟨p, u, e, k _ _ q, TrAt.keep k r⟩
  | .c2 _ _ _, _, ⟨p, u, u', e, q, r, r'⟩ => ⟨p, u, u', e, k _ _ q, TrAt.keep k r, TrAt.keep k r'⟩
abbrev Sg := List (Str × Int)
/-- the tuple of pairs at p -/
structure SgAt (K : PySem.W.Frag) (H : Hp) (p : Addr) (sg : Sg) : Prop where
  ex : ∃ rs : List Addr, SqT K H p (rs.map V.ref) ∧ Paired (fun r (s : Str × Int) => SqT K H r [.str s.1, .int s.2]) rs sg
theorem Paired.imp2 {α β : Type} {F G : α → β → Prop} (h : ∀ a b, F a b → G a b) : ∀ {xs : List α} {ys : List β}, Paired F xs ys → Paired G xs ys
  | _, _, .nil => .nil
  | _, _, .cons a t => .cons (h _ _ a) (Paired.imp2 h t)
theorem SgAt.keep {K : PySem.W.Frag} {H H' : Hp} {p : Addr} {sg : Sg} (k : TK K H H') (h : SgAt K H p sg) : SgAt K H' p sg := by
  obtain ⟨rs, a, b⟩ := h.ex
  exact ⟨rs, k _ _ a, Paired.imp2 (fun _ _ q => k _ _ q) b⟩
theorem paired_get {α β : Type} {F : α → β → Prop} : ∀ {xs : List α} {ys : List β} {i : Nat} {x : α}, Paired F xs ys → xs[i]? = some x → ∃ y, ys[i]? = some y ∧ F x y
  | _, _, _, _, .nil, e => by simp at e
  | _, _, 0, _, .cons r _, e => by simp at e; subst e; exact ⟨_, rfl, r⟩
  | _, _, i + 1, x, .cons _ t, e => by
    obtain ⟨u, h1, h2⟩ := paired_get (i := i) (x := x) t (by simpa using e)
    exact ⟨u, by simpa using h1, h2⟩
theorem paired_get2 {α β : Type} {F : α → β → Prop} : ∀ {xs : List α} {ys : List β} {i : Nat} {y : β}, Paired F xs ys → ys[i]? = some y → ∃ x, xs[i]? = some x ∧ F x y
  | _, _, _, _, .nil, e => by simp at e
  | _, _, 0, _, .cons r _, e => by simp at e; subst e; exact ⟨_, rfl, r⟩
  | _, _, i + 1, y, .cons _ t, e => by
    obtain ⟨u, h1, h2⟩ := paired_get2 (i := i) (y := y) t (by simpa using e)
    exact ⟨u, by simpa using h1, h2⟩
end Pg

set_option Elab.async false
set_option linter.all false
set_option maxRecDepth 100000
set_option maxHeartbeats 4000000
namespace Pg
open PySem PySem.Spec PyProof.Rows L2
/-! ### texts by their signs -/
abbrev cs (x : Str) : List Nat := x.cps.toList
theorem cs_app (x y : Str) : cs (x ++ y) = cs x ++ cs y := TL.tl_append x y
theorem cs_len (x : Str) : x.length = (cs x).length := by simp [Str.length, cs]
theorem cs_one (c : Nat) : cs (⟨#[c]⟩ : Str) = [c] := rfl
theorem cs_inj {x y : Str} (h : cs x = cs y) : x = y := TL.ext_tl h
/-! ### the law's words -/
def Ab (w : Str) : Prop := 1 ≤ (cs w).length ∧ (cs w).length ≤ 8 ∧ ∀ c ∈ cs w, c = 97 ∨ c = 98 ∨ c = 121 ∨ c = 122
def Wd (i : Nat) (w : Str) : Prop := Ab w ∨ (i < 26 ∧ cs w = [99, 97 + i])
structure Wds (ts : List Str) : Prop where
  nd : ts.Nodup
  wd : ∀ i t, ts[i]? = some t → Wd i t
theorem Wd.len {i : Nat} {w : Str} (h : Wd i w) : w.length ≤ 8 := by
  rw [cs_len]
  rcases h with h | ⟨_, h⟩
  · exact h.2.1
  · rw [h]; exact (by show 2 ≤ 8; decide)
theorem Wds.fresh {ts : List Str} {w : Str} (h : Wds ts) (e : cs w = [99, 97 + ts.length]) : w ∉ ts := fun hm => by
  obtain ⟨i, hi, q⟩ := List.getElem_of_mem hm
  have e1 : ts[i]? = some w := by rw [List.getElem?_eq_getElem hi, q]
  rcases h.wd i w e1 with ⟨_, _, z⟩ | ⟨_, z⟩
  · have := z 99 (by rw [e]; exact List.mem_cons_self ..)
    omega
  · rw [e] at z
    have := (List.cons.inj (List.cons.inj z).2).1
    omega
theorem Wds.snoc {ts : List Str} {w : Str} (h : Wds ts) (n : w ∉ ts) (d : Wd ts.length w) : Wds (ts ++ [w]) where
  nd := List.nodup_append.mpr ⟨h.nd, by simp, fun a ha b hb e => by
    rw [List.mem_singleton] at hb
    subst hb e
    exact n ha⟩
  wd := fun i t q => by
    by_cases hi : i < ts.length
    · rw [List.getElem?_append_left hi] at q
      exact h.wd i t q
    · rw [List.getElem?_append_right (by omega)] at q
      cases hk : i - ts.length with
      | zero =>
        rw [hk] at q
        have e : w = t := by simpa using q
        subst e
        rw [show i = ts.length by omega]
        exact d
      | succ k => rw [hk] at q; simp at q
theorem Wds.nil : Wds [] := ⟨List.nodup_nil, fun i t q => by simp at q⟩
theorem inV_strs (w : Str) (ts : List Str) : inV (.str w) (ts.map V.str) = decide (w ∈ ts) := by
  induction ts with
  | nil => rfl
  | cons t ts ih =>
    show ((t == w) || inV (.str w) (ts.map V.str)) = _
    rw [ih]
    by_cases e : t = w
    · subst e; simp
    · have e2 : (t == w) = false := beq_eq_false_iff_ne.mpr e
      have e3 : ¬ w = t := fun z => e z.symm
      rw [e2, Bool.false_or]
      simp [e3]
theorem flat_strs (ts : List Str) : (ts.map V.str).all flatV = true := by
  induction ts with
  | nil => rfl
  | cons t ts ih => exact ih
/-- some word that is not among ts is made; at most ten numbers are taken -/
def spWord (K : PySem.W.Frag) : Sp := fun vs H Q _ => ∃ (a n l : Addr) (ts : List Str) (m : Int), vs = [.ref a, .ref l] ∧ StA H a n m ∧ m < 900000 ∧ H l = some (.lst (ts.map V.str)) ∧ l ≠ a ∧ Wds ts ∧ ts.length < 26 ∧
  ∀ (w : Str) (H' : Hp), w ∉ ts → Wd ts.length w → Fr a H H' → StA H' a n (m + 10) → Q (.str w) H'
/-! ### the law's signs -/
structure GSg (sg : Sg) : Prop where
  len : 1 ≤ sg.length ∧ sg.length ≤ 4
  nd : (sg.map (·.1)).Nodup
  ar : ∀ s ∈ sg, 0 ≤ s.2 ∧ s.2 ≤ 2
  c0 : ∃ s ∈ sg, s.2 = 0
  wd : ∀ s ∈ sg, ∃ i, Wd i s.1
abbrev SgR (K : PySem.W.Frag) (H : Hp) (rs : List Addr) (sg : Sg) : Prop := Paired (fun r (s : Str × Int) => SqT K H r [.str s.1, .int s.2]) rs sg
theorem paired_app {α β : Type} {F : α → β → Prop} : ∀ {xs : List α} {ys : List β} {zs : List α} {ws : List β}, Paired F xs ys → Paired F zs ws → Paired F (xs ++ zs) (ys ++ ws)
  | _, _, _, _, .nil, h => h
  | _, _, _, _, .cons a t, h => .cons a (paired_app t h)
theorem paired_take {α β : Type} {F : α → β → Prop} : ∀ {xs : List α} {ys : List β} (n : Nat), Paired F xs ys → Paired F (xs.take n) (ys.take n)
  | _, _, 0, _ => .nil
  | _, _, _ + 1, .nil => .nil
  | _, _, n + 1, .cons a t => .cons a (paired_take n t)
theorem paired_drop {α β : Type} {F : α → β → Prop} : ∀ {xs : List α} {ys : List β} (n : Nat), Paired F xs ys → Paired F (xs.drop n) (ys.drop n)
  | _, _, 0, h => h
  | _, _, _ + 1, .nil => .nil
  | _, _, n + 1, .cons _ t => paired_drop n t
theorem paired_len {α β : Type} {F : α → β → Prop} {xs : List α} {ys : List β} (h : Paired F xs ys) : xs.length = ys.length := Paired.length h
theorem SgR.keep {K : PySem.W.Frag} {H H' : Hp} {rs : List Addr} {sg : Sg} (k : TK K H H') (h : SgR K H rs sg) : SgR K H' rs sg := Paired.imp2 (fun _ _ q => k _ _ q) h
theorem cutV_drop (xs : List V) (k : Nat) : cutV xs (some (k : Int)) none = xs.drop k := by
  unfold cutV
  rw [HT.sIx_nat, HT.sIx_none]
  by_cases h : k ≤ xs.length
  · rw [Nat.min_eq_left h, List.take_of_length_le (by rw [List.length_drop]; exact Nat.le_refl _)]
  · rw [Nat.min_eq_right (by omega), List.drop_eq_nil_of_le (Nat.le_refl _), List.drop_eq_nil_of_le (by omega)]
    simp
theorem cutV_take (xs : List V) (k : Nat) : cutV xs none (some (k : Int)) = xs.take k := by
  unfold cutV
  rw [HT.sIx_nat, HT.sIx_none, List.drop_zero, Nat.sub_zero]
  by_cases h : k ≤ xs.length
  · rw [Nat.min_eq_left h]
  · rw [Nat.min_eq_right (by omega), List.take_of_length_le (Nat.le_refl _), List.take_of_length_le (by omega)]
theorem GSg.rot {sg : Sg} (g : GSg sg) (k : Nat) : GSg (sg.drop k ++ sg.take k) := by
  have p : (sg.drop k ++ sg.take k).Perm sg := List.perm_append_comm.trans (by rw [List.take_append_drop])
  exact ⟨by rw [p.length_eq]; exact g.len, ((p.map _).nodup_iff).mpr g.nd, fun s h => g.ar s (p.mem_iff.mp h), let ⟨s, h, e⟩ := g.c0; ⟨s, p.mem_iff.mpr h, e⟩, fun s h => g.wd s (p.mem_iff.mp h)⟩
/-- [sign for sign, arity in ..] over a list or a tuple of pairs -/
theorem take_snoc {α : Type} {xs : List α} {i : Nat} {x : α} (h : xs[i]? = some x) : xs.take (i + 1) = xs.take i ++ [x] := by
  rw [List.take_add_one, h]
  rfl
def FstInv (H : Hp) (D : Addr) (sg : Sg) (i : Nat) (H' : Hp) : Prop := Same H H' ∧ H' D = some (.lst ((sg.take i).map fun s => V.str s.1))
section
variable {K : PySem.W.Frag} {σ : L2.St} {H : Hp} {Q : VK} {p : Addr} {rs : List Addr} {sg : Sg} {j1 j2 : Nat} {te : TE}
theorem yes_turn {σ : L2.St} {H : Hp} {F G : Hp → Prop} (h : F H) : tYes σ H fun b H3 => if b = true then F H3 else G H3 := by
  show (if true = true then F H else G H)
  rw [if_pos rfl]
  exact h
theorem fst_turn {D : Addr} {i : Nat} {x : V} {H' : Hp} (nD : H D = none) (pr : SgR K H rs sg) (h4 : sg.length ≤ 1000) (hw : ∀ x y, wipe (((wipe σ [j1, j2]).set j1 (some x)).set j2 (some y)) [j1, j2] = wipe σ [j1, j2])
    (hv : ∀ x y, (((wipe σ [j1, j2]).set j1 (some x)).set j2 (some y))[j1]? = some (some x)) (hx : (rs.map V.ref)[i]? = some x) (iv : FstInv H D sg i H') :
    gTup K 2 (gCons (gName j1) (gCons (gName j2) gNil)) x (wipe σ [j1, j2]) H' fun σ2 H2 => wipe σ2 [j1, j2] = wipe σ [j1, j2] ∧ tYes σ2 H2 fun b H3 =>
      if b = true then tVar j1 σ2 H3 fun y H4 => ∃ acc, H4 D = some (.lst acc) ∧ acc.length < sizeLine ∧ FstInv H D sg (i + 1) (upd H4 D (.lst (acc ++ [y]))) else FstInv H D sg (i + 1) H3 := by
  rw [List.getElem?_map] at hx
  cases e : rs[i]? with
  | none => rw [e] at hx; cases hx
  | some r =>
    rw [e] at hx
    obtain rfl : V.ref r = x := Option.some.inj hx
    obtain ⟨s, es, hr⟩ := paired_get pr e
    obtain ⟨sm, hd⟩ := iv
    refine ⟨r, _, rfl, TK.same sm _ _ hr, rfl, _, _, rfl, _, _, rfl, rfl, hw _ _, ?_⟩
    refine yes_turn ⟨_, hv _ _, _, hd, ?_, ?_, ?_⟩
    · rw [List.length_map, List.length_take]
      exact small1000 (by omega)
    · exact Same.mut nD sm
    · show upd H' D _ D = _
      rw [upd_same, take_snoc es, List.map_append]
      rfl
theorem rd_fstL {i : Nat} (hi : σ[i]? = some (some (.ref p))) (hS : SqL K H p (rs.map V.ref)) (pr : SgR K H rs sg) (h4 : sg.length ≤ 1000) (hw : ∀ x y, wipe (((wipe σ [j1, j2]).set j1 (some x)).set j2 (some y)) [j1, j2] = wipe σ [j1, j2])
    (hv : ∀ x y, (((wipe σ [j1, j2]).set j1 (some x)).set j2 (some y))[j1]? = some (some x)) (h : ∀ D H', H D = none → Same H H' → H' D = some (.lst ((sg.map (·.1)).map V.str)) → Q (.ref D) H') :
    tLc (iList K (tVar i)) (gTup K 2 (gCons (gName j1) (gCons (gName j2) gNil))) tYes (tVar j1) [j1, j2] σ H Q := by
  refine ⟨_, hi, p, rfl, ⟨_, hS⟩, fun D nD => lc_list (K := K) (xs := rs.map V.ref) (FstInv H D sg) ⟨Same.new nD, upd_same⟩ (fun i H' _ iv => iv.1.seq hS) (fun i x H' hx iv => fst_turn nD pr h4 hw hv hx iv) (fun H' iv => ?_)⟩
  obtain ⟨sm, hd⟩ := iv
  rw [List.length_map, paired_len pr, List.take_length] at hd
  exact h D H' nD sm (by rw [List.map_map]; exact hd)
theorem rd_fstT {i : Nat} (hi : σ[i]? = some (some (.ref p))) (hS : SqT K H p (rs.map V.ref)) (pr : SgR K H rs sg) (h4 : sg.length ≤ 1000) (hw : ∀ x y, wipe (((wipe σ [j1, j2]).set j1 (some x)).set j2 (some y)) [j1, j2] = wipe σ [j1, j2])
    (hv : ∀ x y, (((wipe σ [j1, j2]).set j1 (some x)).set j2 (some y))[j1]? = some (some x)) (h : ∀ D H', H D = none → Same H H' → H' D = some (.lst ((sg.map (·.1)).map V.str)) → Q (.ref D) H') :
    tLc (iTup K (tVar i)) (gTup K 2 (gCons (gName j1) (gCons (gName j2) gNil))) tYes (tVar j1) [j1, j2] σ H Q := by
  refine ⟨_, hi, p, rfl, ⟨_, hS⟩, fun D nD => lc_tup (K := K) (xs := rs.map V.ref) (FstInv H D sg) ⟨Same.new nD, upd_same⟩ (fun i H' _ iv => TK.same iv.1 _ _ hS) (fun i x H' hx iv => fst_turn nD pr h4 hw hv hx iv) (fun H' iv => ?_)⟩
  obtain ⟨sm, hd⟩ := iv
  rw [List.length_map, paired_len pr, List.take_length] at hd
  exact h D H' nD sm (by rw [List.map_map]; exact hd)
end
/-- many signs are made -/
def spSigns (K : PySem.W.Frag) : Sp := fun vs H Q _ => ∃ (a n : Addr) (many m : Int), vs = [.ref a, .int many] ∧ StA H a n m ∧ m < 800000 ∧ 1 ≤ many ∧ many ≤ 4 ∧
  ∀ (p : Addr) (sg : Sg) (H' : Hp), SgAt K H' p sg → GSg sg → Fr a H H' → StA H' a n (m + 50) → Q (.ref p) H'
/-- the stream of a script's numbers -/
def InR (ns : List Int) : Prop := ∀ x ∈ ns, 0 ≤ x ∧ x < 1009
theorem InR.snoc {ns : List Int} {x : Int} (h : InR ns) (h0 : 0 ≤ x) (h1 : x < 1009) : InR (ns ++ [x]) := fun y hy => by
  rcases List.mem_append.mp hy with h' | h'
  · exact h y h'
  · rw [List.mem_singleton] at h'
    rw [h']
    exact ⟨h0, h1⟩
def spStream (K : PySem.W.Frag) : Sp := fun vs H Q _ => ∃ (a : Addr) (zs : List Int), vs = [.ref a] ∧ SqL K H a (zs.map V.int) ∧ zs.length ≤ 63 ∧
  ∀ (p : Addr) (ns : List Int) (H' : Hp), H p = none → Same H H' → H' p = some (.lst (ns.map V.int)) → ns ≠ [] → ns.length ≤ 4000 → InR ns → Q (.ref p) H'
theorem mod_in (x : Int) : 0 ≤ x % 1009 ∧ x % 1009 < 1009 := ⟨Int.emod_nonneg _ (by decide), Int.emod_lt_of_pos _ (by decide)⟩
/-! ### tests whose answer is known -/
def TV (tc : TT) (σ : L2.St) (H : Hp) (b : Bool) : Prop := ∀ Q : Bool → Hp → Prop, Q b H → tc σ H Q
section
variable {t u : TT} {σ : L2.St} {H : Hp} {a b : Bool}
theorem TV.and (h : TV t σ H a) (k : TV u σ H b) : TV (tAnd t u) σ H (a && b) := fun Q q => h _ (by
  cases a with
  | false => rw [if_neg Bool.false_ne_true]; exact q
  | true => rw [if_pos rfl]; exact k Q q)
theorem TV.or (h : TV t σ H a) (k : TV u σ H b) : TV (tOr t u) σ H (a || b) := fun Q q => h _ (by
  cases a with
  | true => rw [if_pos rfl]; exact q
  | false => rw [if_neg Bool.false_ne_true]; exact k Q q)
theorem TV.not (h : TV t σ H a) : TV (tNot t) σ H (!a) := fun Q q => h _ q
theorem TV.ifs {T U : TS} {D : Ends} (h : TV t σ H b) (ht : b = true → T D σ H) (hu : b = false → U D σ H) : tIfS t T U D σ H := h _ (by
  cases b with
  | true => rw [if_pos rfl]; exact ht rfl
  | false => rw [if_neg Bool.false_ne_true]; exact hu rfl)
theorem TV.ite {F G : Hp → Prop} (h : TV t σ H b) (ht : b = true → F H) (hu : b = false → G H) : t σ H fun b H3 => if b = true then F H3 else G H3 := h _ (by
  cases b with
  | true => rw [if_pos rfl]; exact ht rfl
  | false => rw [if_neg Bool.false_ne_true]; exact hu rfl)
end
/-! ### terms over signs -/
def Wf (sg : Sg) (nms : List Str) : Tr → Prop
  | .nm x => x ∈ nms
  | .c0 s => (s, 0) ∈ sg
  | .c1 s t => (s, 1) ∈ sg ∧ Wf sg nms t
  | .c2 s t u => (s, 2) ∈ sg ∧ Wf sg nms t ∧ Wf sg nms u
theorem mem_ar {sg : Sg} {s : Str × Int} {k : Int} (h : s ∈ sg) (e : s.2 = k) : (s.1, k) ∈ sg := by
  subst e
  exact h
theorem mk_none {P : Program} {w : World} {K : PySem.W.Frag} {mg : Str → Option Value} {base : Heap} {x : Str} {st : Stmt} {f : Addr} {fd : FuncData} {ps : List Str} {k : Nat} {sp : Sp} (F : FnP K x st f fd) (hm : mg x = some (.ref f))
    (hb : ∀ (kV doc pm : Value) (an : Option Addr) (cdv ct : Value) (us : List Value), us.length = ps.length → bindArgs (PySem.W.fnOf x x (defArgs st) (defBody st) (defScope st) .none kV doc pm an cdv ct) ⟨us, []⟩ = pure (ps.zip us))
    (h : ∀ vs H Q E, ¬ sp vs H Q E) : Cal P w K mg base k x sp [] :=
  ⟨f, fd, ps, [], ⟨fun vs H Q E q => absurd q (h vs H Q E), fun A outer s H args us vs Q E _ _ _ _ q => absurd q (h vs H Q E)⟩, hm, F.kp, F.bindsN hb, .nil⟩
/-- a term of at most room signs and names is made -/
def spTerm (K : PySem.W.Frag) (lvl : Nat) : Sp := fun vs H Q _ => ∃ (a n g l : Addr) (sg : Sg) (nms : List Str) (room m : Int), vs = [.ref a, .ref g, .ref l, .int room] ∧ StA H a n m ∧ m + 3 * room < 700000 ∧ SgAt K H g sg ∧ GSg sg ∧
  SqL K H l (nms.map V.str) ∧ l ≠ a ∧ nms.length ≤ 1000 ∧ 1 ≤ room ∧ room.toNat ≤ lvl ∧
  ∀ (v : V) (t : Tr) (H' : Hp), TrAt K H' t v → Wf sg nms t → t.size ≤ room.toNat → Fr a H H' → StA H' a n (m + 3 * room) → Q v H'
/-- some of the pairs are taken over into the new list at D -/
def PickInv (K : PySem.W.Frag) (H : Hp) (D : Addr) (sg : Sg) (C Z : Str × Int → Prop) (i : Nat) (H' : Hp) : Prop :=
  Same H H' ∧ ∃ (rs : List Addr) (sg' : Sg), H' D = some (.lst (rs.map V.ref)) ∧ SgR K H' rs sg' ∧ sg'.length ≤ i ∧ (∀ s ∈ sg', s ∈ sg ∧ C s) ∧ (∀ s ∈ sg.take i, Z s → sg' ≠ [])
section
variable {K : PySem.W.Frag} {σ : L2.St} {H : Hp} {Q : VK} {p : Addr} {rs : List Addr} {sg : Sg} {j : Nat} {te : TE} {tt : TT} {C Z : Str × Int → Prop}
/-- [one for one in signs if ..]: of each pair the test tells b; it is taken over if b; C is what is known then -/
theorem rd_pick {i : Nat} (hi : σ[i]? = some (some (.ref p))) (hS : SqT K H p (rs.map V.ref)) (pr : SgR K H rs sg) (h4 : sg.length ≤ 1000) (hw : ∀ x, wipe ((wipe σ [j]).set j (some x)) [j] = wipe σ [j]) (hv : ∀ x, ((wipe σ [j]).set j (some x))[j]? = some (some x))
    (htt : ∀ (r : Addr) (s : Str × Int) (H' : Hp), SqT K H' r [.str s.1, .int s.2] → s ∈ sg → ∃ b, TV tt ((wipe σ [j]).set j (some (.ref r))) H' b ∧ (b = true → C s) ∧ (b = false → ¬ Z s))
    (h : ∀ D H' rs' sg', H D = none → Same H H' → H' D = some (.lst (rs'.map V.ref)) → SgR K H' rs' sg' → sg'.length ≤ sg.length → (∀ s ∈ sg', s ∈ sg ∧ C s) → (∀ s ∈ sg, Z s → sg' ≠ []) → Q (.ref D) H') :
    tLc (iTup K (tVar i)) (gName j) tt (tVar j) [j] σ H Q := by
  refine ⟨_, hi, p, rfl, ⟨_, hS⟩, fun D nD => lc_tup (K := K) (xs := rs.map V.ref) (PickInv K H D sg C Z)
    ⟨Same.new nD, [], [], upd_same, .nil, Nat.le_refl _, (fun _ h => absurd h List.not_mem_nil), (fun s h => by rw [List.take_zero] at h; exact absurd h List.not_mem_nil)⟩ (fun i H' _ iv => TK.same iv.1 _ _ hS) (fun i x H' hx iv => ?_) (fun H' iv => ?_)⟩
  · rw [List.getElem?_map] at hx
    cases e : rs[i]? with
    | none => rw [e] at hx; cases hx
    | some r =>
      rw [e] at hx
      obtain rfl : V.ref r = x := Option.some.inj hx
      obtain ⟨s, es, hr⟩ := paired_get pr e
      obtain ⟨sm, rs', sg', hd, pr', hl, hc, hz⟩ := iv
      have hil : i < sg.length := (List.getElem?_eq_some_iff.mp es).1
      have hs : s ∈ sg := List.mem_of_getElem? es
      have hr' : SqT K H' r [.str s.1, .int s.2] := TK.same sm _ _ hr
      obtain ⟨b, tv, h1, h2⟩ := htt r s H' hr' hs
      refine ⟨hw _, tv.ite (fun e => ?_) (fun e => ?_)⟩
      · have hlen : (rs'.map V.ref).length < sizeLine := by rw [List.length_map, paired_len pr']; exact small1000 (by omega)
        refine ⟨_, hv _, _, hd, hlen, Same.mut nD sm, rs' ++ [r], sg' ++ [s], by rw [List.map_append]; exact upd_same, ?_, by rw [List.length_append, List.length_singleton]; omega, fun t ht => ?_, fun t _ _ => by simp⟩
        · exact SgR.keep (TK.put hd) (paired_app pr' (.cons hr' .nil))
        · rcases List.mem_append.mp ht with q | q
          · exact hc t q
          · rw [List.mem_singleton] at q
            subst q
            exact ⟨hs, h1 e⟩
      · refine ⟨sm, rs', sg', hd, pr', by omega, hc, fun t ht hC => ?_⟩
        rw [take_snoc es] at ht
        rcases List.mem_append.mp ht with q | q
        · exact hz t q hC
        · rw [List.mem_singleton] at q
          subst q
          exact absurd hC (h2 e)
  · obtain ⟨sm, rs', sg', hd, pr', hl, hc, hz⟩ := iv
    rw [List.length_map, paired_len pr] at hl hz
    rw [List.take_length] at hz
    exact h D H' rs' sg' nD sm hd pr' hl hc hz
end
end Pg

set_option Elab.async false
set_option linter.all false
set_option maxRecDepth 100000
set_option maxHeartbeats 4000000
namespace Pg
open PySem PySem.Spec PyProof.Rows L2
/-! ### trees: terms without names -/
def Pl : Tr → Prop
  | .nm _ => False
  | .c0 _ => True
  | .c1 _ t => Pl t
  | .c2 _ t u => Pl t ∧ Pl u
def Tr.sym : Tr → Str
  | .nm x => x
  | .c0 s => s
  | .c1 s _ => s
  | .c2 s _ _ => s
def Tr.kids : Tr → List Tr
  | .nm _ => []
  | .c0 _ => []
  | .c1 _ t => [t]
  | .c2 _ t u => [t, u]
theorem Wf.pl {sg : Sg} : ∀ {t : Tr}, Wf sg [] t → Pl t
  | .nm _, h => absurd h List.not_mem_nil
  | .c0 _, _ => trivial
  | .c1 _ t, h => Wf.pl (t := t) h.2
  | .c2 _ t u, h => ⟨Wf.pl (t := t) h.2.1, Wf.pl (t := u) h.2.2⟩
theorem Pl.kid {t k : Tr} (h : Pl t) (m : k ∈ t.kids) : Pl k := by
  cases t with
  | nm x => exact absurd m List.not_mem_nil
  | c0 s => exact absurd m List.not_mem_nil
  | c1 s t => rw [show (Tr.c1 s t).kids = [t] from rfl, List.mem_singleton] at m; rw [m]; exact h
  | c2 s t u =>
    rcases List.mem_cons.mp (show k ∈ [t, u] from m) with e | e
    · rw [e]; exact h.1
    · rw [List.mem_singleton] at e; rw [e]; exact h.2
theorem Wf.kid {sg : Sg} {nms : List Str} {t k : Tr} (h : Wf sg nms t) (m : k ∈ t.kids) : Wf sg nms k := by
  cases t with
  | nm x => exact absurd m List.not_mem_nil
  | c0 s => exact absurd m List.not_mem_nil
  | c1 s t => rw [show (Tr.c1 s t).kids = [t] from rfl, List.mem_singleton] at m; rw [m]; exact h.2
  | c2 s t u =>
    rcases List.mem_cons.mp (show k ∈ [t, u] from m) with e | e
    · rw [e]; exact h.2.1
    · rw [List.mem_singleton] at e; rw [e]; exact h.2.2
theorem Wf.sym {sg : Sg} {t : Tr} (h : Wf sg [] t) : (t.sym, (t.kids.length : Int)) ∈ sg := by
  cases t with
  | nm x => exact absurd h List.not_mem_nil
  | c0 s => exact h
  | c1 s t => exact h.1
  | c2 s t u => exact h.1
theorem Tr.dep_kid {t k : Tr} (m : k ∈ t.kids) : k.dep + 1 ≤ t.dep := by
  cases t with
  | nm x => exact absurd m List.not_mem_nil
  | c0 s => exact absurd m List.not_mem_nil
  | c1 s t => rw [show (Tr.c1 s t).kids = [t] from rfl, List.mem_singleton] at m; rw [m]; show t.dep + 1 ≤ 1 + t.dep; omega
  | c2 s t u =>
    show k.dep + 1 ≤ 1 + max t.dep u.dep
    rcases List.mem_cons.mp (show k ∈ [t, u] from m) with e | e
    · rw [e]; omega
    · rw [List.mem_singleton] at e; rw [e]; omega
theorem Tr.kids_le (t : Tr) : t.kids.length ≤ 2 := by cases t <;> first | exact Nat.zero_le _ | exact Nat.le_refl _ | exact Nat.le_succ _
theorem Tr.size_kids (t : Tr) : (t.size : Int) = 1 + (t.kids.map fun k => (k.size : Int)).sum := by
  cases t with
  | nm x => rfl
  | c0 s => rfl
  | c1 s t =>
    show ((1 + t.size : Nat) : Int) = 1 + ((t.size : Int) + 0)
    omega
  | c2 s t u =>
    show ((1 + t.size + u.size : Nat) : Int) = 1 + ((t.size : Int) + ((u.size : Int) + 0))
    omega
theorem paired_eq {α β : Type} {g : β → α} : ∀ {xs : List α} {ys : List β}, Paired (fun v k => v = g k) xs ys → xs = ys.map g
  | _, _, .nil => rfl
  | _, _, .cons a t => by rw [List.map_cons, ← a, ← paired_eq t]
theorem at0 {α : Type} (x : α) (us : List α) : atI (x :: us) 0 = some x := atI_nat (j := 0) rfl
abbrev KidsAt (K : PySem.W.Frag) (H : Hp) (us : List V) (ks : List Tr) : Prop := Paired (fun u k => TrAt K H k u) us ks
theorem KidsAt.keep {K : PySem.W.Frag} {H H' : Hp} {us : List V} {ks : List Tr} (k : TK K H H') (h : KidsAt K H us ks) : KidsAt K H' us ks := Paired.imp2 (fun _ _ q => TrAt.keep k q) h
theorem TrAt.open_ {K : PySem.W.Frag} {H : Hp} {t : Tr} {v : V} (hp : Pl t) (h : TrAt K H t v) : ∃ p us, v = .ref p ∧ SqT K H p (.str t.sym :: us) ∧ KidsAt K H us t.kids := by
  cases t with
  | nm x => exact hp.elim
  | c0 s => obtain ⟨p, e, q⟩ := h; exact ⟨p, [], e, q, .nil⟩
  | c1 s t => obtain ⟨p, u, e, q, r⟩ := h; exact ⟨p, [u], e, q, .cons r .nil⟩
  | c2 s t t' => obtain ⟨p, u, u', e, q, r, r'⟩ := h; exact ⟨p, [u, u'], e, q, .cons r (.cons r' .nil)⟩
theorem TrAt.mk {K : PySem.W.Frag} {H : Hp} {t : Tr} {p : Addr} {us : List V} (hp : Pl t) (q : SqT K H p (.str t.sym :: us)) (r : KidsAt K H us t.kids) : TrAt K H t (.ref p) := by
  cases t with
  | nm x => exact hp.elim
  | c0 s => cases r; exact ⟨p, rfl, q⟩
  | c1 s t =>
    cases r with
    | cons a b => cases b; exact ⟨p, _, rfl, q, a⟩
  | c2 s t t' =>
    cases r with
    | cons a b =>
      cases b with
      | cons c d => cases d; exact ⟨p, _, _, rfl, q, a, c⟩
section
variable {K : PySem.W.Frag} {σ : L2.St} {H : Hp} {Q : VK} {p q : Addr} {us : List V} {ks : List Tr} {j : Nat} {te : TE} {x : V}
/-- t[1:] of a tree's tuple -/
theorem tail_no {x : V} {us : List V} {A : Prop} (z : HT.sIx (x :: us).length 0 (some 1) = 0 ∧ HT.sIx (x :: us).length (x :: us).length none = (x :: us).length) : A := by
  have := HT.sIx_nat (x :: us).length 0 1
  rw [show ((1 : Nat) : Int) = 1 from rfl, z.1, List.length_cons] at this
  omega
theorem tail_cut (x : V) (us : List V) : cutV (x :: us) (some 1) none = us := cutV_drop (x :: us) 1
/-- [f(part) for part in ..] over a tree's parts, f changes nothing that stands; R tells of each part what f hands back -/
theorem rd_kids {wi : TI} (hwi : ∀ R, (∀ q H1, Same H H1 → SqT K H1 q us → R (Itt K q) H1) → wi σ H R) (R : Hp → V → Tr → Prop) (mono : ∀ H H' v k, TK K H H' → R H v k → R H' v k) (pr : KidsAt K H us ks) (hlen : ks.length ≤ 1000)
    (hw : ∀ x, wipe ((wipe σ [j]).set j (some x)) [j] = wipe σ [j])
    (ht : ∀ u k H', k ∈ ks → Same H H' → TrAt K H' k u → ∀ Q', (∀ v H2, Same H' H2 → R H2 v k → Q' v H2) → te ((wipe σ [j]).set j (some u)) H' Q')
    (h : ∀ D H' ws, H D = none → Same H H' → H' D = some (.lst ws) → Paired (R H') ws ks → Q (.ref D) H') : tLc wi (gName j) tYes te [j] σ H Q := by
  refine hwi _ (fun q H1 s1 hS D nD => ?_)
  have nD0 : H D = none := same_free s1 nD
  refine lc_tup (K := K) (xs := us) (fun i H' => Same H1 H' ∧ ∃ ws, H' D = some (.lst ws) ∧ Paired (R H') ws (ks.take i)) ⟨Same.new nD, [], upd_same, .nil⟩ (fun i H' _ iv => TK.same iv.1 _ _ hS) (fun i x H' hx iv => ?_) (fun H' iv => ?_)
  · obtain ⟨sm, ws, hd, hr⟩ := iv
    obtain ⟨k, ek, hk⟩ := paired_get pr hx
    have hlt : i < ks.length := (List.getElem?_eq_some_iff.mp ek).1
    refine ⟨hw _, yes_turn ?_⟩
    refine ht x k H' (List.mem_of_getElem? ek) (s1.trans sm) (TrAt.keep (TK.same (s1.trans sm)) hk) _ (fun v H2 s2 r2 => ?_)
    have hd2 := s2 _ _ hd
    refine ⟨ws, hd2, by rw [paired_len hr, List.length_take]; exact small1000 (by omega), Same.mut nD (sm.trans s2), ws ++ [v], upd_same, ?_⟩
    rw [take_snoc ek]
    exact paired_app (Paired.imp2 (fun _ _ r => mono _ _ _ _ ((TK.same s2).trans (TK.put hd2)) r) hr) (.cons (mono _ _ _ _ (TK.put hd2) r2) .nil)
  · obtain ⟨sm, ws, hd, hr⟩ := iv
    rw [paired_len pr, List.take_length] at hr
    exact h D H' ws nD0 (s1.trans sm) hd hr
/-- part in t[1:] -/
theorem it_tail {i : Nat} (hi : σ[i]? = some (some (.ref p))) (hS : SqT K H p (x :: us)) : ∀ R, (∀ q H1, Same H H1 → SqT K H1 q us → R (Itt K q) H1) → iTup K (tSl (rSlA K) (tVar i) (tPart (tC (.int 1))) tNoPart) σ H R := fun R h =>
  ⟨_, hi, 1, rfl, p, _, rfl, hS, fun z => tail_no z, fun _ q nq => by
    rw [tail_cut]
    exact ⟨q, rfl, ⟨_, SqT.mk upd_same⟩, h q _ (Same.new nq) (SqT.mk upd_same)⟩⟩
end
/-! ### what the law's own walks tell of a tree -/
/-- the size -/
def spSize (K : PySem.W.Frag) (d : Nat) : Sp := fun vs H Q _ => ∃ (v : V) (t : Tr), vs = [v] ∧ TrAt K H t v ∧ Pl t ∧ t.dep ≤ d ∧ ∀ H', Same H H' → Q (.int t.size) H'
/-- a copy -/
def spCopy (K : PySem.W.Frag) (d : Nat) : Sp := fun vs H Q _ => ∃ (v : V) (t : Tr), vs = [v] ∧ TrAt K H t v ∧ Pl t ∧ t.dep ≤ d ∧ ∀ v' H', Same H H' → TrAt K H' t v' → Q v' H'
def place (sg : Sg) (s : Str) : Nat := (sg.map (·.1)).idxOf s
/-- the key of a tree, as data -/
def keyD (sg : Sg) : Tr → PyData
  | .nm _ => .none
  | .c0 s => .tuple [.int 1, .int (place sg s)]
  | .c1 s t => .tuple [.int (Tr.c1 s t).size, .int (place sg s), keyD sg t]
  | .c2 s t u => .tuple [.int (Tr.c2 s t u).size, .int (place sg s), keyD sg t, keyD sg u]
theorem keyD_eq (sg : Sg) {t : Tr} (h : Pl t) : keyD sg t = .tuple (.int t.size :: .int (place sg t.sym) :: t.kids.map (keyD sg)) := by
  cases t with
  | nm x => exact h.elim
  | c0 s => rfl
  | c1 s t => rfl
  | c2 s t u => rfl
theorem key_keep {K : PySem.W.Frag} {H H' : Hp} (k : TK K H H') (sg : Sg) : ∀ (t : Tr) (v : V), Pl t → Dp K H v (keyD sg t) → Dp K H' v (keyD sg t)
  | .nm _, _, h, _ => h.elim
  | .c0 s, v, _, h => by
    have h : Dp K H v (.tuple [.int 1, .int (place sg s)]) := h
    show Dp K H' v (.tuple [.int 1, .int (place sg s)])
    cases h with
    | tup hs ha =>
      cases ha with
      | cons a b => cases a; cases b with
        | cons c d => cases c; cases d; exact .tup (k _ _ hs) (.cons (.int _) (.cons (.int _) .nil))
  | .c1 s t, v, hp, h => by
    have h : Dp K H v (.tuple [.int (Tr.c1 s t).size, .int (place sg s), keyD sg t]) := h
    show Dp K H' v (.tuple [.int (Tr.c1 s t).size, .int (place sg s), keyD sg t])
    cases h with
    | tup hs ha =>
      cases ha with
      | cons a b => cases a; cases b with
        | cons c d => cases c; cases d with
          | cons e f => cases f; exact .tup (k _ _ hs) (.cons (.int _) (.cons (.int _) (.cons (key_keep k sg t _ hp e) .nil)))
  | .c2 s t u, v, hp, h => by
    have h : Dp K H v (.tuple [.int (Tr.c2 s t u).size, .int (place sg s), keyD sg t, keyD sg u]) := h
    show Dp K H' v (.tuple [.int (Tr.c2 s t u).size, .int (place sg s), keyD sg t, keyD sg u])
    cases h with
    | tup hs ha =>
      cases ha with
      | cons a b => cases a; cases b with
        | cons c d => cases c; cases d with
          | cons e f => cases f with
            | cons g i => cases i; exact .tup (k _ _ hs) (.cons (.int _) (.cons (.int _) (.cons (key_keep k sg t _ hp.1 e) (.cons (key_keep k sg u _ hp.2 g) .nil))))
def spKey (K : PySem.W.Frag) (d : Nat) : Sp := fun vs H Q _ => ∃ (g : Addr) (sg : Sg) (v : V) (t : Tr), vs = [.ref g, v] ∧ SgAt K H g sg ∧ GSg sg ∧ TrAt K H t v ∧ Wf sg [] t ∧ t.dep ≤ d ∧ ∀ v' H', Same H H' → Dp K H' v' (keyD sg t) → Q v' H'
/-- the place of a word among the signs' -/
theorem place_at {sg : Sg} {s : Str} (h : s ∈ sg.map (·.1)) : place sg s < sg.length ∧ ((sg.map (·.1)).map V.str)[place sg s]? = some (.str s) ∧ ∀ (m : Nat) (z : V), m < place sg s → ((sg.map (·.1)).map V.str)[m]? = some z → eqV z (.str s) = false := by
  have h1 : (sg.map (·.1)).idxOf s < (sg.map (·.1)).length := List.idxOf_lt_length_iff.mpr h
  refine ⟨by rw [List.length_map] at h1; exact h1, ?_, fun m z hm e => ?_⟩
  · show ((sg.map (·.1)).map V.str)[(sg.map (·.1)).idxOf s]? = _
    rw [List.getElem?_map, List.getElem?_eq_getElem h1]
    show some (V.str ((sg.map (·.1))[(sg.map (·.1)).idxOf s])) = _
    rw [List.getElem_idxOf]
  · rw [List.getElem?_map] at e
    have hm' : m < (sg.map (·.1)).length := Nat.lt_trans hm h1
    rw [List.getElem?_eq_getElem hm'] at e
    obtain rfl : V.str ((sg.map (·.1))[m]) = z := Option.some.inj e
    have hne : (sg.map (·.1))[m] ≠ s := fun q => by
      have hm2 : m < (sg.map (·.1)).findIdx (· == s) := hm
      have := List.not_of_lt_findIdx hm2
      simp [q] at this
    exact beq_eq_false_iff_ne.mpr hne
end Pg

set_option Elab.async false
set_option linter.all false
set_option maxRecDepth 100000
set_option maxHeartbeats 4000000
namespace Pg
open PySem PySem.Spec PyProof.Rows L2
section
variable {X : Cx} {c : Expr} {t : TT}
/-- a test, with a word of one's own behind it -/
def tMid (t : TT) : TT := fun σ H Q => ∃ M : Bool → Hp → Prop, t σ H M ∧ ∀ b H', M b H' → Q b H'
theorem pt_mid (h : PT X c t) : PT X c (tMid t) := ⟨fun pins s σ H Q I ⟨M, hm, hq⟩ => thn (h.run pins s σ H M I hm) fun b s1 ⟨H1, I1, q⟩ => ⟨H1, I1, hq b H1 q⟩⟩
/-- a while over tests whose answer is known; the measure falls -/
theorem while_tv {tc : TT} {tb : TS} {D : Ends} {σ : L2.St} {H : Hp} (Pv : Nat → L2.St → Hp → Prop) (h0 : ∃ m, Pv m σ H)
    (hs : ∀ m σ H, Pv m σ H → ∃ b, TV tc σ H b ∧ (b = true → tb { D with nx := fun σ' H' => ∃ m', m' < m ∧ Pv m' σ' H', ct := fun σ' H' => ∃ m', m' < m ∧ Pv m' σ' H', bk := D.nx } σ H) ∧ (b = false → D.nx σ H)) : tWhile tc tb D σ H := by
  refine ⟨Pv, h0, fun m σ H p => ?_⟩
  obtain ⟨b, tv, h1, h2⟩ := hs m σ H p
  refine tv _ ?_
  cases b with
  | true => rw [if_pos rfl]; exact ⟨_, fun _ _ h => h, h1 rfl⟩
  | false => rw [if_neg Bool.false_ne_true]; exact h2 rfl
end
section
variable {K : PySem.W.Frag} {H : Hp} {Q : VK} {a b p : Addr} {xs ys : List V}
theorem rd_catA (hx : SqT K H a xs) (hy : SqT K H b ys) (h0 : xs ≠ []) (hl : xs.length + ys.length ≤ 1000) (h : ∀ p H', Same H H' → SqT K H' p (xs ++ ys) → Q (.ref p) H') : rCatA K (.ref a) (.ref b) H Q :=
  ⟨a, b, xs, ys, rfl, rfl, hx, hy, Nat.le_of_lt (small1000 hl), fun e => absurd e h0, fun _ e => h a H (Same.refl H) (by rw [e, List.append_nil]; exact hx), fun _ _ p np => h p _ (Same.new np) (SqT.mk upd_same)⟩
/-- t[:k], t[k:] of a tuple, 0 < k < its length -/
theorem to_no {i : Int} {k : Nat} {A : Prop} (e : i = (k : Int)) (hk : k < xs.length) (z : HT.sIx xs.length 0 none = 0 ∧ HT.sIx xs.length xs.length (some i) = xs.length) : A := by
  subst e
  have h := z.2
  rw [HT.sIx_nat, Nat.min_eq_left (Nat.le_of_lt hk)] at h
  omega
theorem cut_to {i : Int} {k : Nat} (e : i = (k : Int)) : cutV xs none (some i) = xs.take k := by subst e; exact cutV_take xs k
theorem cut_from {i : Int} {k : Nat} (e : i = (k : Int)) : cutV xs (some i) none = xs.drop k := by subst e; exact cutV_drop xs k
theorem from_no {i : Int} {k : Nat} {A : Prop} (e : i = (k : Int)) (hk : 0 < k) (h0 : 0 < xs.length) (z : HT.sIx xs.length 0 (some i) = 0 ∧ HT.sIx xs.length xs.length none = xs.length) : A := by
  subst e
  have h := z.1
  rw [HT.sIx_nat] at h
  omega
end
/-! ### a tree of a sign and parts -/
def mkT (s : Str) : List Tr → Tr
  | [] => .c0 s
  | [t] => .c1 s t
  | t :: u :: _ => .c2 s t u
theorem mkT_sym (s : Str) (ks : List Tr) : (mkT s ks).sym = s := by
  match ks with
  | [] => rfl
  | [_] => rfl
  | _ :: _ :: _ => rfl
theorem mkT_kids (s : Str) {ks : List Tr} (h : ks.length ≤ 2) : (mkT s ks).kids = ks := by
  match ks, h with
  | [], _ => rfl
  | [_], _ => rfl
  | [_, _], _ => rfl
  | _ :: _ :: _ :: _, h => simp at h
theorem mkT_wf {sg : Sg} {s : Str} {ks : List Tr} (h : ks.length ≤ 2) (m : (s, (ks.length : Int)) ∈ sg) (hk : ∀ k ∈ ks, Wf sg [] k) : Wf sg [] (mkT s ks) := by
  match ks, h, m, hk with
  | [], _, m, _ => exact m
  | [t], _, m, hk => exact ⟨m, hk t (List.mem_cons_self ..)⟩
  | [t, u], _, m, hk => exact ⟨m, hk t (List.mem_cons_self ..), hk u (List.mem_cons_of_mem _ (List.mem_cons_self ..))⟩
  | _ :: _ :: _ :: _, h, _, _ => simp at h
theorem mkT_dep (s : Str) {ks : List Tr} {d : Nat} (h : ks.length ≤ 2) (hk : ∀ k ∈ ks, k.dep ≤ d) : (mkT s ks).dep ≤ d + 1 := by
  match ks, h, hk with
  | [], _, _ => exact Nat.le_add_left ..
  | [t], _, hk => have := hk t (List.mem_cons_self ..); show 1 + t.dep ≤ d + 1; omega
  | [t, u], _, hk => have := hk t (List.mem_cons_self ..); have := hk u (List.mem_cons_of_mem _ (List.mem_cons_self ..)); show 1 + max t.dep u.dep ≤ d + 1; omega
  | _ :: _ :: _ :: _, h, _ => simp at h
theorem mkT_size (s : Str) {ks : List Tr} (h : ks.length ≤ 2) : (mkT s ks).size = 1 + (ks.map Tr.size).sum := by
  match ks, h with
  | [], _ => rfl
  | [t], _ => rfl
  | [t, u], _ => show 1 + t.size + u.size = 1 + (t.size + (u.size + 0)); omega
  | _ :: _ :: _ :: _, h => simp at h
theorem Tr.eta {t : Tr} (h : Pl t) : mkT t.sym t.kids = t := by
  cases t with
  | nm x => exact h.elim
  | c0 s => rfl
  | c1 s t => rfl
  | c2 s t u => rfl
theorem size_nat {t : Tr} (h : Pl t) : t.size = 1 + (t.kids.map Tr.size).sum := by
  have := mkT_size t.sym t.kids_le
  rw [Tr.eta h] at this
  exact this
theorem sum_swap : ∀ {ks : List Tr} {r : Nat} {k k' : Tr}, ks[r]? = some k → k'.size ≤ k.size + 4 → ((ks.set r k').map Tr.size).sum ≤ (ks.map Tr.size).sum + 4
  | [], _, _, _, h, _ => by simp at h
  | a :: ks, 0, k, k', h, hz => by
    obtain rfl : a = k := Option.some.inj h
    show k'.size + (ks.map Tr.size).sum ≤ a.size + (ks.map Tr.size).sum + 4
    omega
  | a :: ks, r + 1, k, k', h, hz => by
    have := sum_swap (ks := ks) (r := r) (k := k) (k' := k') h hz
    show a.size + ((ks.set r k').map Tr.size).sum ≤ a.size + (ks.map Tr.size).sum + 4
    omega
theorem kids_put {K : PySem.W.Frag} {H : Hp} {us : List V} {ks : List Tr} {r : Nat} {v : V} {k : Tr} (h : KidsAt K H us ks) (hv : TrAt K H k v) : KidsAt K H (us.set r v) (ks.set r k) := by
  induction h generalizing r with
  | nil => exact .nil
  | cons a b ih =>
    cases r with
    | zero => exact .cons hv b
    | succ r => exact .cons a (ih (r := r))
theorem cut_set {us : List V} {x v : V} {r : Nat} (h : r < us.length) : (x :: us).take (1 + r) ++ [v] ++ (x :: us).drop (1 + r + 1) = x :: us.set r v := by
  rw [Nat.add_comm 1 r, List.take_succ_cons, List.drop_succ_cons, List.set_eq_take_append_cons_drop, if_pos h]
  simp
def spChg (K : PySem.W.Frag) (d : Nat) : Sp := fun vs H Q _ => ∃ (a n g : Addr) (sg : Sg) (v : V) (t : Tr) (m : Int), vs = [.ref a, .ref g, v] ∧ StA H a n m ∧ m + 3 * (t.dep : Int) < 600000 ∧ SgAt K H g sg ∧ GSg sg ∧ TrAt K H t v ∧ Wf sg [] t ∧ t.dep ≤ d ∧
  ∀ v' t' H', TrAt K H' t' v' → Wf sg [] t' → t'.dep ≤ t.dep + 4 → t'.size ≤ t.size + 4 → Fr a H H' → StA H' a n (m + 3 * (t.dep : Int) + 15) → Q v' H'
def spRow (K : PySem.W.Frag) : Sp := fun vs H Q _ => ∃ (g : Addr) (sg : Sg) (s : Str) (ar many : Int) (v : V) (t : Tr), vs = [.ref g, .str s, .int ar, .int many, v] ∧ SgAt K H g sg ∧ GSg sg ∧ (s, ar) ∈ sg ∧ 1 ≤ ar ∧ 0 ≤ many ∧ many ≤ 200 ∧ TrAt K H t v ∧ Wf sg [] t ∧
  ∀ v' t' H', TrAt K H' t' v' → Wf sg [] t' → t'.dep ≤ t.dep + many.toNat → t'.size ≤ t.size + 2 * many.toNat → Same H H' → Q v' H'
section
variable {K : PySem.W.Frag} {σ : L2.St} {H : Hp} {Q : VK} {p : Addr} {rs : List Addr} {sg : Sg} {j1 j2 : Nat}
/-- [one for one, own in signs if own == 0] -/
theorem rd_zero {i : Nat} (hi : σ[i]? = some (some (.ref p))) (hS : SqT K H p (rs.map V.ref)) (pr : SgR K H rs sg) (h4 : sg.length ≤ 1000) (hw : ∀ x y, wipe (((wipe σ [j1, j2]).set j1 (some x)).set j2 (some y)) [j1, j2] = wipe σ [j1, j2])
    (hv : ∀ x y, (((wipe σ [j1, j2]).set j1 (some x)).set j2 (some y))[j1]? = some (some x)) (hv2 : ∀ x y, (((wipe σ [j1, j2]).set j1 (some x)).set j2 (some y))[j2]? = some (some y))
    (h : ∀ D H' zs, H D = none → Same H H' → H' D = some (.lst (zs.map V.str)) → zs.length ≤ sg.length → (∀ z ∈ zs, (z, (0 : Int)) ∈ sg) → ((∃ s ∈ sg, s.2 = 0) → zs ≠ []) → Q (.ref D) H') :
    tLc (iTup K (tVar i)) (gTup K 2 (gCons (gName j1) (gCons (gName j2) gNil))) (tTest (tOp rEq (tVar j2) (tC (.int 0)))) (tVar j1) [j1, j2] σ H Q := by
  refine ⟨_, hi, p, rfl, ⟨_, hS⟩, fun D nD => lc_tup (K := K) (xs := rs.map V.ref) (fun i H' => Same H H' ∧ ∃ zs : List Str, H' D = some (.lst (zs.map V.str)) ∧ zs.length ≤ i ∧ (∀ z ∈ zs, (z, (0 : Int)) ∈ sg) ∧ ((∃ s ∈ sg.take i, s.2 = 0) → zs ≠ []))
    ⟨Same.new nD, [], upd_same, Nat.le_refl _, (fun _ h => absurd h List.not_mem_nil), (fun ⟨s, h, _⟩ => by rw [List.take_zero] at h; exact absurd h List.not_mem_nil)⟩ (fun i H' _ iv => TK.same iv.1 _ _ hS) (fun i x H' hx iv => ?_) (fun H' iv => ?_)⟩
  · rw [List.getElem?_map] at hx
    cases e : rs[i]? with
    | none => rw [e] at hx; cases hx
    | some r =>
      rw [e] at hx
      obtain rfl : V.ref r = x := Option.some.inj hx
      obtain ⟨s, es, hr⟩ := paired_get pr e
      obtain ⟨sm, zs, hd, hl, hc, hz⟩ := iv
      have hil : i < sg.length := (List.getElem?_eq_some_iff.mp es).1
      have hs : s ∈ sg := List.mem_of_getElem? es
      refine ⟨r, _, rfl, TK.same sm _ _ hr, rfl, _, _, rfl, _, _, rfl, rfl, hw _ _, ?_⟩
      refine TV.ite (b := decide (V.int s.2 = V.int 0)) (fun Q q => ⟨_, hv2 _ _, rfl, _, rfl, q⟩) (fun e => ?_) (fun e => ?_)
      · have e0 := V.int.inj (of_decide_eq_true e)
        have hlen : (zs.map V.str).length < sizeLine := by rw [List.length_map]; exact small1000 (by omega)
        refine ⟨_, hv _ _, _, hd, hlen, Same.mut nD sm, zs ++ [s.1], by rw [List.map_append]; exact upd_same, by rw [List.length_append, List.length_singleton]; omega, fun t ht => ?_, fun _ => by simp⟩
        rcases List.mem_append.mp ht with q | q
        · exact hc t q
        · rw [List.mem_singleton] at q
          rw [q]
          exact mem_ar hs e0
      · have e0 := of_decide_eq_false e
        refine ⟨sm, zs, hd, by omega, hc, fun ⟨t, ht, h0⟩ => ?_⟩
        rw [take_snoc es] at ht
        rcases List.mem_append.mp ht with q | q
        · exact hz ⟨t, q, h0⟩
        · rw [List.mem_singleton] at q
          subst q
          exact absurd (congrArg V.int h0) e0
  · obtain ⟨sm, zs, hd, hl, hc, hz⟩ := iv
    rw [List.length_map, paired_len pr] at hl hz
    rw [List.take_length] at hz
    exact h D H' zs nD sm hd hl hc hz
end
end Pg

set_option Elab.async false
set_option linter.all false
set_option maxRecDepth 100000
set_option maxHeartbeats 4000000
namespace Pg
open PySem PySem.Spec PyProof.Rows L2
theorem TV.or_left {t u : TT} {σ : L2.St} {H : Hp} (h : TV t σ H true) : TV (tOr t u) σ H true := fun Q q => h _ (by rw [if_pos rfl]; exact q)
/-! ### all trees within a tree, from left to right -/
def pre : Tr → List Tr
  | .nm x => [.nm x]
  | .c0 s => [.c0 s]
  | .c1 s t => .c1 s t :: pre t
  | .c2 s t u => .c2 s t u :: (pre t ++ pre u)
theorem pre_eq (t : Tr) : pre t = t :: t.kids.flatMap pre := by
  cases t with
  | nm x => rfl
  | c0 s => rfl
  | c1 s t => show _ :: pre t = _ :: (pre t ++ []); rw [List.append_nil]
  | c2 s t u => show _ :: (pre t ++ pre u) = _ :: (pre t ++ (pre u ++ [])); rw [List.append_nil]
theorem pre_len : ∀ t : Tr, (pre t).length = t.size
  | .nm _ => rfl
  | .c0 _ => rfl
  | .c1 _ t => by show (pre t).length + 1 = 1 + t.size; rw [pre_len t]; omega
  | .c2 _ t u => by show (pre t ++ pre u).length + 1 = 1 + t.size + u.size; rw [List.length_append, pre_len t, pre_len u]; omega
theorem flat_len : ∀ ts : List Tr, (ts.flatMap pre).length = (ts.map Tr.size).sum
  | [] => rfl
  | t :: ts => by rw [List.flatMap_cons, List.length_append, pre_len, flat_len ts]; rfl
theorem len_le_sum : ∀ ts : List Tr, ts.length ≤ (ts.map Tr.size).sum
  | [] => Nat.le_refl _
  | t :: ts => by have := t.size_pos; have := len_le_sum ts; show ts.length + 1 ≤ t.size + (ts.map Tr.size).sum; omega
theorem sum_rev (ts : List Tr) : (ts.reverse.map Tr.size).sum = (ts.map Tr.size).sum := by
  rw [List.map_reverse]
  exact List.sum_reverse _
theorem paired_snoc {α β : Type} {F : α → β → Prop} {y : β} : ∀ {xs : List α} {ys : List β}, Paired F xs (ys ++ [y]) → ∃ xs' x, xs = xs' ++ [x] ∧ Paired F xs' ys ∧ F x y
  | _, [], h => by
    cases h with
    | cons a b => cases b; exact ⟨[], _, rfl, .nil, a⟩
  | _, z :: ys, h => by
    cases h with
    | cons a b =>
      obtain ⟨xs', x, e, p, q⟩ := paired_snoc b
      exact ⟨_ :: xs', x, by rw [e]; rfl, .cons a p, q⟩
theorem paired_rev {α β : Type} {F : α → β → Prop} : ∀ {xs : List α} {ys : List β}, Paired F xs ys → Paired F xs.reverse ys.reverse
  | _, _, .nil => .nil
  | _, _, .cons a t => by rw [List.reverse_cons, List.reverse_cons]; exact paired_app (paired_rev t) (.cons a .nil)
/-- behind the first node: its parts stand ahead of the rest -/
def rest : List Tr → List Tr
  | [] => []
  | t :: ts => t.kids ++ ts
def restN : Nat → List Tr → List Tr
  | 0, ts => ts
  | n + 1, ts => rest (restN n ts)
theorem rest_flat (ts : List Tr) : (rest ts).flatMap pre = (ts.flatMap pre).drop 1 := by
  cases ts with
  | nil => rfl
  | cons t ts =>
    show (t.kids ++ ts).flatMap pre = ((t :: ts).flatMap pre).drop 1
    rw [List.flatMap_append, List.flatMap_cons, pre_eq t]
    rfl
theorem restN_flat : ∀ (n : Nat) (ts : List Tr), (restN n ts).flatMap pre = (ts.flatMap pre).drop n
  | 0, _ => rfl
  | n + 1, ts => by
    show (rest (restN n ts)).flatMap pre = _
    rw [rest_flat, restN_flat n ts, List.drop_drop]
/-- at the j-th node: the forest from there on begins with it -/
theorem restN_at {t k : Tr} {j : Nat} (h : (pre t)[j]? = some k) : ∃ G, restN j [t] = k :: G := by
  have e : (restN j [t]).flatMap pre = (pre t).drop j := by
    rw [restN_flat, List.flatMap_cons]
    simp
  have hlt : j < (pre t).length := (List.getElem?_eq_some_iff.mp h).1
  cases q : restN j [t] with
  | nil =>
    rw [q] at e
    have := congrArg List.length e
    rw [List.length_drop] at this
    simp at this
    omega
  | cons k' G =>
    refine ⟨G, ?_⟩
    rw [q, List.flatMap_cons, pre_eq k'] at e
    have h0 := congrArg (fun l => l[0]?) e
    have h1 : ((pre t).drop j)[0]? = some k := by rw [List.getElem?_drop]; exact h
    have h2 : some k' = some k := by
      rw [h1] at h0
      exact h0
    rw [Option.some.inj h2]
theorem restN_end (t : Tr) : restN t.size [t] = [] := by
  have e : (restN t.size [t]).flatMap pre = (pre t).drop t.size := by
    rw [restN_flat, List.flatMap_cons]
    simp
  rw [← pre_len t, List.drop_length] at e
  rw [← pre_len t]
  cases q : restN (pre t).length [t] with
  | nil => rfl
  | cons k G =>
    rw [q, List.flatMap_cons, pre_eq k] at e
    cases e
theorem Pl.pre : ∀ {t k : Tr}, Pl t → k ∈ pre t → Pl k
  | .nm _, _, h, _ => h.elim
  | .c0 s, k, h, m => by rw [show Pg.pre (.c0 s) = [.c0 s] from rfl, List.mem_singleton] at m; rw [m]; exact h
  | .c1 s t, k, h, m => by
    rcases List.mem_cons.mp (show k ∈ Tr.c1 s t :: Pg.pre t from m) with e | e
    · rw [e]; exact h
    · exact Pl.pre (t := t) h e
  | .c2 s t u, k, h, m => by
    rcases List.mem_cons.mp (show k ∈ Tr.c2 s t u :: (Pg.pre t ++ Pg.pre u) from m) with e | e
    · rw [e]; exact h
    · rcases List.mem_append.mp e with e | e
      · exact Pl.pre (t := t) h.1 e
      · exact Pl.pre (t := u) h.2 e
theorem Wf.pre {sg : Sg} : ∀ {t k : Tr}, Wf sg [] t → k ∈ pre t → Wf sg [] k
  | .nm _, _, h, _ => absurd h List.not_mem_nil
  | .c0 s, k, h, m => by rw [show Pg.pre (.c0 s) = [.c0 s] from rfl, List.mem_singleton] at m; rw [m]; exact h
  | .c1 s t, k, h, m => by
    rcases List.mem_cons.mp (show k ∈ Tr.c1 s t :: Pg.pre t from m) with e | e
    · rw [e]; exact h
    · exact Wf.pre (t := t) h.2 e
  | .c2 s t u, k, h, m => by
    rcases List.mem_cons.mp (show k ∈ Tr.c2 s t u :: (Pg.pre t ++ Pg.pre u) from m) with e | e
    · rw [e]; exact h
    · rcases List.mem_append.mp e with e | e
      · exact Wf.pre (t := t) h.2.1 e
      · exact Wf.pre (t := u) h.2.2 e
/-- the pair that the program makes of a node -/
def pairD (sg : Sg) (k : Tr) : PyData := .tuple [.int k.size, .int (place sg k.sym)]
def spNodes (K : PySem.W.Frag) : Sp := fun vs H Q _ => ∃ (v : V) (t : Tr), vs = [v, .non] ∧ TrAt K H t v ∧ Pl t ∧ t.size ≤ 1000 ∧ ∀ p H' ws, Same H H' → H' p = some (.lst ws) → KidsAt K H' ws (pre t) → Q (.ref p) H'
def spPlace (K : PySem.W.Frag) : Sp := fun vs H Q _ => ∃ (g : Addr) (sg : Sg) (s : Str), vs = [.ref g, .str s] ∧ SgAt K H g sg ∧ GSg sg ∧ s ∈ sg.map (·.1) ∧ ∀ H', Same H H' → Q (.int (place sg s : Nat)) H'
def spOkey (K : PySem.W.Frag) : Sp := fun vs H Q _ => ∃ (g : Addr) (sg : Sg) (v : V) (t : Tr), vs = [.ref g, v] ∧ SgAt K H g sg ∧ GSg sg ∧ TrAt K H t v ∧ Wf sg [] t ∧ t.size ≤ 1000 ∧ ∀ p H', Same H H' → Dp K H' (.ref p) (.list ((pre t).map (pairD sg))) → Q (.ref p) H'
theorem tyX_tup {K : PySem.W.Frag} {H : Hp} {p : Addr} {xs : List V} (h : SqT K H p xs) : TyX K H (.ref p) (.type "tuple") := by
  rcases h with (h | ⟨o, h⟩) | h
  · exact .base (.tup h)
  · exact .fTuple h
  · obtain ⟨o, its, n, e, c, _⟩ := h
    exact .kTuple e c
theorem hu_n {k n : Nat} {A : Around} (r : Room k A) (h : n ≤ 200) : A.units + n < cLine := by have := r.un; omega
theorem hu_n1 {k : Nat} {A : Around} (r : Room k A) : A.units + 70 + 1 < cLine := by have := r.un; omega
/-- a def with one default None, called without it -/
theorem mk_cal1 {P : Program} {w : World} {K : PySem.W.Frag} {mg : Str → Option Value} {base : Heap} {x : Str} {st : Stmt} {f : Addr} {fd : FuncData} {N ps : List Str} {k n : Nat} {sp : Sp} (F : FunD K x x (defArgs st) (defBody st) (defScope st) [.non] [] f fd) (hm : mg x = some (.ref f)) (S : FnScope N ps (defScope st)) (hn : n + 1 = ps.length)
    (hb : ∀ (T : Addr) (kV doc pm : Value) (an : Option Addr) (cdv ct : Value) (us its : List Value), us.length = n → its.length = 1 → ∃ k, bindArgs (PySem.W.fnOf x x (defArgs st) (defBody st) (defScope st) (.ref T) kV doc pm an cdv ct) ⟨us, []⟩ = seqItems? (.ref T) >>= k ∧ k (some its.toArray) = pure (ps.zip (us ++ its.drop 0)))
    (len : ∀ vs H Q E, sp vs H Q E → vs.length = ps.length)
    (body : ∀ (cdv : Value) (A : Around) (outer : List Env) (s : Shared) (H : Hp) (vs : List V) (Q : VK) (E : XK), Room k (A.deeper (envOfC x (defScope st) s.heap.objs.size f cdv)) → sp vs H Q E →
      ∃ t, PSs (cxOf CX0 P w K mg base N x (defScope st) f cdv A outer s H E).nox (defBody st) t ∧ t { nx := fun _ H' => Q .non H', rt := Q } (start N vs) H) : Cal P w K mg base (k + 1) x sp [.non] := by
  obtain ⟨ds, hv, hbn⟩ := F.binds1 (ps := ps) n 0 (by simp) (by simpa using hn) (fun T kV doc pm an cdv ct us its h1 h2 => hb T kV doc pm an cdv ct us its h1 (by simpa using h2))
  exact ⟨f, fd, ps, ds, F.ok S len (fun cdv A outer s H vs Q E hr h => let ⟨t, a, b⟩ := body cdv A outer s H vs Q E hr h; ⟨t, a.nox, b⟩), hm, F.kp, hbn, hv⟩
end Pg

set_option Elab.async false
set_option linter.all false
set_option maxRecDepth 100000
set_option maxHeartbeats 4000000
namespace Pg
open PySem PySem.Spec PyProof.Rows L2 PySem.W
abbrev Tk := Int ⊕ List Nat
/-- the first difference of two rows of signs is that of two numbers -/
def Dif (a b : List Tk) (p q : Int) : Prop := ∃ l x y, a = l ++ Sum.inl p :: x ∧ b = l ++ Sum.inl q :: y
theorem Dif.pre {a b : List Tk} {p q : Int} (c : List Tk) (h : Dif a b p q) : Dif (c ++ a) (c ++ b) p q := by
  obtain ⟨l, x, y, rfl, rfl⟩ := h
  exact ⟨c ++ l, x, y, by rw [List.append_assoc], by rw [List.append_assoc]⟩
theorem Dif.app {a b : List Tk} {p q : Int} (c d : List Tk) (h : Dif a b p q) : Dif (a ++ c) (b ++ d) p q := by
  obtain ⟨l, x, y, rfl, rfl⟩ := h
  exact ⟨l, x ++ c, y ++ d, by simp, by simp⟩
theorem Dif.lt {a b : List Tk} {p q : Int} (h : Dif a b p q) (hne : p ≠ q) : lexLt itemOrd a b = decide (p < q) := by
  obtain ⟨l, x, y, rfl, rfl⟩ := h
  rw [lex_pre]
  exact lex_diff (O := itemOrd) (fun e => hne (Sum.inl.inj e))
theorem Dif.swap {a b : List Tk} {p q : Int} (h : Dif a b p q) : Dif b a q p := by
  obtain ⟨l, x, y, e, f⟩ := h
  exact ⟨l, y, x, f, e⟩
theorem Dif.ne {a b : List Tk} {p q : Int} (h : Dif a b p q) (hne : p ≠ q) : a ≠ b := by
  obtain ⟨l, x, y, rfl, rfl⟩ := h
  intro e
  have := List.append_cancel_left e
  injection this with h1 h2
  exact hne (Sum.inl.inj h1)
/-- the signs of the nodes of a tree, from left to right -/
def nt (sg : Sg) (k : Tr) : List Tk := [.inl 1, .inl 1, .inl k.size, .inl 1, .inl (place sg k.sym), .inl 0]
def pt (sg : Sg) (t : Tr) : List Tk := (pre t).flatMap (nt sg)
theorem toks_pair (sg : Sg) (k : Tr) : Sum.inl 1 :: keyToks (pairD sg k) = nt sg k := rfl
theorem toks_pairs (sg : Sg) : ∀ ks : List Tr, keyToksAll (ks.map (pairD sg)) = ks.flatMap (nt sg) ++ [.inl 0]
  | [] => rfl
  | k :: ks => by
    rw [List.map_cons, keyToksAll, toks_pairs sg ks, List.flatMap_cons, List.append_assoc]
    rfl
theorem toks_ok (sg : Sg) (t : Tr) : keyToks (.list ((pre t).map (pairD sg))) = pt sg t ++ [.inl 0] := by
  rw [keyToks]
  exact toks_pairs sg _
theorem pt_eq (sg : Sg) (t : Tr) : pt sg t = nt sg t ++ t.kids.flatMap (pt sg) := by
  show (pre t).flatMap (nt sg) = _
  rw [pre_eq, List.flatMap_cons]
  congr 1
  induction t.kids with
  | nil => rfl
  | cons k ks ih => rw [List.flatMap_cons, List.flatMap_append, ih]; rfl
theorem toks_key (sg : Sg) {t : Tr} (h : Pl t) : keyToks (keyD sg t) = [.inl 1, .inl t.size, .inl 1, .inl (place sg t.sym)] ++ keyToksAll (t.kids.map (keyD sg)) := by
  rw [keyD_eq sg h, keyToks, keyToksAll, keyToksAll, keyToks, keyToks]
  rfl
def Df (sg : Sg) (t u : Tr) : Prop := ∃ p q : Int, p ≠ q ∧ Dif (keyToks (keyD sg t)) (keyToks (keyD sg u)) p q ∧ Dif (pt sg t) (pt sg u) p q
theorem Wf.mem {sg : Sg} {t : Tr} (h : Wf sg [] t) : t.sym ∈ sg.map (·.1) := List.mem_map.mpr ⟨_, h.sym, rfl⟩
theorem place_inj {sg : Sg} {x y : Str} (hx : x ∈ sg.map (·.1)) (hy : y ∈ sg.map (·.1)) (e : place sg x = place sg y) : x = y := by
  have h1 := (place_at hx).2.1
  have h2 := (place_at hy).2.1
  rw [e, h2] at h1
  cases h1
  rfl
theorem ar_eq' {x : Str} {i j : Int} : ∀ {sg : Sg}, (sg.map (·.1)).Nodup → (x, i) ∈ sg → (x, j) ∈ sg → i = j
  | [], _, h, _ => absurd h List.not_mem_nil
  | s :: sg, nd, h1, h2 => by
    rw [List.map_cons, List.nodup_cons] at nd
    rcases List.mem_cons.mp h1 with e1 | e1
    · rcases List.mem_cons.mp h2 with e2 | e2
      · rw [← e2] at e1
        exact (Prod.mk.inj e1).2
      · exact absurd (List.mem_map.mpr ⟨_, e2, by rw [← e1]⟩) nd.1
    · rcases List.mem_cons.mp h2 with e2 | e2
      · exact absurd (List.mem_map.mpr ⟨_, e1, by rw [← e2]⟩) nd.1
      · exact ar_eq' nd.2 e1 e2
theorem ar_eq {sg : Sg} (g : GSg sg) {x : Str} {i j : Int} (h1 : (x, i) ∈ sg) (h2 : (x, j) ∈ sg) : i = j := ar_eq' g.nd h1 h2
/-- size and sign are the same, or they tell the two apart -/
theorem hd_cases {sg : Sg} (g : GSg sg) {t u : Tr} (ht : Wf sg [] t) (hu : Wf sg [] u) : (t.size = u.size ∧ t.sym = u.sym ∧ t.kids.length = u.kids.length) ∨ Df sg t u := by
  have kt := toks_key sg ht.pl
  have ku := toks_key sg hu.pl
  have qt := pt_eq sg t
  have qu := pt_eq sg u
  by_cases h1 : t.size = u.size
  · by_cases h2 : place sg t.sym = place sg u.sym
    · have e := place_inj ht.mem hu.mem h2
      refine .inl ⟨h1, e, ?_⟩
      have a := ht.sym
      have b := hu.sym
      rw [e] at a
      have := ar_eq g a b
      omega
    · refine .inr ⟨place sg t.sym, place sg u.sym, fun z => h2 (by omega), ?_, ?_⟩
      · rw [kt, ku, h1]
        exact ⟨[.inl 1, .inl u.size, .inl 1], _, _, rfl, rfl⟩
      · rw [qt, qu]
        unfold nt
        rw [h1]
        exact ⟨[.inl 1, .inl 1, .inl u.size, .inl 1], _, _, rfl, rfl⟩
  · refine .inr ⟨t.size, u.size, fun z => h1 (by omega), ?_, ?_⟩
    · rw [kt, ku]
      exact ⟨[.inl 1], _, _, rfl, rfl⟩
    · rw [qt, qu]
      exact ⟨[.inl 1, .inl 1], _, _, rfl, rfl⟩
theorem dif {sg : Sg} (g : GSg sg) : ∀ {t u : Tr}, Wf sg [] t → Wf sg [] u → t = u ∨ Df sg t u
  | .nm _, _, h, _ => absurd h List.not_mem_nil
  | .c0 s, u, ht, hu => by
    rcases hd_cases g ht hu with ⟨h1, h2, h3⟩ | h
    · cases u with
      | nm x => exact absurd hu List.not_mem_nil
      | c0 s' => exact .inl (by rw [show s = s' from h2])
      | c1 s' t' => cases h3
      | c2 s' t' u' => cases h3
    · exact .inr h
  | .c1 s t, u, ht, hu => by
    rcases hd_cases g ht hu with ⟨h1, h2, h3⟩ | h
    · cases u with
      | nm x => exact absurd hu List.not_mem_nil
      | c0 s' => cases h3
      | c1 s' t' =>
        obtain rfl : s = s' := h2
        rcases dif g (t := t) (u := t') ht.2 hu.2 with e | ⟨p, q, hne, d1, d2⟩
        · exact .inl (by rw [e])
        · refine .inr ⟨p, q, hne, ?_, ?_⟩
          · rw [toks_key sg ht.pl, toks_key sg hu.pl, h1]
            exact ((d1.app [.inl 0] [.inl 0]).pre [.inl 1]).pre _
          · rw [pt_eq sg (.c1 s t), pt_eq sg (.c1 s t')]
            unfold nt
            rw [h1]
            exact (d2.app [] []).pre _
      | c2 s' t' u' => cases h3
    · exact .inr h
  | .c2 s t v, u, ht, hu => by
    rcases hd_cases g ht hu with ⟨h1, h2, h3⟩ | h
    · cases u with
      | nm x => exact absurd hu List.not_mem_nil
      | c0 s' => cases h3
      | c1 s' t' => cases h3
      | c2 s' t' v' =>
        obtain rfl : s = s' := h2
        rcases dif g (t := t) (u := t') ht.2.1 hu.2.1 with e | ⟨p, q, hne, d1, d2⟩
        · subst e
          rcases dif g (t := v) (u := v') ht.2.2 hu.2.2 with e | ⟨p, q, hne, d1, d2⟩
          · exact .inl (by rw [e])
          · refine .inr ⟨p, q, hne, ?_, ?_⟩
            · rw [toks_key sg ht.pl, toks_key sg hu.pl, h1]
              exact (((((d1.app [.inl 0] [.inl 0]).pre [.inl 1]).pre _).pre [.inl 1])).pre _
            · rw [pt_eq sg (.c2 s t v), pt_eq sg (.c2 s t v')]
              unfold nt
              rw [h1]
              exact ((d2.app [] []).pre _).pre _
        · refine .inr ⟨p, q, hne, ?_, ?_⟩
          · rw [toks_key sg ht.pl, toks_key sg hu.pl, h1]
            exact ((d1.app _ _).pre [.inl 1]).pre _
          · rw [pt_eq sg (.c2 s t v), pt_eq sg (.c2 s t' v')]
            unfold nt
            rw [h1]
            exact (d2.app _ _).pre _
    · exact .inr h
theorem key_dep (sg : Sg) : ∀ t : Tr, Pl t → (keyD sg t).depth ≤ t.dep
  | .nm _, h => h.elim
  | .c0 s, _ => by show (PyData.tuple [.int 1, .int (place sg s)]).depth ≤ 1; simp [PyData.depth, PyData.depthAll]
  | .c1 s t, h => by
    have := key_dep sg t h
    show (PyData.tuple [.int (Tr.c1 s t).size, .int (place sg s), keyD sg t]).depth ≤ 1 + t.dep
    simp only [PyData.depth, PyData.depthAll]
    omega
  | .c2 s t u, h => by
    have := key_dep sg t h.1
    have := key_dep sg u h.2
    show (PyData.tuple [.int (Tr.c2 s t u).size, .int (place sg s), keyD sg t, keyD sg u]).depth ≤ 1 + max t.dep u.dep
    simp only [PyData.depth, PyData.depthAll]
    omega
theorem alike_tup {a b : Int} {c d : Int} {ks ls : List PyData} (h : alikeAll ks ls = true) : alike (.tuple (.int a :: .int b :: ks)) (.tuple (.int c :: .int d :: ls)) = true := by
  rw [alike, alikeAll, alikeAll, h]
  rfl
theorem key_alike (sg : Sg) : ∀ t u : Tr, Pl t → Pl u → alike (keyD sg t) (keyD sg u) = true
  | .nm _, _, h, _ => h.elim
  | t, .nm _, _, h => h.elim
  | .c0 _, .c0 _, _, _ => alike_tup rfl
  | .c0 _, .c1 _ _, _, _ => alike_tup rfl
  | .c0 _, .c2 _ _ _, _, _ => alike_tup rfl
  | .c1 _ _, .c0 _, _, _ => alike_tup rfl
  | .c2 _ _ _, .c0 _, _, _ => alike_tup rfl
  | .c1 _ t, .c1 _ u, h, h' => alike_tup (by rw [alikeAll, key_alike sg t u h h']; rfl)
  | .c1 _ t, .c2 _ u v, h, h' => alike_tup (by rw [alikeAll, key_alike sg t u h h'.1]; rfl)
  | .c2 _ t v, .c1 _ u, h, h' => alike_tup (by rw [alikeAll, key_alike sg t u h.1 h']; rfl)
  | .c2 _ t v, .c2 _ u x, h, h' => alike_tup (by rw [alikeAll, alikeAll, key_alike sg t u h.1 h'.1, key_alike sg v x h.2 h'.2]; rfl)
theorem key_non (sg : Sg) {t : Tr} (h : Pl t) : keyD sg t ≠ .none := by rw [keyD_eq sg h]; intro e; cases e
end Pg

set_option Elab.async false
set_option linter.all false
set_option maxRecDepth 100000
set_option maxHeartbeats 4000000
namespace Pg
open PySem PySem.Spec PyProof.Rows L2
/-! ### how many trees there are of each size, and the trees, size by size -/
def co1 (C : List Nat) (ar : Int) (m : Nat) : Nat := if ar = 0 then (if m = 1 then 1 else 0) else if ar = 1 then C.getD (m - 1) 0 else ((List.range (m - 2)).map fun i => C.getD (i + 1) 0 * C.getD (m - 2 - i) 0).sum
def co (sg : Sg) (C : List Nat) (m : Nat) : Nat := (sg.map fun s => co1 C s.2 m).sum
def cl (sg : Sg) : Nat → List Nat
  | 0 => [0]
  | n + 1 => cl sg n ++ [co sg (cl sg n) (n + 1)]
def ct (sg : Sg) (n : Nat) : Nat := (cl sg n).getD n 0
def pr (s : Str) (B : List (List Tr)) (m : Nat) : List Tr := (List.range (m - 2)).flatMap fun i => (B.getD (i + 1) []).flatMap fun t => (B.getD (m - 2 - i) []).map fun u => Tr.c2 s t u
def ov1 (s : Str × Int) (B : List (List Tr)) (m : Nat) : List Tr := if s.2 = 0 then (if m = 1 then [.c0 s.1] else []) else if s.2 = 1 then (B.getD (m - 1) []).map (Tr.c1 s.1) else pr s.1 B m
def ov (sg : Sg) (B : List (List Tr)) (m : Nat) : List Tr := sg.flatMap fun s => ov1 s B m
def bl (sg : Sg) : Nat → List (List Tr)
  | 0 => [[]]
  | n + 1 => bl sg n ++ [ov sg (bl sg n) (n + 1)]
def ts (sg : Sg) (n : Nat) : List Tr := (bl sg n).getD n []
theorem cl_len (sg : Sg) : ∀ n, (cl sg n).length = n + 1
  | 0 => rfl
  | n + 1 => by show (cl sg n ++ [_]).length = _; rw [List.length_append, cl_len sg n]; rfl
theorem bl_len (sg : Sg) : ∀ n, (bl sg n).length = n + 1
  | 0 => rfl
  | n + 1 => by show (bl sg n ++ [_]).length = _; rw [List.length_append, bl_len sg n]; rfl
theorem getD_app {α : Type} {l : List α} {x d : α} {k : Nat} (h : k < l.length) : (l ++ [x]).getD k d = l.getD k d := by
  rw [List.getD_eq_getElem?_getD, List.getD_eq_getElem?_getD, List.getElem?_append_left h]
theorem getD_last {α : Type} {l : List α} {x d : α} {k : Nat} (h : k = l.length) : (l ++ [x]).getD k d = x := by
  rw [List.getD_eq_getElem?_getD, List.getElem?_append_right (by omega), h, Nat.sub_self]; rfl
theorem cl_get (sg : Sg) : ∀ {n k : Nat}, k ≤ n → (cl sg n).getD k 0 = ct sg k
  | 0, k, h => by obtain rfl : k = 0 := by omega
                  rfl
  | n + 1, k, h => by
    by_cases e : k = n + 1
    · subst e; rfl
    · show (cl sg n ++ [_]).getD k 0 = _
      rw [getD_app (by rw [cl_len]; omega)]
      exact cl_get sg (by omega)
theorem bl_get (sg : Sg) : ∀ {n k : Nat}, k ≤ n → (bl sg n).getD k [] = ts sg k
  | 0, k, h => by obtain rfl : k = 0 := by omega
                  rfl
  | n + 1, k, h => by
    by_cases e : k = n + 1
    · subst e; rfl
    · show (bl sg n ++ [_]).getD k [] = _
      rw [getD_app (by rw [bl_len]; omega)]
      exact bl_get sg (by omega)
theorem ct_succ (sg : Sg) (n : Nat) : ct sg (n + 1) = co sg (cl sg n) (n + 1) := getD_last (by rw [cl_len])
theorem ts_succ (sg : Sg) (n : Nat) : ts sg (n + 1) = ov sg (bl sg n) (n + 1) := getD_last (by rw [bl_len])
theorem sum_len {α β : Type} (f : α → List β) : ∀ l : List α, (l.flatMap f).length = (l.map fun a => (f a).length).sum
  | [] => rfl
  | a :: l => by rw [List.flatMap_cons, List.length_append, sum_len f l]; rfl
theorem sum_const {α : Type} (c : Nat) : ∀ l : List α, (l.map fun _ => c).sum = l.length * c
  | [] => by simp
  | a :: l => by rw [List.map_cons, List.sum_cons, sum_const c l, List.length_cons, Nat.add_mul]; omega
theorem pr_len (s : Str) (B : List (List Tr)) (m : Nat) (C : List Nat) (h : ∀ k, (B.getD k []).length = C.getD k 0) : (pr s B m).length = ((List.range (m - 2)).map fun i => C.getD (i + 1) 0 * C.getD (m - 2 - i) 0).sum := by
  unfold pr
  rw [sum_len]
  congr 1
  refine List.map_congr_left fun i _ => ?_
  rw [sum_len]
  simp only [List.length_map]
  rw [sum_const, h, h]
theorem ov_len (sg : Sg) (B : List (List Tr)) (m : Nat) (C : List Nat) (h : ∀ k, (B.getD k []).length = C.getD k 0) : (ov sg B m).length = co sg C m := by
  unfold ov co
  rw [sum_len]
  congr 1
  refine List.map_congr_left fun s _ => ?_
  unfold ov1 co1
  by_cases h0 : s.2 = 0
  · rw [if_pos h0, if_pos h0]
    by_cases h1 : m = 1
    · rw [if_pos h1, if_pos h1]; rfl
    · rw [if_neg h1, if_neg h1]; rfl
  · rw [if_neg h0, if_neg h0]
    by_cases h1 : s.2 = 1
    · rw [if_pos h1, if_pos h1, List.length_map, h]
    · rw [if_neg h1, if_neg h1, pr_len _ _ _ _ h]
theorem bl_cl (sg : Sg) : ∀ n k, ((bl sg n).getD k []).length = (cl sg n).getD k 0
  | 0, k => by
    cases k with
    | zero => rfl
    | succ k => rfl
  | n + 1, k => by
    show ((bl sg n ++ [_]).getD k []).length = (cl sg n ++ [_]).getD k 0
    by_cases h : k < n + 1
    · rw [getD_app (by rw [bl_len]; exact h), getD_app (by rw [cl_len]; exact h)]
      exact bl_cl sg n k
    · by_cases e : k = n + 1
      · rw [getD_last (by rw [bl_len]; exact e), getD_last (by rw [cl_len]; exact e)]
        exact ov_len sg _ _ _ (bl_cl sg n)
      · rw [List.getD_eq_getElem?_getD, List.getD_eq_getElem?_getD, List.getElem?_eq_none (by rw [List.length_append, bl_len]; simp; omega), List.getElem?_eq_none (by rw [List.length_append, cl_len]; simp; omega)]
        rfl
theorem ts_len (sg : Sg) (n : Nat) : (ts sg n).length = ct sg n := bl_cl sg n n
/-! #### the numbers grow -/
theorem mem_le_sum : ∀ {l : List Nat} {x : Nat}, x ∈ l → x ≤ l.sum
  | a :: l, x, h => by
    rw [List.sum_cons]
    rcases List.mem_cons.mp h with e | e
    · omega
    · have := mem_le_sum e; omega
theorem co_ge {sg : Sg} {C : List Nat} {m : Nat} {s : Str × Int} (h : s ∈ sg) : co1 C s.2 m ≤ co sg C m := mem_le_sum (List.mem_map.mpr ⟨s, h, rfl⟩)
theorem ct0 (sg : Sg) : ct sg 0 = 0 := rfl
theorem ct1 {sg : Sg} (g : GSg sg) : 1 ≤ ct sg 1 := by
  obtain ⟨s, hs, e⟩ := g.c0
  rw [ct_succ]
  refine Nat.le_trans ?_ (co_ge hs)
  unfold co1
  rw [if_pos e, if_pos rfl]
  exact Nat.le_refl _
theorem ct_up1 {sg : Sg} {s : Str × Int} (hs : s ∈ sg) (e : s.2 = 1) (n : Nat) : ct sg n ≤ ct sg (n + 1) := by
  rw [ct_succ]
  refine Nat.le_trans ?_ (co_ge hs)
  unfold co1
  rw [if_neg (by rw [e]; decide), if_pos e, Nat.add_sub_cancel, cl_get sg (Nat.le_refl _)]
  exact Nat.le_refl _
theorem ct_up2 {sg : Sg} (g : GSg sg) {s : Str × Int} (hs : s ∈ sg) (e : s.2 = 2) (n : Nat) : ct sg n ≤ ct sg (n + 2) := by
  cases n with
  | zero => rw [ct0]; exact Nat.zero_le _
  | succ n =>
    rw [ct_succ sg (n + 2)]
    refine Nat.le_trans ?_ (co_ge hs)
    unfold co1
    rw [if_neg (by rw [e]; decide), if_neg (by rw [e]; decide)]
    refine Nat.le_trans ?_ (mem_le_sum (List.mem_map.mpr ⟨0, List.mem_range.mpr (by omega), rfl⟩))
    rw [cl_get sg (by omega), cl_get sg (by omega)]
    have := ct1 g
    show ct sg (n + 1) ≤ ct sg 1 * ct sg (n + 1)
    exact Nat.le_trans (by omega) (Nat.mul_le_mul_right _ this)
theorem sum_zero : ∀ {l : List Nat}, (∀ x ∈ l, x = 0) → l.sum = 0
  | [], _ => rfl
  | a :: l, h => by rw [List.sum_cons, h a List.mem_cons_self, sum_zero fun x hx => h x (List.mem_cons_of_mem _ hx)]
theorem co_zero {sg : Sg} {C : List Nat} {m : Nat} (h : ∀ s ∈ sg, co1 C s.2 m = 0) : co sg C m = 0 := sum_zero fun x hx => by
  obtain ⟨s, hs, rfl⟩ := List.mem_map.mp hx
  exact h s hs
theorem ct_even {sg : Sg} (h : ∀ s ∈ sg, s.2 ≠ 1) : ∀ n, n % 2 = 0 → ct sg n = 0 := by
  intro n
  induction n using Nat.strongRecOn with
  | ind n ih =>
    intro hn
    cases n with
    | zero => rfl
    | succ n =>
      rw [ct_succ]
      refine co_zero fun s hs => ?_
      unfold co1
      by_cases h0 : s.2 = 0
      · rw [if_pos h0, if_neg (by omega)]
      · rw [if_neg h0, if_neg (h s hs)]
        refine sum_zero fun x hx => ?_
        obtain ⟨i, hi, rfl⟩ := List.mem_map.mp hx
        have hi := List.mem_range.mp hi
        rw [cl_get sg (by omega), cl_get sg (by omega)]
        by_cases hp : (i + 1) % 2 = 0
        · rw [ih (i + 1) (by omega) hp, Nat.zero_mul]
        · rw [ih (n + 1 - 2 - i) (by omega) (by omega), Nat.mul_zero]
theorem ct_none {sg : Sg} (h : ∀ s ∈ sg, s.2 = 0) (n : Nat) (hn : 2 ≤ n) : ct sg n = 0 := by
  obtain ⟨m, rfl⟩ : ∃ m, n = m + 1 := ⟨n - 1, by omega⟩
  rw [ct_succ]
  refine co_zero fun s hs => ?_
  unfold co1
  rw [if_pos (h s hs), if_neg (by omega)]
/-- fewer trees of a lesser size -/
theorem ct_mono {sg : Sg} (g : GSg sg) {n : Nat} (hn : ct sg n ≠ 0) : ∀ {k : Nat}, k ≤ n → ct sg k ≤ ct sg n := by
  intro k hk
  by_cases h1 : ∃ s ∈ sg, s.2 = 1
  · obtain ⟨s, hs, e⟩ := h1
    have : ∀ j, ct sg k ≤ ct sg (k + j) := fun j => by
      induction j with
      | zero => exact Nat.le_refl _
      | succ j ih => exact Nat.le_trans ih (ct_up1 hs e _)
    have := this (n - k)
    rw [show k + (n - k) = n by omega] at this
    exact this
  · have h1' : ∀ s ∈ sg, s.2 ≠ 1 := fun s hs e => h1 ⟨s, hs, e⟩
    by_cases hk2 : k % 2 = 0
    · rw [ct_even h1' k hk2]; exact Nat.zero_le _
    · have hn2 : n % 2 ≠ 0 := fun z => hn (ct_even h1' n z)
      by_cases h2 : ∃ s ∈ sg, s.2 = 2
      · obtain ⟨s, hs, e⟩ := h2
        have : ∀ j, ct sg k ≤ ct sg (k + 2 * j) := fun j => by
          induction j with
          | zero => exact Nat.le_refl _
          | succ j ih => exact Nat.le_trans ih (ct_up2 g hs e _)
        have := this ((n - k) / 2)
        rw [show k + 2 * ((n - k) / 2) = n by omega] at this
        exact this
      · have h0 : ∀ s ∈ sg, s.2 = 0 := fun s hs => by
          have := g.ar s hs
          have := h1' s hs
          have : s.2 ≠ 2 := fun e => h2 ⟨s, hs, e⟩
          omega
        by_cases hn1 : n ≤ 1
        · rw [show k = n by omega]; exact Nat.le_refl _
        · exact absurd (ct_none h0 n (by omega)) hn
end Pg

set_option Elab.async false
set_option linter.all false
set_option maxRecDepth 100000
set_option maxHeartbeats 4000000
namespace Pg
open PySem PySem.Spec PyProof.Rows L2 PySem.W
/-! ### the trees of a size: what they are, and that they stand in order -/
theorem mem_bl {sg : Sg} {n k : Nat} {t : Tr} (hk : k ≤ n) (h : t ∈ (bl sg n).getD k []) : t ∈ ts sg k := by rw [← bl_get sg hk]; exact h
theorem mem_ov1 {sg : Sg} {n : Nat} {s : Str × Int} {t : Tr} (ha : 0 ≤ s.2 ∧ s.2 ≤ 2) (h : t ∈ ov1 s (bl sg n) (n + 1)) :
    (s.2 = 0 ∧ n = 0 ∧ t = .c0 s.1) ∨ (s.2 = 1 ∧ ∃ u ∈ ts sg n, t = .c1 s.1 u) ∨ (s.2 = 2 ∧ ∃ i, i + 1 < n ∧ ∃ u ∈ ts sg (i + 1), ∃ v ∈ ts sg (n - 1 - i), t = .c2 s.1 u v) := by
  unfold ov1 at h
  by_cases h0 : s.2 = 0
  · rw [if_pos h0] at h
    by_cases h1 : n + 1 = 1
    · rw [if_pos h1, List.mem_singleton] at h
      exact .inl ⟨h0, by omega, h⟩
    · rw [if_neg h1] at h
      cases h
  · rw [if_neg h0] at h
    by_cases h1 : s.2 = 1
    · rw [if_pos h1] at h
      obtain ⟨u, hu, e⟩ := List.mem_map.mp h
      exact .inr (.inl ⟨h1, u, mem_bl (Nat.le_refl _) hu, e.symm⟩)
    · rw [if_neg h1] at h
      obtain ⟨i, hi, h⟩ := List.mem_flatMap.mp h
      obtain ⟨u, hu, h⟩ := List.mem_flatMap.mp h
      obtain ⟨v, hv, e⟩ := List.mem_map.mp h
      have hi := List.mem_range.mp hi
      refine .inr (.inr ⟨by omega, i, by omega, u, mem_bl (by omega) hu, v, ?_, e.symm⟩)
      have := mem_bl (by omega) hv
      rw [show n + 1 - 2 - i = n - 1 - i by omega] at this
      exact this
theorem ts_wf {sg : Sg} (g : GSg sg) : ∀ n t, t ∈ ts sg n → Wf sg [] t ∧ t.size = n := by
  intro n
  induction n using Nat.strongRecOn with
  | ind n ih =>
    intro t h
    cases n with
    | zero => cases h
    | succ n =>
      rw [ts_succ] at h
      obtain ⟨s, hs, h⟩ := List.mem_flatMap.mp h
      rcases mem_ov1 (g.ar s hs) h with ⟨e, rfl, rfl⟩ | ⟨e, u, hu, rfl⟩ | ⟨e, i, hi, u, hu, v, hv, rfl⟩
      · exact ⟨mem_ar hs e, rfl⟩
      · obtain ⟨a, b⟩ := ih n (by omega) u hu
        exact ⟨⟨mem_ar hs e, a⟩, by show 1 + u.size = _; omega⟩
      · obtain ⟨a, b⟩ := ih (i + 1) (by omega) u hu
        obtain ⟨c, d⟩ := ih (n - 1 - i) (by omega) v hv
        exact ⟨⟨mem_ar hs e, a, c⟩, by show 1 + u.size + v.size = _; omega⟩
def LtK (sg : Sg) (t u : Tr) : Prop := ∃ p q : Int, p < q ∧ Dif (keyToks (keyD sg t)) (keyToks (keyD sg u)) p q
theorem LtK.lt {sg : Sg} {t u : Tr} (h : LtK sg t u) : dataLt (keyD sg t) (keyD sg u) = true := by
  obtain ⟨p, q, hpq, d⟩ := h
  exact (d.lt (by omega)).trans (decide_eq_true hpq)
theorem LtK.size {sg : Sg} {t u : Tr} (ht : Pl t) (hu : Pl u) (h : t.size < u.size) : LtK sg t u := by
  refine ⟨t.size, u.size, by omega, ?_⟩
  rw [toks_key sg ht, toks_key sg hu]
  exact ⟨[.inl 1], _, _, rfl, rfl⟩
theorem LtK.sym {sg : Sg} {t u : Tr} (ht : Pl t) (hu : Pl u) (h : t.size = u.size) (hp : place sg t.sym < place sg u.sym) : LtK sg t u := by
  refine ⟨place sg t.sym, place sg u.sym, by omega, ?_⟩
  rw [toks_key sg ht, toks_key sg hu, h]
  exact ⟨[.inl 1, .inl u.size, .inl 1], _, _, rfl, rfl⟩
theorem LtK.c1 {sg : Sg} {s : Str} {t u : Tr} (ht : Pl t) (hu : Pl u) (e : t.size = u.size) (h : LtK sg t u) : LtK sg (.c1 s t) (.c1 s u) := by
  obtain ⟨p, q, hpq, d⟩ := h
  refine ⟨p, q, hpq, ?_⟩
  rw [toks_key sg (t := .c1 s t) ht, toks_key sg (t := .c1 s u) hu, show (Tr.c1 s t).size = (Tr.c1 s u).size by show 1 + _ = 1 + _; rw [e]]
  exact ((d.app [.inl 0] [.inl 0]).pre [.inl 1]).pre _
theorem LtK.c2a {sg : Sg} {s : Str} {t u v x : Tr} (ht : Pl t) (hu : Pl u) (hv : Pl v) (hx : Pl x) (e : t.size = u.size) (e2 : v.size = x.size) (h : LtK sg t u) : LtK sg (.c2 s t v) (.c2 s u x) := by
  obtain ⟨p, q, hpq, d⟩ := h
  refine ⟨p, q, hpq, ?_⟩
  rw [toks_key sg (t := .c2 s t v) ⟨ht, hv⟩, toks_key sg (t := .c2 s u x) ⟨hu, hx⟩, show (Tr.c2 s t v).size = (Tr.c2 s u x).size by show 1 + _ + _ = 1 + _ + _; rw [e, e2]]
  exact ((d.app _ _).pre [.inl 1]).pre _
theorem LtK.c2s {sg : Sg} {s : Str} {t u v x : Tr} (ht : Pl t) (hu : Pl u) (hv : Pl v) (hx : Pl x) (e : (Tr.c2 s t v).size = (Tr.c2 s u x).size) (h : t.size < u.size) : LtK sg (.c2 s t v) (.c2 s u x) := by
  obtain ⟨p, q, hpq, d⟩ := LtK.size (sg := sg) ht hu h
  refine ⟨p, q, hpq, ?_⟩
  rw [toks_key sg (t := .c2 s t v) ⟨ht, hv⟩, toks_key sg (t := .c2 s u x) ⟨hu, hx⟩, e]
  exact ((d.app _ _).pre [.inl 1]).pre _
theorem LtK.c2b {sg : Sg} {s : Str} {t v x : Tr} (ht : Pl t) (hv : Pl v) (hx : Pl x) (e2 : v.size = x.size) (h : LtK sg v x) : LtK sg (.c2 s t v) (.c2 s t x) := by
  obtain ⟨p, q, hpq, d⟩ := h
  refine ⟨p, q, hpq, ?_⟩
  rw [toks_key sg (t := .c2 s t v) ⟨ht, hv⟩, toks_key sg (t := .c2 s t x) ⟨ht, hx⟩, show (Tr.c2 s t v).size = (Tr.c2 s t x).size by show 1 + _ + _ = 1 + _ + _; rw [e2]]
  exact (((((d.app [.inl 0] [.inl 0]).pre [.inl 1]).pre _).pre [.inl 1])).pre _
theorem places_up {sg : Sg} (g : GSg sg) : sg.Pairwise fun s s' => place sg s.1 < place sg s'.1 := by
  have key : ∀ i (hi : i < sg.length), place sg (sg[i]).1 = i := fun i hi => by
    have hm : (sg[i]).1 ∈ sg.map (·.1) := List.mem_map.mpr ⟨_, List.getElem_mem hi, rfl⟩
    obtain ⟨h1, h2, _⟩ := place_at hm
    rw [List.getElem?_map, List.getElem?_map, List.getElem?_eq_getElem h1] at h2
    have h3 : (sg[place sg (sg[i]).1]).1 = (sg[i]).1 := V.str.inj (Option.some.inj h2)
    have nd := List.pairwise_iff_getElem.mp g.nd
    rcases Nat.lt_trichotomy (place sg (sg[i]).1) i with h | h | h
    · exact absurd (by rw [List.getElem_map, List.getElem_map]; exact h3) (nd _ _ (by rw [List.length_map]; exact h1) (by rw [List.length_map]; exact hi) h)
    · exact h
    · exact absurd (by rw [List.getElem_map, List.getElem_map]; exact h3.symm) (nd _ _ (by rw [List.length_map]; exact hi) (by rw [List.length_map]; exact h1) h)
  refine List.pairwise_iff_getElem.mpr fun i j hi hj hij => ?_
  rw [key i hi, key j hj]
  exact hij
theorem pairwise_mem {α : Type} {R S : α → α → Prop} {l : List α} (h : l.Pairwise R) (f : ∀ a ∈ l, ∀ b ∈ l, R a b → S a b) : l.Pairwise S := by
  refine List.pairwise_iff_getElem.mpr fun i j hi hj hij => f _ (List.getElem_mem hi) _ (List.getElem_mem hj) (List.pairwise_iff_getElem.mp h i j hi hj hij)
theorem ts_asc {sg : Sg} (g : GSg sg) : ∀ n, (ts sg n).Pairwise (LtK sg) := by
  intro n
  induction n using Nat.strongRecOn with
  | ind n ih =>
    cases n with
    | zero => exact List.Pairwise.nil
    | succ n =>
      have W := ts_wf g
      rw [ts_succ]
      unfold ov
      rw [List.pairwise_flatMap]
      constructor
      · intro s hs
        unfold ov1
        by_cases h0 : s.2 = 0
        · rw [if_pos h0]
          by_cases h1 : n + 1 = 1
          · rw [if_pos h1]; exact List.pairwise_singleton _ _
          · rw [if_neg h1]; exact List.Pairwise.nil
        · rw [if_neg h0]
          by_cases h1 : s.2 = 1
          · rw [if_pos h1, Nat.add_sub_cancel, bl_get sg (Nat.le_refl _), List.pairwise_map]
            refine pairwise_mem (ih n (by omega)) fun a ha b hb h => ?_
            obtain ⟨wa, ea⟩ := W n a ha
            obtain ⟨wb, eb⟩ := W n b hb
            exact LtK.c1 wa.pl wb.pl (by omega) h
          · rw [if_neg h1]
            unfold pr
            rw [List.pairwise_flatMap]
            constructor
            · intro i hi
              have hi := List.mem_range.mp hi
              rw [bl_get sg (by omega), bl_get sg (by omega), List.pairwise_flatMap]
              constructor
              · intro t ht
                rw [List.pairwise_map]
                refine pairwise_mem (ih _ (by omega)) fun a ha b hb h => ?_
                obtain ⟨wa, ea⟩ := W _ a ha
                obtain ⟨wb, eb⟩ := W _ b hb
                exact LtK.c2b (W _ t ht).1.pl wa.pl wb.pl (by omega) h
              · refine pairwise_mem (ih (i + 1) (by omega)) fun a ha b hb h x hx y hy => ?_
                obtain ⟨u, hu, rfl⟩ := List.mem_map.mp hx
                obtain ⟨v, hv, rfl⟩ := List.mem_map.mp hy
                obtain ⟨wa, ea⟩ := W _ a ha
                obtain ⟨wb, eb⟩ := W _ b hb
                obtain ⟨wu, eu⟩ := W _ u hu
                obtain ⟨wv, ev⟩ := W _ v hv
                exact LtK.c2a wa.pl wb.pl wu.pl wv.pl (by omega) (by omega) h
            · refine pairwise_mem List.pairwise_lt_range fun i hi j hj hij x hx y hy => ?_
              have hi := List.mem_range.mp hi
              have hj := List.mem_range.mp hj
              rw [bl_get sg (by omega), bl_get sg (by omega)] at hx hy
              obtain ⟨a, ha, hx⟩ := List.mem_flatMap.mp hx
              obtain ⟨u, hu, rfl⟩ := List.mem_map.mp hx
              obtain ⟨b, hb, hy⟩ := List.mem_flatMap.mp hy
              obtain ⟨v, hv, rfl⟩ := List.mem_map.mp hy
              obtain ⟨wa, ea⟩ := W _ a ha
              obtain ⟨wb, eb⟩ := W _ b hb
              obtain ⟨wu, eu⟩ := W _ u hu
              obtain ⟨wv, ev⟩ := W _ v hv
              exact LtK.c2s wa.pl wb.pl wu.pl wv.pl (by show 1 + _ + _ = 1 + _ + _; omega) (by omega)
      · refine pairwise_mem (places_up g) fun s hs s' hs' h x hx y hy => ?_
        have sx : x.sym = s.1 := by
          rcases mem_ov1 (g.ar s hs) hx with ⟨_, _, rfl⟩ | ⟨_, u, _, rfl⟩ | ⟨_, i, _, u, _, v, _, rfl⟩ <;> rfl
        have sy : y.sym = s'.1 := by
          rcases mem_ov1 (g.ar s' hs') hy with ⟨_, _, rfl⟩ | ⟨_, u, _, rfl⟩ | ⟨_, i, _, u, _, v, _, rfl⟩ <;> rfl
        have hx' := W (n + 1) x (by rw [ts_succ]; exact List.mem_flatMap.mpr ⟨s, hs, hx⟩)
        have hy' := W (n + 1) y (by rw [ts_succ]; exact List.mem_flatMap.mpr ⟨s', hs', hy⟩)
        exact LtK.sym hx'.1.pl hy'.1.pl (by omega) (by rw [sx, sy]; exact h)
/-! ### the numbers are below some bound -/
theorem sum_le {c : Nat} : ∀ {l : List Nat}, (∀ x ∈ l, x ≤ c) → l.sum ≤ l.length * c
  | [], _ => by simp
  | a :: l, h => by
    have h1 := h a List.mem_cons_self
    have h2 := sum_le fun x hx => h x (List.mem_cons_of_mem _ hx)
    rw [List.sum_cons, List.length_cons, Nat.add_mul]
    omega
theorem ct_small {sg : Sg} (g : GSg sg) : ∀ n, n ≤ 60 → ct sg n ≤ 2 ^ (20 * n) := by
  intro n
  induction n using Nat.strongRecOn with
  | ind n ih =>
    intro hn
    cases n with
    | zero => exact Nat.zero_le _
    | succ n =>
      rw [ct_succ]
      have each : ∀ s ∈ sg, co1 (cl sg n) s.2 (n + 1) ≤ 60 * 2 ^ (20 * n) := fun s hs => by
        have hp : 1 ≤ 2 ^ (20 * n) := Nat.one_le_two_pow
        unfold co1
        by_cases h0 : s.2 = 0
        · rw [if_pos h0]
          split <;> omega
        · rw [if_neg h0]
          by_cases h1 : s.2 = 1
          · rw [if_pos h1, Nat.add_sub_cancel, cl_get sg (Nat.le_refl _)]
            have := ih n (by omega) (by omega)
            omega
          · rw [if_neg h1]
            refine Nat.le_trans (sum_le (c := 2 ^ (20 * n)) fun x hx => ?_) ?_
            · obtain ⟨i, hi, rfl⟩ := List.mem_map.mp hx
              have hi := List.mem_range.mp hi
              rw [cl_get sg (by omega), cl_get sg (by omega)]
              refine Nat.le_trans (Nat.mul_le_mul (ih (i + 1) (by omega) (by omega)) (ih (n + 1 - 2 - i) (by omega) (by omega))) ?_
              rw [← Nat.pow_add]
              exact Nat.pow_le_pow_right (by decide) (by omega)
            · rw [List.length_map, List.length_range]
              exact Nat.mul_le_mul_right _ (by omega)
      have h4 : co sg (cl sg n) (n + 1) ≤ sg.length * (60 * 2 ^ (20 * n)) := by
        have := sum_le (l := sg.map fun s => co1 (cl sg n) s.2 (n + 1)) (c := 60 * 2 ^ (20 * n)) fun x hx => by
          obtain ⟨s, hs, rfl⟩ := List.mem_map.mp hx
          exact each s hs
        rw [List.length_map] at this
        exact this
      refine Nat.le_trans h4 ?_
      have hl := g.len.2
      have e : 2 ^ (20 * (n + 1)) = 2 ^ 20 * 2 ^ (20 * n) := by rw [← Nat.pow_add]; congr 1; omega
      rw [e]
      refine Nat.le_trans (Nat.mul_le_mul_right _ hl) ?_
      rw [← Nat.mul_assoc]
      exact Nat.mul_le_mul_right _ (by decide)
/-- the law's own way to add up -/
theorem conv {C : List Nat} (h0 : C.getD 0 0 = 0) {m : Nat} (hm : 2 ≤ m) : ((List.range m).map fun k => C.getD k 0 * C.getD (m - 1 - k) 0).sum = ((List.range (m - 2)).map fun i => C.getD (i + 1) 0 * C.getD (m - 2 - i) 0).sum := by
  obtain ⟨j, rfl⟩ : ∃ j, m = j + 2 := ⟨m - 2, by omega⟩
  rw [List.range_succ_eq_map, List.map_cons, List.sum_cons, h0, Nat.zero_mul, Nat.zero_add, List.map_map, List.range_succ, List.map_append, List.sum_append, Nat.add_sub_cancel]
  have e1 : (List.map ((fun k => C.getD k 0 * C.getD (j + 2 - 1 - k) 0) ∘ Nat.succ) [j]).sum = 0 := by
    show C.getD (j + 1) 0 * C.getD (j + 2 - 1 - (j + 1)) 0 + 0 = 0
    rw [show j + 2 - 1 - (j + 1) = 0 by omega, h0, Nat.mul_zero]
  rw [e1, Nat.add_zero]
  congr 1
  refine List.map_congr_left fun i hi => ?_
  show C.getD (i + 1) 0 * C.getD (j + 2 - 1 - (i + 1)) 0 = _
  rw [show j + 2 - 1 - (i + 1) = j - i by omega]
end Pg

set_option Elab.async false
set_option linter.all false
set_option maxRecDepth 100000
set_option maxHeartbeats 4000000
namespace Pg
open PySem PySem.Spec PyProof.Rows L2
/-! ### lists of numbers; comprehensions whose step changes nothing that stands -/
def cv (C : List Nat) : List V := C.map fun n => V.int (n : Nat)
theorem cv_int (C : List Nat) : cv C = (C.map fun n : Nat => (n : Int)).map V.int := by unfold cv; rw [List.map_map]; rfl
theorem sum_int : ∀ l : List Nat, (l.map fun n : Nat => (n : Int)).sum = ((l.sum : Nat) : Int)
  | [] => rfl
  | a :: l => by rw [List.map_cons, List.sum_cons, sum_int l, List.sum_cons]; omega
theorem getD_at {α : Type} {l : List α} {d : α} {k : Nat} (h : k < l.length) : l[k]? = some (l.getD k d) := by
  rw [List.getD_eq_getElem?_getD, List.getElem?_eq_getElem h]; rfl
theorem at_cv {C : List Nat} {i : Int} {k : Nat} (e : i = (k : Int)) (h : k < C.length) : atI (cv C) i = some (.int (C.getD k 0 : Nat)) := by
  subst e
  refine atI_nat ?_
  show (C.map _)[k]? = _
  rw [List.getElem?_map, getD_at (d := 0) h]
  rfl
section
variable {K : PySem.W.Frag} {σ : L2.St} {H : Hp} {Q : VK} {p : Addr} {rs : List Addr} {sg : Sg} {j j1 j2 : Nat} {te : TE}
theorem rd_rng {lo : Int} {n : Nat} {wi : TI} (f : Nat → V) (hwi : ∀ R, R (Itr lo n) H → wi σ H R) (hn : n ≤ 100000) (hw : ∀ x, wipe ((wipe σ [j]).set j (some x)) [j] = wipe σ [j])
    (ht : ∀ i H', i < n → Same H H' → ∀ Q', (∀ H2, Same H' H2 → Q' (f i) H2) → te ((wipe σ [j]).set j (some (.int (lo + i)))) H' Q')
    (h : ∀ D H', H D = none → Same H H' → H' D = some (.lst ((List.range n).map f)) → Q (.ref D) H') : tLc wi (gName j) tYes te [j] σ H Q := by
  refine hwi _ (fun D nD => lc_range (fun i H' => Same H H' ∧ H' D = some (.lst ((List.range i).map f))) ⟨Same.new nD, upd_same⟩ (fun i H' hi iv => ?_) (fun H' iv => h D H' nD iv.1 iv.2))
  obtain ⟨sm, hd⟩ := iv
  refine ⟨hw _, yes_turn ?_⟩
  refine ht i H' hi sm _ (fun H2 s2 => ?_)
  refine ⟨_, s2 _ _ hd, by rw [List.length_map, List.length_range, sizeLine_eq]; omega, Same.mut nD (sm.trans s2), ?_⟩
  rw [upd_same, List.range_succ, List.map_append]
  rfl
theorem rd_prs {i : Nat} (f : Str × Int → V) (hi : σ[i]? = some (some (.ref p))) (hS : SgAt K H p sg) (h4 : sg.length ≤ 1000) (hw : ∀ x y, wipe (((wipe σ [j1, j2]).set j1 (some x)).set j2 (some y)) [j1, j2] = wipe σ [j1, j2])
    (ht : ∀ s H', s ∈ sg → Same H H' → ∀ Q', (∀ H2, Same H' H2 → Q' (f s) H2) → te (((wipe σ [j1, j2]).set j1 (some (.str s.1))).set j2 (some (.int s.2))) H' Q')
    (h : ∀ D H', H D = none → Same H H' → H' D = some (.lst (sg.map f)) → Q (.ref D) H') :
    tLc (iTup K (tVar i)) (gTup K 2 (gCons (gName j1) (gCons (gName j2) gNil))) tYes te [j1, j2] σ H Q := by
  obtain ⟨rs, hT, pr⟩ := hS.ex
  refine ⟨_, hi, p, rfl, ⟨_, hT⟩, fun D nD => lc_tup (K := K) (xs := rs.map V.ref) (fun i H' => Same H H' ∧ H' D = some (.lst ((sg.take i).map f))) ⟨Same.new nD, upd_same⟩ (fun i H' _ iv => TK.same iv.1 _ _ hT) (fun i x H' hx iv => ?_) (fun H' iv => ?_)⟩
  · rw [List.getElem?_map] at hx
    obtain ⟨r, e, rfl⟩ : ∃ r, rs[i]? = some r ∧ V.ref r = x := by
      cases e : rs[i]? with
      | none => rw [e] at hx; cases hx
      | some z => rw [e] at hx; exact ⟨z, rfl, Option.some.inj hx⟩
    obtain ⟨s, es, hr⟩ := Pg.paired_get pr e
    obtain ⟨sm, hd⟩ := iv
    refine ⟨r, _, rfl, TK.same sm _ _ hr, rfl, _, _, rfl, _, _, rfl, rfl, hw _ _, ?_⟩
    refine yes_turn (ht s H' (List.mem_of_getElem? es) sm _ fun H2 s2 => ⟨_, s2 _ _ hd, ?_, Same.mut nD (sm.trans s2), ?_⟩)
    · rw [List.length_map, List.length_take]
      exact small1000 (by omega)
    · rw [upd_same, take_snoc es, List.map_append]
      rfl
  · obtain ⟨sm, hd⟩ := iv
    rw [List.length_map, paired_len pr, List.take_length] at hd
    exact h D H' nD sm hd
end
theorem log2_small {n : Nat} (h : n ≤ 2 ^ 1200) : n.log2 ≤ 1200 := by
  by_cases e : n = 0
  · subst e; decide
  · have := (Nat.log2_lt e).mpr (show n < 2 ^ 1201 from Nat.lt_of_le_of_lt h (Nat.pow_lt_pow_right (by decide) (by decide)))
    omega
theorem mulW {a b : Nat} (ha : a ≤ 2 ^ 1200) (hb : b ≤ 2 ^ 1200) : CMulW (a : Int) (b : Int) := by
  have h1 := log2_small ha
  have h2 := log2_small hb
  show (a : Int).natAbs.log2 + (b : Int).natAbs.log2 < 1000000
  rw [Int.natAbs_natCast, Int.natAbs_natCast]
  omega
theorem cl_small {sg : Sg} (g : GSg sg) {n : Nat} (hn : n ≤ 60) (k : Nat) : (cl sg n).getD k 0 ≤ 2 ^ 1200 := by
  by_cases hk : k ≤ n
  · rw [cl_get sg hk]
    exact Nat.le_trans (ct_small g k (by omega)) (Nat.pow_le_pow_right (by decide) (by omega))
  · rw [List.getD_eq_getElem?_getD, List.getElem?_eq_none (by rw [cl_len]; omega)]
    exact Nat.zero_le _
def spCov (K : PySem.W.Frag) : Sp := fun vs H Q _ => ∃ (c : Addr) (C : List Nat) (ar m : Int) (m' : Nat), vs = [.ref c, .int ar, .int m] ∧ SqL K H c (cv C) ∧ m = (m' : Int) ∧ C.length = m' ∧ (∀ k, C.getD k 0 ≤ 2 ^ 1200) ∧ 1 ≤ m' ∧ m' ≤ 60 ∧ 0 ≤ ar ∧ ar ≤ 2 ∧ ∀ H', Same H H' → Q (.int (co1 C ar m' : Nat)) H'
def spCto (K : PySem.W.Frag) : Sp := fun vs H Q _ => ∃ (g : Addr) (sg : Sg) (n : Nat), vs = [.ref g, .int (n : Nat)] ∧ SgAt K H g sg ∧ GSg sg ∧ n ≤ 60 ∧ ∀ p H', H p = none → Same H H' → H' p = some (.lst (cv (cl sg n))) → Q (.ref p) H'
end Pg

set_option Elab.async false
set_option linter.all false
set_option maxRecDepth 100000
set_option maxHeartbeats 4000000
namespace Pg
open PySem PySem.Spec PyProof.Rows L2
theorem smallN {n : Nat} (h : n ≤ 100000) : n < sizeLine := by rw [sizeLine_eq]; omega
/-- lists of trees, by size -/
def BLat (K : PySem.W.Frag) (H : Hp) (b : Addr) (B : List (List Tr)) : Prop := ∃ rs : List Addr, SqL K H b (rs.map V.ref) ∧ Paired (fun r (ks : List Tr) => ∃ us, H r = some (.lst us) ∧ KidsAt K H us ks) rs B
section
variable {K : PySem.W.Frag} {H H' : Hp} {b : Addr} {B : List (List Tr)}
theorem BLat.same (s : Same H H') (h : BLat K H b B) : BLat K H' b B := by
  obtain ⟨rs, a, p⟩ := h
  exact ⟨rs, s.seq a, Paired.imp2 (fun _ _ ⟨us, e, k⟩ => ⟨us, s _ _ e, k.keep (TK.same s)⟩) p⟩
theorem BLat.at {k : Nat} {i : Int} (h : BLat K H b B) (e : i = (k : Int)) (hk : k < B.length) : ∃ xs r us, SqL K H b xs ∧ atI xs i = some (.ref r) ∧ H r = some (.lst us) ∧ KidsAt K H us (B.getD k []) := by
  obtain ⟨rs, a, p⟩ := h
  obtain ⟨r, er, us, h1, h2⟩ := Pg.paired_get2 p (getD_at (d := []) hk)
  exact ⟨_, r, us, a, by rw [e]; exact atI_nat (by rw [List.getElem?_map, er]; rfl), h1, h2⟩
end
section
variable {K : PySem.W.Frag} {σ : L2.St} {H : Hp} {Q : VK} {r : Addr} {us : List V} {ks : List Tr} {j : Nat} {te : TE}
/-- [f(tree) for tree in xs] over a list of trees -/
theorem rd_kidsL {wi : TI} (hwi : ∀ R, R (Itl K r) H → wi σ H R) (hS : SqL K H r us) (R : Hp → V → Tr → Prop) (mono : ∀ H H' v k, k ∈ ks → TK K H H' → R H v k → R H' v k) (pr : KidsAt K H us ks) (hlen : ks.length ≤ 100000)
    (hw : ∀ x, wipe ((wipe σ [j]).set j (some x)) [j] = wipe σ [j])
    (ht : ∀ u k H', k ∈ ks → Same H H' → TrAt K H' k u → ∀ Q', (∀ v H2, Same H' H2 → R H2 v k → Q' v H2) → te ((wipe σ [j]).set j (some u)) H' Q')
    (h : ∀ D H' ws, H D = none → Same H H' → H' D = some (.lst ws) → Paired (R H') ws ks → Q (.ref D) H') : tLc wi (gName j) tYes te [j] σ H Q := by
  refine hwi _ (fun D nD => ?_)
  have step : ∀ {H1 H2 : Hp} {ws : List V} {l : List Tr}, (∀ k ∈ l, k ∈ ks) → TK K H1 H2 → Paired (R H1) ws l → Paired (R H2) ws l := by
    intro H1 H2 ws l hl tk hp
    induction hp with
    | nil => exact .nil
    | cons a b ih => exact .cons (mono _ _ _ _ (hl _ List.mem_cons_self) tk a) (ih fun k hk => hl k (List.mem_cons_of_mem _ hk))
  refine lc_list (K := K) (xs := us) (fun i H' => Same H H' ∧ ∃ ws, H' D = some (.lst ws) ∧ Paired (R H') ws (ks.take i)) ⟨Same.new nD, [], upd_same, .nil⟩ (fun i H' _ iv => iv.1.seq hS) (fun i x H' hx iv => ?_) (fun H' iv => ?_)
  · obtain ⟨sm, ws, hd, hr⟩ := iv
    obtain ⟨k, ek, hk⟩ := Pg.paired_get pr hx
    have hlt : i < ks.length := (List.getElem?_eq_some_iff.mp ek).1
    refine ⟨hw _, yes_turn ?_⟩
    refine ht x k H' (List.mem_of_getElem? ek) sm (TrAt.keep (TK.same sm) hk) _ (fun v H2 s2 r2 => ?_)
    have hd2 := s2 _ _ hd
    refine ⟨ws, hd2, by rw [paired_len hr, List.length_take]; exact smallN (by omega), Same.mut nD (sm.trans s2), ws ++ [v], upd_same, ?_⟩
    rw [take_snoc ek]
    exact paired_app (step (fun k hk => List.mem_of_mem_take hk) ((TK.same s2).trans (TK.put hd2)) hr) (.cons (mono _ _ _ _ (List.mem_of_getElem? ek) (TK.put hd2) r2) .nil)
  · obtain ⟨sm, ws, hd, hr⟩ := iv
    rw [paired_len pr, List.take_length] at hr
    exact h D H' ws nD sm hd hr
end
theorem flat_take {α β : Type} (f : α → List β) (l : List α) (i : Nat) : ((l.take i).flatMap f).length ≤ (l.flatMap f).length := by
  have e : l.flatMap f = (l.take i).flatMap f ++ (l.drop i).flatMap f := by rw [← List.flatMap_append, List.take_append_drop]
  rw [e, List.length_append]
  omega
theorem range_take (n i : Nat) (h : i ≤ n) : (List.range n).take i = List.range i := by rw [List.take_range, Nat.min_eq_left h]
def spPov (K : PySem.W.Frag) : Sp := fun vs H Q _ => ∃ (s : Str) (b : Addr) (B : List (List Tr)) (m : Nat), vs = [.str s, .ref b, .int (m : Nat)] ∧ BLat K H b B ∧ B.length = m ∧ m ≤ 60 ∧ (∀ k, (B.getD k []).length ≤ 2000) ∧ (pr s B m).length ≤ 2000 ∧ (∀ k, ∀ t ∈ B.getD k [], Pl t) ∧
  ∀ p vs H', H p = none → Same H H' → H' p = some (.lst vs) → KidsAt K H' vs (pr s B m) → Q (.ref p) H'
def spTov (K : PySem.W.Frag) : Sp := fun vs H Q _ => ∃ (g b : Addr) (sg : Sg) (B : List (List Tr)) (m : Nat), vs = [.ref g, .ref b, .int (m : Nat)] ∧ SgAt K H g sg ∧ GSg sg ∧ BLat K H b B ∧ B.length = m ∧ 1 ≤ m ∧ m ≤ 60 ∧ (∀ k, (B.getD k []).length ≤ 2000) ∧ (ov sg B m).length ≤ 2000 ∧ (∀ k, ∀ t ∈ B.getD k [], Pl t) ∧
  ∀ p vs H', H p = none → Same H H' → H' p = some (.lst vs) → KidsAt K H' vs (ov sg B m) → Q (.ref p) H'
end Pg

set_option Elab.async false
set_option linter.all false
set_option maxRecDepth 100000
set_option maxHeartbeats 4000000
namespace Pg
open PySem PySem.Spec PyProof.Rows L2
/-! ### defs that may raise -/
structure CalX (P : Program) (w : World) (K : PySem.W.Frag) (mg : Str → Option Value) (base : Heap) (k : Nat) (x : Str) (sp : Sp) : Prop where
  ex : ∃ (f : Addr) (fd : FuncData) (ps : List Str), FnOk P w K mg base (L2.CX P w) k f fd ps sp ∧ mg x = some (.ref f) ∧ PySem.W.keepIn K (.ref f) = true ∧ Binds K fd ps []
theorem mk_calX {P : Program} {w : World} {K : PySem.W.Frag} {mg : Str → Option Value} {base : Heap} {x : Str} {st : Stmt} {f : Addr} {fd : FuncData} {N ps : List Str} {k : Nat} {sp : Sp} (F : FnP K x st f fd) (hm : mg x = some (.ref f)) (S : FnScope N ps (defScope st))
    (hb : ∀ (kV doc pm : Value) (an : Option Addr) (cdv ct : Value) (us : List Value), us.length = ps.length → bindArgs (PySem.W.fnOf x x (defArgs st) (defBody st) (defScope st) .none kV doc pm an cdv ct) ⟨us, []⟩ = pure (ps.zip us))
    (len : ∀ vs H Q E, sp vs H Q E → vs.length = ps.length)
    (body : ∀ (cdv : Value) (A : Around) (outer : List Env) (s : Shared) (H : Hp) (vs : List V) (Q : VK) (E : XK), Room k (A.deeper (envOfC x (defScope st) s.heap.objs.size f cdv)) → sp vs H Q E →
      ∃ t, PSs (cxOf (L2.CX P w) P w K mg base N x (defScope st) f cdv A outer s H E) (defBody st) t ∧ t { nx := fun _ H' => Q .non H', rt := Q } (start N vs) H) : CalX P w K mg base (k + 1) x sp :=
  ⟨f, fd, ps, F.ok S len body, hm, F.kp, F.bindsN hb⟩
section
variable {X : Cx} {k j : Nat} {x : Str} {sp : Sp} {W : WX} {p pos : Pos} {e : Expr} {es : List Expr} {t : TA}
theorem pe_cx (c : CalX X.prog X.w X.K X.mg X.base k x sp) (hr : Room j X.A) (hk : k ≤ j) (hg : Gl X x) (tk : Takes X W) (ha : PA X (e :: es) t)
    (hdb : (x == ("__debug__" : Str)) = false := by decide) (he : starEach (e :: es) X.env = (false, eval e X.env) :: starEach es X.env := by rfl) (hpl : (backTo pos (starEach es X.env)).any (·.1) = false := by rfl) :
    PE X (.Call (.Name x p) (e :: es) [] pos) (tCallS sp (WE W) t) := by
  obtain ⟨f, fd, ps, F, hm, kp, b⟩ := c.ex
  exact pe_callS F (hr.mono hk) hg hm kp b (fun σ => passAt tk σ) ha hdb he hpl
end
/-! isinstance of a caught exception whose class the reading tells -/
def rIsE2 (K : PySem.W.Frag) (cls : Value) (d : Option Addr) (D a : Addr) : List V → Hp → VK → Prop := fun xs H Q => cls = .ref D ∧ d = none ∧ rIsE K D a xs H Q
theorem call_isE2 {X : Cx} {a D : Addr} {oe : Obj} {pn : List (Addr × Obj)} {cls : Value} {d : Option Addr} (C : ExcC X.K D) (hz : Zc cls d oe) (hf : ∃ vs, oe.data = .fields vs) : CallR (X.suite a ((a, oe) :: pn)) (.builtin "isinstance") (rIsE2 X.K cls d D a) := by
  intro pins s σ H xs us Q I r ⟨e1, e2, h⟩
  subst e1 e2
  exact call_isE C hz hf pins s σ H xs us Q I r h
def rIsET (K : PySem.W.Frag) (cls : Value) (d : Option Addr) (D a : Addr) : List V → Hp → VK → Prop := fun xs H Q => cls = .ref D ∧ d = none ∧ ∃ (tp : Addr) (as : List Addr) (b : Bool), xs = [.ref a, .ref tp] ∧ H tp = some (.tup (as.map V.ref)) ∧ PySem.W.kitAny K (.ref D) (as.map Value.ref) = some b ∧ Q (.bl b) H
theorem vals_refs : ∀ {as : List Addr} {us : List Value}, Vals (as.map V.ref) us → us = as.map Value.ref
  | [], _, h => by cases h; rfl
  | a :: as, _, h => by
    cases h with
    | cons r t => cases r; rw [vals_refs t]; rfl
theorem call_isET {X : Cx} {a D : Addr} {oe : Obj} {pn : List (Addr × Obj)} {cls : Value} {d : Option Addr} (C : ExcC X.K D) (hz : Zc cls d oe) (hf : ∃ vs, oe.data = .fields vs) : CallR (X.suite a ((a, oe) :: pn)) (.builtin "isinstance") (rIsET X.K cls d D a) := by
  intro pins s σ H xs us Q I r ⟨e1, e2, tp, as, b, ex, ht, e, q⟩
  subst e1 e2 ex
  obtain ⟨u1, u2, rfl, r1, r2⟩ := vals2 r
  cases r1
  cases r2
  obtain ⟨hget, _⟩ := I.pin (a, oe) (List.mem_append.mpr (.inl List.mem_cons_self))
  obtain ⟨vs, hv⟩ := hf
  have J : PySem.W.InstAt s.heap a oe D none := by
    obtain ⟨oc, od, oda, osl⟩ := oe
    obtain ⟨h1, h2⟩ := hz
    dsimp only at h1 h2 hv
    subst h1 h2 hv
    exact ⟨hget, rfl, rfl, trivial⟩
  obtain ⟨hz', its, rv, o⟩ := I.hok tp _ ht
  obtain rfl := vals_refs rv
  obtain ⟨ob, ho, h1, n, h2⟩ := o
  obtain ⟨oc, od, oda, osl⟩ := ob
  dsimp only at h1 h2
  subst h1 h2
  exact PySem.W.kia_tup (PySem.W.handS_kitx_exc C.hg C.hk C.hs C.hd C.ha C.hn C.ht C.hm) I.kIn J ho e (fun z => nomatch z) fun tk => ⟨.bl b, H, I.kept (t' := tk) fun _ _ z => z, rfl, q⟩
structure Ex2 (K : PySem.W.Frag) (mg : Str → Option Value) (N T M Pe : Addr) : Prop where
  mc : ∃ u, mg "MAX_COUNTED" = some u ∧ RelV (.int 60) u
  ml : ∃ u, mg "MAX_LISTED" = some u ∧ RelV (.int 2000) u
  gN : mg "NotAllowed" = some (.ref N)
  gT : mg "TooLarge" = some (.ref T)
  gM : mg "Missing" = some (.ref M)
  gP : mg "PergolaError" = some (.ref Pe)
  xN : PySem.W.excIn K N He.veBase "ValueError.__new__" = true
  xT : PySem.W.excIn K T He.veBase "ValueError.__new__" = true
  kN : PySem.W.keepIn K (.ref N) = true
  kT : PySem.W.keepIn K (.ref T) = true
  bN : PySem.W.subIn K (.ref N) (.type "BaseException") = some true
  bT : PySem.W.subIn K (.ref T) (.type "BaseException") = some true
  tN : PySem.W.typeIn K (.ref N) = some (.type "type")
  tT : PySem.W.typeIn K (.ref T) = some (.type "type")
  eN : PySem.W.exmOne K (.ref N) (.ref N) = some true
  eT : PySem.W.exmOne K (.ref T) (.ref T) = some true
  cN : ExcC K N
  cT : ExcC K T
  iN : PySem.W.kitOne K (.ref N) (.ref Pe) = some true
  iT : PySem.W.kitOne K (.ref T) (.ref Pe) = some true
  aN : PySem.W.kitAny K (.ref N) [.ref T, .ref M] = some false
  aT : PySem.W.kitAny K (.ref T) [.ref N, .ref M] = some false
def spChk (N : Addr) : Sp := fun vs H Q E => ∃ n : Int, vs = [.int n] ∧ ((0 ≤ n ∧ n ≤ 60) → Q .non H) ∧ (¬ (0 ≤ n ∧ n ≤ 60) → E (.ref N) none H)
def spCnt (K : PySem.W.Frag) (N : Addr) : Sp := fun vs H Q E => ∃ (g : Addr) (sg : Sg) (n : Int), vs = [.ref g, .int n] ∧ SgAt K H g sg ∧ GSg sg ∧ ((0 ≤ n ∧ n ≤ 60) → ∀ H', Same H H' → Q (.int (ct sg n.toNat : Nat)) H') ∧ (¬ (0 ≤ n ∧ n ≤ 60) → E (.ref N) none H)
def spTrs (K : PySem.W.Frag) (N T : Addr) : Sp := fun vs H Q E => ∃ (g : Addr) (sg : Sg) (n : Int), vs = [.ref g, .int n] ∧ SgAt K H g sg ∧ GSg sg ∧ ((0 ≤ n ∧ n ≤ 60) → ct sg n.toNat ≤ 2000 → ∀ p vs H', H p = none → Same H H' → H' p = some (.lst vs) → KidsAt K H' vs (ts sg n.toNat) → Q (.ref p) H') ∧
  ((0 ≤ n ∧ n ≤ 60) → 2000 < ct sg n.toNat → ∀ H', Same H H' → E (.ref T) none H') ∧ (¬ (0 ≤ n ∧ n ≤ 60) → E (.ref N) none H)
end Pg

set_option Elab.async false
set_option linter.all false
set_option maxRecDepth 100000
set_option maxHeartbeats 4000000
namespace Pg
open PySem PySem.Spec PyProof.Rows L2
theorem mk_fng {P : Program} {w : World} {K : PySem.W.Frag} {mg : Str → Option Value} {base : Heap} {f : Addr} {fd : FuncData} {x : Str} {st : Stmt} {N ps : List Str} {k : Nat} {sp : Sp} (F : FnP K x st f fd) (S : FnScope N ps (defScope st)) (len : ∀ vs H Q E, sp vs H Q E → vs.length = ps.length)
    (body : ∀ (cdv : Value) (A : Around) (outer : List Env) (s : Shared) (H : Hp) (vs : List V) (Q : VK), (A.deeper (envOfC x (defScope st) s.heap.objs.size f cdv)).guards = some [] → Room k (A.deeper (envOfC x (defScope st) s.heap.objs.size f cdv)) → sp vs H Q E0 →
      ∃ t, PSs (cxOf CX0 P w K mg base N x (defScope st) f cdv A outer s H E0).nox (defBody st) t ∧ t { nx := fun _ H' => Q .non H', rt := Q } (start N vs) H) : FnG P w K mg base (k + 1) f fd ps sp := by
  obtain ⟨oc, od, dV, kV, doc, pm, an, cdv, ct, osl, rfl, lk, hcd, _, _⟩ := F.ex
  exact fng_of lk hcd S len fun A outer s H vs Q hg hr hsp => body cdv A outer s H vs Q hg hr hsp
theorem int_show {n : Int} (h : n.natAbs.log2 < 1920) : PyData.showable (.list [.int n]) = true ∧ PyData.hasDict (.list [.int n]) = false ∧ (PyData.shown (.list [.int n])).length ≤ sizeLine ∧ (PyData.list [.int n]).depth ≤ 70 := by
  refine ⟨?_, rfl, ?_, by simp [PyData.depth, PyData.depthAll]⟩
  · show (decide (n.natAbs.log2 < 1920) && true) = true
    rw [decide_eq_true h]; rfl
  · have e : PyData.shown (.list [.int n]) = (("[" : Str) ++ ("" : Str) ++ PySem.Str.ofString (toString n)) ++ ("]" : Str) := rfl
    rw [e, PySem.Str.length_append, PySem.Str.length_append]
    have h1 := int_text_len_1921 h
    have h2 : (("[" : Str) ++ ("" : Str)).length ≤ 10 := by decide +kernel
    have h3 : ("]" : Str).length ≤ 10 := by decide +kernel
    exact Nat.le_of_lt (smallN (Nat.le_trans (Nat.add_le_add (Nat.add_le_add h2 h1) h3) (by decide)))
def spSame1 : Sp := fun vs H Q _ => ∃ n : Int, vs = [.int n, .int n] ∧ n.natAbs.log2 < 1920 ∧ ∀ H', Same H H' → Q (.bl true) H'
def spRef (K : PySem.W.Frag) : Sp := fun vs H Q _ => ∃ (kd n : Int) (g : Addr) (sg : Sg), vs = [.int kd, .ref g, .int n] ∧ SgAt K H g sg ∧ GSg sg ∧ ¬ (0 ≤ n ∧ n ≤ 60) ∧ ∀ H', Same H H' → Q (.bl true) H'
def spLrg (K : PySem.W.Frag) : Sp := fun vs H Q _ => ∃ (n : Int) (g : Addr) (sg : Sg), vs = [.ref g, .int n] ∧ SgAt K H g sg ∧ GSg sg ∧ (0 ≤ n ∧ n ≤ 60) ∧ 2000 < ct sg n.toNat ∧ ∀ H', Same H H' → Q (.bl true) H'
end Pg

set_option Elab.async false
set_option linter.all false
set_option maxRecDepth 100000
set_option maxHeartbeats 4000000
namespace Pg
open PySem PySem.Spec PyProof.Rows L2
section
variable {K : PySem.W.Frag} {H H' : Hp}
mutual
theorem dp_same (s : Same H H') : ∀ (d : PyData) (v : V), Dp K H v d → Dp K H' v d
  | .none, _, h => by cases h; exact .non
  | .bool _, _, h => by cases h; exact .bl _
  | .int _, _, h => by cases h; exact .int _
  | .str _, _, h => by cases h; exact .str _
  | .list ds, _, h => by
    cases h with
    | lst hq ha => exact .lst (s.seq hq) (dpAll_same s ds _ ha)
  | .tuple ds, _, h => by
    cases h with
    | tup hq ha => exact .tup (TK.same s _ _ hq) (dpAll_same s ds _ ha)
  | .dict _, _, h => by cases h
theorem dpAll_same (s : Same H H') : ∀ (ds : List PyData) (vs : List V), DpAll K H vs ds → DpAll K H' vs ds
  | [], _, h => by cases h; exact .nil
  | d :: ds, _, h => by
    cases h with
    | cons a b => exact .cons (dp_same s d _ a) (dpAll_same s ds _ b)
end
end
section
variable {K : PySem.W.Frag} {σ : L2.St} {H : Hp} {Q : VK} {p r : Addr} {us : List V} {sg : Sg} {j j1 j2 : Nat} {te : TE} {tt : TT}
theorem if_of {b : Bool} {F G : Prop} (h1 : b = true → F) (h2 : b = false → G) : (if b = true then F else G) := by
  cases b with
  | true => rw [if_pos rfl]; exact h1 rfl
  | false => rw [if_neg Bool.false_ne_true]; exact h2 rfl
/-- [f(sign, arity) for sign, arity in signs if ..] -/
theorem rd_prsIf {i : Nat} (f : Str × Int → V) (b : Str × Int → Bool) (hi : σ[i]? = some (some (.ref p))) (hS : SgAt K H p sg) (h4 : sg.length ≤ 1000) (hw : ∀ x y, wipe (((wipe σ [j1, j2]).set j1 (some x)).set j2 (some y)) [j1, j2] = wipe σ [j1, j2])
    (htt : ∀ s H', s ∈ sg → Same H H' → ∀ Q' : Bool → Hp → Prop, Q' (b s) H' → tt (((wipe σ [j1, j2]).set j1 (some (.str s.1))).set j2 (some (.int s.2))) H' Q')
    (ht : ∀ s H', s ∈ sg → Same H H' → ∀ Q', (∀ H2, Same H' H2 → Q' (f s) H2) → te (((wipe σ [j1, j2]).set j1 (some (.str s.1))).set j2 (some (.int s.2))) H' Q')
    (h : ∀ D H', H D = none → Same H H' → H' D = some (.lst ((sg.filter b).map f)) → Q (.ref D) H') :
    tLc (iTup K (tVar i)) (gTup K 2 (gCons (gName j1) (gCons (gName j2) gNil))) tt te [j1, j2] σ H Q := by
  obtain ⟨rs, hT, pr⟩ := hS.ex
  refine ⟨_, hi, p, rfl, ⟨_, hT⟩, fun D nD => lc_tup (K := K) (xs := rs.map V.ref) (fun i H' => Same H H' ∧ H' D = some (.lst (((sg.take i).filter b).map f))) ⟨Same.new nD, upd_same⟩ (fun i H' _ iv => TK.same iv.1 _ _ hT) (fun i x H' hx iv => ?_) (fun H' iv => ?_)⟩
  · rw [List.getElem?_map] at hx
    obtain ⟨r, e, rfl⟩ : ∃ r, rs[i]? = some r ∧ V.ref r = x := by
      cases e : rs[i]? with
      | none => rw [e] at hx; cases hx
      | some z => rw [e] at hx; exact ⟨z, rfl, Option.some.inj hx⟩
    obtain ⟨s, es, hr⟩ := Pg.paired_get pr e
    obtain ⟨sm, hd⟩ := iv
    refine ⟨r, _, rfl, TK.same sm _ _ hr, rfl, _, _, rfl, _, _, rfl, rfl, hw _ _, ?_⟩
    refine htt s H' (List.mem_of_getElem? es) sm _ (if_of (fun e1 => ?_) fun e1 => ?_)
    · refine ht s H' (List.mem_of_getElem? es) sm _ fun H2 s2 => ⟨_, s2 _ _ hd, ?_, Same.mut nD (sm.trans s2), ?_⟩
      · rw [List.length_map]
        have := List.length_filter_le b (sg.take i)
        rw [List.length_take] at this
        exact small1000 (by omega)
      · rw [upd_same, take_snoc es, List.filter_append, List.map_append]
        have : [s].filter b = [s] := by rw [List.filter_cons_of_pos e1]; rfl
        rw [this]
        rfl
    · refine ⟨sm, ?_⟩
      rw [hd, take_snoc es, List.filter_append]
      have : [s].filter b = [] := by rw [List.filter_cons_of_neg (by rw [e1]; decide)]; rfl
      rw [this, List.append_nil]
  · obtain ⟨sm, hd⟩ := iv
    rw [List.length_map, paired_len pr, List.take_length] at hd
    exact h D H' nD sm hd
/-- [f(x) for x in xs] over a list -/
theorem rd_mapL {α : Type} {ks : List α} {wi : TI} (F : V → α → Prop) (f : α → V) (hwi : ∀ R, R (Itl K r) H → wi σ H R) (hS : SqL K H r us) (pr : Paired F us ks) (hlen : ks.length ≤ 100000) (hw : ∀ x, wipe ((wipe σ [j]).set j (some x)) [j] = wipe σ [j])
    (ht : ∀ u k H', k ∈ ks → F u k → Same H H' → ∀ Q', (∀ H2, Same H' H2 → Q' (f k) H2) → te ((wipe σ [j]).set j (some u)) H' Q')
    (h : ∀ D H', H D = none → Same H H' → H' D = some (.lst (ks.map f)) → Q (.ref D) H') : tLc wi (gName j) tYes te [j] σ H Q := by
  refine hwi _ (fun D nD => ?_)
  refine lc_list (K := K) (xs := us) (fun i H' => Same H H' ∧ H' D = some (.lst ((ks.take i).map f))) ⟨Same.new nD, upd_same⟩ (fun i H' _ iv => iv.1.seq hS) (fun i x H' hx iv => ?_) (fun H' iv => ?_)
  · obtain ⟨sm, hd⟩ := iv
    obtain ⟨k, ek, hk⟩ := Pg.paired_get pr hx
    refine ⟨hw _, yes_turn ?_⟩
    refine ht x k H' (List.mem_of_getElem? ek) hk sm _ (fun H2 s2 => ?_)
    refine ⟨_, s2 _ _ hd, ?_, Same.mut nD (sm.trans s2), ?_⟩
    · have := (List.getElem?_eq_some_iff.mp ek).1
      rw [List.length_map, List.length_take]; exact smallN (by omega)
    · rw [upd_same, take_snoc ek, List.map_append]; rfl
  · obtain ⟨sm, hd⟩ := iv
    rw [paired_len pr, List.take_length] at hd
    exact h D H' nD sm hd
end
/-! ### numbers of constants; the one pair of a word -/
theorem c0_len : ∀ l : Sg, (l.map fun s => co1 [0] s.2 1).sum = (l.filter fun s => decide (V.int s.2 = V.int 0)).length
  | [] => rfl
  | s :: l => by
    rw [List.map_cons, List.sum_cons, c0_len l]
    by_cases h : s.2 = 0
    · rw [List.filter_cons_of_pos (p := fun s : Str × Int => decide (V.int s.2 = V.int 0)) (show decide (V.int s.2 = V.int 0) = true from decide_eq_true (by rw [h])), List.length_cons]
      unfold co1
      rw [if_pos h, if_pos rfl]
      omega
    · rw [List.filter_cons_of_neg (by simp [h])]
      unfold co1
      rw [if_neg h]
      by_cases h1 : s.2 = 1
      · rw [if_pos h1]; show 0 + _ = _; omega
      · rw [if_neg h1]; show 0 + _ = _; omega
theorem cl_one (sg : Sg) : cl sg 1 = [0, (sg.filter fun s => decide (V.int s.2 = V.int 0)).length] := by
  show [0] ++ [co sg [0] 1] = _
  unfold co
  rw [c0_len]
  rfl
theorem filter_one {x : Str} {a : Int} : ∀ {sg : Sg}, (sg.map (·.1)).Nodup → (x, a) ∈ sg → (sg.filter fun s => decide (V.str s.1 = V.str x)) = [(x, a)]
  | [], _, h => absurd h List.not_mem_nil
  | s :: sg, nd, h => by
    rw [List.map_cons, List.nodup_cons] at nd
    rcases List.mem_cons.mp h with e | e
    · subst e
      rw [List.filter_cons_of_pos (p := fun s : Str × Int => decide (V.str s.1 = V.str x)) (a := (x, a)) (decide_eq_true rfl)]
      have : (sg.filter fun s => decide (V.str s.1 = V.str x)) = [] := List.filter_eq_nil_iff.mpr fun s hs z => nd.1 (List.mem_map.mpr ⟨s, hs, V.str.inj (of_decide_eq_true z)⟩)
      rw [this]
    · have : s.1 ≠ x := fun z => nd.1 (List.mem_map.mpr ⟨_, e, z.symm⟩)
      rw [List.filter_cons_of_neg (by simp [this])]
      exact filter_one nd.2 e
def spLcs (K : PySem.W.Frag) : Sp := fun vs H Q _ => ∃ (g : Addr) (sg : Sg), vs = [.ref g] ∧ SgAt K H g sg ∧ GSg sg ∧ ∀ p H', H p = none → Same H H' → H' p = some (.lst (cv (cl sg 60))) → Q (.ref p) H'
def spIst (K : PySem.W.Frag) (d : Nat) : Sp := fun vs H Q _ => ∃ (g : Addr) (sg : Sg) (v : V) (t : Tr), vs = [.ref g, v] ∧ SgAt K H g sg ∧ GSg sg ∧ TrAt K H t v ∧ Wf sg [] t ∧ t.dep ≤ d ∧ ∀ H', Same H H' → Q (.bl true) H'
end Pg

set_option Elab.async false
set_option linter.all false
set_option maxRecDepth 100000
set_option maxHeartbeats 4000000
namespace Pg
open PySem PySem.Spec PyProof.Rows L2
/-- a tree as data -/
def trD : Tr → PyData
  | .nm x => .str x
  | .c0 s => .tuple [.str s]
  | .c1 s t => .tuple [.str s, trD t]
  | .c2 s t u => .tuple [.str s, trD t, trD u]
theorem tr_dp {K : PySem.W.Frag} {H : Hp} : ∀ {t : Tr} {v : V}, TrAt K H t v → Dp K H v (trD t)
  | .nm _, _, h => by rw [show _ = _ from h]; exact .str _
  | .c0 _, _, ⟨p, e, q⟩ => by rw [e]; exact .tup q (.cons (.str _) .nil)
  | .c1 _ _, _, ⟨p, u, e, q, r⟩ => by rw [e]; exact .tup q (.cons (.str _) (.cons (tr_dp r) .nil))
  | .c2 _ _ _, _, ⟨p, u, u', e, q, r, r'⟩ => by rw [e]; exact .tup q (.cons (.str _) (.cons (tr_dp r) (.cons (tr_dp r') .nil)))
theorem kids_dp {K : PySem.W.Frag} {H : Hp} : ∀ {us : List V} {ks : List Tr}, KidsAt K H us ks → DpAll K H us (ks.map trD)
  | _, _, .nil => .nil
  | _, _, .cons a b => .cons (tr_dp a) (kids_dp b)
theorem Wd.ok {i : Nat} {w : Str} (h : Wd i w) : PyData.strOk w = true := by
  have hc : ∀ c ∈ cs w, c < 0x110000 := fun c hc => by
    rcases h with h | ⟨h1, h2⟩
    · rcases h.2.2 c hc with e | e | e | e <;> omega
    · rw [h2] at hc
      rcases List.mem_cons.mp hc with e | e
      · omega
      · rw [List.mem_singleton] at e
        omega
  show w.cps.all (· < 0x110000) = true
  rw [← Array.all_toList]
  exact List.all_eq_true.mpr fun c h => decide_eq_true (hc c h)
theorem GSg.ok {sg : Sg} (g : GSg sg) {x : Str} {a : Int} (h : (x, a) ∈ sg) : PyData.strOk x = true := let ⟨_, w⟩ := g.wd _ h; w.ok
theorem tr_lay {sg : Sg} (g : GSg sg) : ∀ {t : Tr}, Wf sg [] t → (trD t).canLay0 = true
  | .nm _, h => absurd h List.not_mem_nil
  | .c0 s, h => by simp only [trD, PyData.canLay0, PyData.canLayAll0, g.ok (show (s, 0) ∈ sg from h), Bool.and_self]
  | .c1 s t, h => by simp only [trD, PyData.canLay0, PyData.canLayAll0, g.ok h.1, tr_lay g (t := t) h.2, Bool.and_self]
  | .c2 s t u, h => by simp only [trD, PyData.canLay0, PyData.canLayAll0, g.ok h.1, tr_lay g (t := t) h.2.1, tr_lay g (t := u) h.2.2, Bool.and_self]
theorem tr_depth : ∀ t : Tr, (trD t).depth ≤ t.dep
  | .nm _ => Nat.zero_le _
  | .c0 s => by simp [trD, PyData.depth, PyData.depthAll, Tr.dep]
  | .c1 s t => by
    have := tr_depth t
    simp only [trD, PyData.depth, PyData.depthAll, Tr.dep]
    omega
  | .c2 s t u => by
    have := tr_depth t
    have := tr_depth u
    simp only [trD, PyData.depth, PyData.depthAll, Tr.dep]
    omega
theorem tr_alike : ∀ t : Tr, PySem.W.alike (trD t) (trD t) = true
  | .nm _ => rfl
  | .c0 s => rfl
  | .c1 s t => by simp only [trD, PySem.W.alike, PySem.W.alikeAll, tr_alike t, Bool.and_self]
  | .c2 s t u => by simp only [trD, PySem.W.alike, PySem.W.alikeAll, tr_alike t, tr_alike u, Bool.and_self]
theorem trs_alike : ∀ ts : List Tr, PySem.W.alikeAll (ts.map trD) (ts.map trD) = true
  | [] => rfl
  | t :: ts => by rw [List.map_cons, PySem.W.alikeAll, tr_alike t, trs_alike ts]; rfl
theorem trs_lay {sg : Sg} (g : GSg sg) : ∀ {ts : List Tr}, (∀ t ∈ ts, Wf sg [] t) → PyData.canLayAll0 (ts.map trD) = true
  | [], _ => rfl
  | t :: ts, h => by
    rw [List.map_cons, PyData.canLayAll0, tr_lay g (h t List.mem_cons_self), trs_lay g fun k hk => h k (List.mem_cons_of_mem _ hk)]
    rfl
theorem trs_depth : ∀ {ts : List Tr}, (∀ t ∈ ts, t.dep ≤ 60) → PyData.depthAll (ts.map trD) ≤ 60
  | [], _ => by show PyData.depthAll [] ≤ 60; decide
  | t :: ts, h => by
    have h1 := h t List.mem_cons_self
    have h2 := tr_depth t
    have h3 := trs_depth fun k hk => h k (List.mem_cons_of_mem _ hk)
    rw [List.map_cons, PyData.depthAll]
    omega
theorem trs_shaped {sg : Sg} (g : GSg sg) {ts : List Tr} (h : ∀ t ∈ ts, Wf sg [] t) (hd : ∀ t ∈ ts, t.dep ≤ 60) : SeqAt.shaped (.list (ts.map trD)) = true := by
  have h1 := trs_depth hd
  have h2 : (PyData.list (ts.map trD)).canLay0 = true := by rw [PyData.canLay0]; exact trs_lay g h
  have h3 : (PyData.list (ts.map trD)).depth ≤ 64 := by rw [PyData.depth]; omega
  unfold SeqAt.shaped
  rw [h2, decide_eq_true h3]
  rfl
theorem trs_eqv (ts : List Tr) : PyData.eqv (.list (ts.map trD)) (.list (ts.map trD)) = true := PySem.W.eqv_refl_alike _ (by rw [PySem.W.alike]; exact trs_alike ts)
theorem ts_next {sg : Sg} (g : GSg sg) {n k : Nat} (h : k + 1 < (ts sg n).length) : PySem.W.dataLt (keyD sg ((ts sg n)[k]'(by omega))) (keyD sg ((ts sg n)[k + 1])) = true :=
  LtK.lt (List.pairwise_iff_getElem.mp (ts_asc g n) k (k + 1) (by omega) h (by omega))
theorem tyX_lst {K : PySem.W.Frag} {H : Hp} {p : Addr} {xs : List V} (h : H p = some (.lst xs)) : TyX K H (.ref p) (.type "list") := .base (.lst h)
theorem all_true {α : Type} (l : List α) : (l.map fun _ => true).all id = true := by rw [List.all_map]; exact List.all_eq_true.mpr fun _ _ => rfl
def spLst (K : PySem.W.Frag) : Sp := fun vs H Q _ => ∃ (g : Addr) (sg : Sg) (n : Nat), vs = [.ref g, .int (n : Nat), .int (ct sg n : Nat)] ∧ SgAt K H g sg ∧ GSg sg ∧ n ≤ 60 ∧ ct sg n ≤ 2000 ∧ ∀ H', Same H H' → Q (.bl true) H'
end Pg

set_option Elab.async false
set_option linter.all false
set_option maxRecDepth 100000
set_option maxHeartbeats 4000000
namespace Pg
open PySem PySem.Spec PyProof.Rows L2
theorem at_ct {sg : Sg} {i : Int} {k : Nat} (e : i = (k : Int)) (h : k ≤ 60) : atI (cv (cl sg 60)) i = some (.int (ct sg k : Nat)) := by
  rw [at_cv e (by rw [cl_len]; omega), cl_get sg h]
section
variable {K : PySem.W.Frag} {σ : L2.St} {H : Hp} {Q : VK} {j : Nat} {tt : TT} {te : TE}
theorem rd_rngIf {n : Nat} {wi : TI} (b : Nat → Bool) (hwi : ∀ R, R (Itr 0 n) H → wi σ H R) (hn : n ≤ 1000) (hw : ∀ x, wipe ((wipe σ [j]).set j (some x)) [j] = wipe σ [j])
    (hv : ∀ x, ((wipe σ [j]).set j (some x))[j]? = some (some x))
    (ht : ∀ i H', i < n → Same H H' → ∀ Q' : Bool → Hp → Prop, Q' (b i) H' → tt ((wipe σ [j]).set j (some (.int (i : Nat)))) H' Q')
    (h : ∀ D H', H D = none → Same H H' → H' D = some (.lst (cv ((List.range n).filter b))) → Q (.ref D) H') : tLc wi (gName j) tt (tVar j) [j] σ H Q := by
  refine hwi _ (fun D nD => lc_range (lo := 0) (fun i H' => Same H H' ∧ H' D = some (.lst (cv ((List.range i).filter b)))) ⟨Same.new nD, upd_same⟩ (fun i H' hi iv => ?_) (fun H' iv => h D H' nD iv.1 iv.2))
  obtain ⟨sm, hd⟩ := iv
  rw [Int.zero_add]
  refine ⟨hw _, ht i H' hi sm _ (if_of (fun e => ?_) fun e => ?_)⟩
  · refine ⟨_, hv _, _, hd, ?_, Same.mut nD sm, ?_⟩
    · show (List.map _ _).length < sizeLine
      have := List.length_filter_le b (List.range i)
      rw [List.length_range] at this
      rw [List.length_map]
      exact smallN (by omega)
    · rw [upd_same, List.range_succ, List.filter_append]
      have : [i].filter b = [i] := by rw [List.filter_cons_of_pos e]; rfl
      rw [this]
      show _ = some (HO.lst ((_ ++ [i]).map _))
      rw [List.map_append]
      rfl
  · refine ⟨sm, ?_⟩
    rw [hd, List.range_succ, List.filter_append]
    have : [i].filter b = [] := by rw [List.filter_cons_of_neg (by rw [e]; decide)]; rfl
    rw [this, List.append_nil]
end
/-- the sizes that the law chooses from -/
structure FitI (sg : Sg) (i : Nat) (F : List Nat) : Prop where
  len : F.length ≤ i
  ok : ∀ k ∈ F, k < i ∧ ct sg k ≤ 2000
  ne : 0 < i → F ≠ []
theorem FitI.snoc {sg : Sg} {i : Nat} {F : List Nat} (f : FitI sg i F) (h : ct sg i ≤ 2000) : FitI sg (i + 1) (F ++ [i]) :=
  ⟨by rw [List.length_append, List.length_singleton]; have := f.len; omega, fun k hk => by
    rcases List.mem_append.mp hk with e | e
    · have := f.ok k e; omega
    · rw [List.mem_singleton] at e; rw [e]; exact ⟨by omega, h⟩, fun _ => by simp⟩
theorem FitI.skip {sg : Sg} {i : Nat} {F : List Nat} (f : FitI sg i F) (h : i ≠ 0) : FitI sg (i + 1) F := ⟨by have := f.len; omega, fun k hk => by have := f.ok k hk; omega, fun _ => f.ne (by omega)⟩
def spLaw (K : PySem.W.Frag) : Sp := fun vs H Q _ => ∃ (a : Addr) (ns : List Int), vs = [.ref a] ∧ SqL K H a (ns.map V.int) ∧ ns.length ≤ 63 ∧ ∀ H', Q (.bl true) H'
end Pg

set_option Elab.async false
set_option linter.all false
set_option maxRecDepth 100000
set_option maxHeartbeats 4000000
namespace K02
open PySem PySem.Spec PyProof.Rows L2 Pg
def top (i : Nat) : Stmt := PySem.Challenge.pw_pergola_k02_trees_listed_and_counted.main.body.getD i (.Pass ⟨0, 0, 0, 0⟩)
structure Zs (mg : Str → Option Value) : Prop where
  len : mg "len" = none
  abs : mg "abs" = none
  int : mg "int" = none
  max : mg "max" = none
  sum : mg "sum" = none
  tuple : mg "tuple" = none
  list : mg "list" = none
  isinstance : mg "isinstance" = none
  repr : mg "repr" = none
  range : mg "range" = none
  all : mg "all" = none
section
variable {P : Program} {w : World} {K : PySem.W.Frag} {mg : Str → Option Value} {base : Heap} {f : Addr} {fd : FuncData}
abbrev s_next : Stmt := top 18
abbrev N_next : List Str := ["state", "many", "turn"]
abbrev P_next : List Str := ["state", "many"]
theorem sc_next : FnScope N_next P_next (defScope s_next) := ⟨rfl, rfl, rfl, by decide +kernel, rfl, by decide +kernel, by decide +kernel⟩

theorem ok_next (F : FnP K "_law_next" s_next f fd) (hm : mg "_law_next" = some (.ref f)) (Z : Zs mg) : Cal P w K mg base 1 "_law_next" spNext [] := by
  refine mk_cal F hm sc_next (fun _ _ _ _ _ _ us hl => match us, hl with | [_, _], _ => rfl) (fun vs H Q E h => ?_) (fun cdv A outer s H vs Q E hr h => ?_)
  · obtain ⟨a, n, many, m, rfl, _⟩ := h
    rfl
  obtain ⟨a, n, many, m, rfl, hmany, st, hlt, q⟩ := h
  refine ⟨_, (pss_cons (ps_asg (pe_op op_add (pe_ix ix_list (pv 0) pe_int (fun _ _ => rfl)) pe_int) (pg_sub (pv 0) pe_int set_list))
      (pss_cons (ps_set (i := 2) sc_next.nd rfl (by first | exact Or.inl rfl | exact Or.inr rfl) (pe_op op_fdiv (pe_ix ix_list (pv 0) pe_int (fun _ _ => rfl)) (pe_callB call_len_seq (by rfl) Z.len (by decide +kernel) (pa_cons (pe_ix ix_list (pv 0) pe_int (fun _ _ => rfl)) pa_nil))))
      (pss_one (ps_ret (pe_op op_mod (pe_callTy call_int1 (by rfl) Z.int (by decide +kernel) (pa_cons (pe_op op_add (pe_op op_add (pe_ix ix_list (pe_ix ix_list (pv 0) pe_int (fun _ _ => rfl)) (pe_op op_mod (pe_ix ix_list (pv 0) pe_int (fun _ _ => rfl)) (pe_callB call_len_seq (by rfl) Z.len (by decide +kernel) (pa_cons (pe_ix ix_list (pv 0) pe_int (fun _ _ => rfl)) pa_nil))) (fun _ _ => rfl)) (pe_op op_mul (pv 2) pe_int)) (pe_op op_mul (pe_op op_mul (pe_ix ix_list (pv 0) pe_int (fun _ _ => rfl)) (pv 2)) pe_int)) pa_nil)) (pv 1)))))), ?_⟩
  obtain ⟨ns, c, h1, h2, h3, h4, h5, h6, h7, h8⟩ := st.ex
  have hl : (ns.map V.int).length = ns.length := List.length_map _
  have hp : 0 < ns.length := List.length_pos_iff.mpr h4
  have z1 : upd H a (.lst (([V.ref n, V.int c]).set 1 (V.int (c + 1)))) a = some (.lst [V.ref n, V.int (c + 1)]) := upd_same
  have z2 : upd H a (.lst (([V.ref n, V.int c]).set 1 (V.int (c + 1)))) n = some (.lst (ns.map V.int)) := by rw [upd_ne h3]; exact h2
  refine ⟨_, rfl, a, _, 1, _, rfl, rfl, SqL.mk h1, rfl, _, _, rfl, rfl, _, rfl, a, _, 1, 1, rfl, rfl, h1, rfl, ?_⟩
  refine ⟨_, rfl, a, _, 1, _, rfl, rfl, SqL.mk z1, rfl, _, rfl, a, _, 0, _, rfl, rfl, SqL.mk z1, rfl, n, _, rfl, .inl (SqL.mk z2), _, _, rfl, rfl, ⟨by rw [hl]; omega, by rw [hl]; omega⟩, ?_⟩
  have hk : ((c + 1) % (((ns.map V.int).length : Nat) : Int)).toNat < ns.length := by
    rw [hl]
    have := Int.emod_lt_of_pos (c + 1) (show (0 : Int) < (ns.length : Int) by omega)
    have := Int.emod_nonneg (c + 1) (show (ns.length : Int) ≠ 0 by omega)
    omega
  have hnn : 0 ≤ (c + 1) % (((ns.map V.int).length : Nat) : Int) := Int.emod_nonneg _ (by rw [hl]; omega)
  have hat : atI (ns.map V.int) ((c + 1) % (((ns.map V.int).length : Nat) : Int)) = some (.int (ns[((c + 1) % (((ns.map V.int).length : Nat) : Int)).toNat]'hk)) :=
    at_of (Int.toNat_of_nonneg hnn).symm (by rw [List.getElem?_map, List.getElem?_eq_getElem hk]; rfl)
  have hx := h6 _ (List.getElem_mem hk)
  have hd1 : 0 ≤ (c + 1) / (((ns.map V.int).length : Nat) : Int) := Int.ediv_nonneg (by omega) (by omega)
  have hd2 : (c + 1) / (((ns.map V.int).length : Nat) : Int) ≤ c + 1 := Int.ediv_le_self _ (by omega)
  refine ⟨_, rfl, a, _, 0, _, rfl, rfl, SqL.mk z1, rfl, _, rfl, a, _, 1, _, rfl, rfl, SqL.mk z1, rfl, _, rfl, a, _, 0, _, rfl, rfl, SqL.mk z1, rfl, n, _, rfl, .inl (SqL.mk z2), _, _, rfl, rfl, (by show (0 : Int) < _; rw [hl]; omega),
    n, _, _, _, rfl, rfl, SqL.mk z2, hat, ?_⟩
  refine ⟨_, rfl, _, _, rfl, rfl, .inr ⟨by decide, by decide⟩, _, _, rfl, rfl, _, rfl, a, _, 1, _, rfl, rfl, SqL.mk z1, rfl, _, rfl, _, _, rfl, rfl, .inl ⟨by omega, by omega⟩, _, _, rfl, rfl, .inr ⟨by decide, by decide⟩, _, _, rfl, rfl, .inl ⟨_, rfl, ?_⟩⟩
  refine ⟨_, rfl, _, _, rfl, rfl, (by show (0 : Int) < many; omega), ?_⟩
  refine q _ _ (Int.emod_nonneg _ (by omega)) (Int.emod_lt_of_pos _ (by omega)) Fr.own ⟨ns, c + 1, z1, z2, h3, h4, h5, h6, by omega, by omega⟩
abbrev s_word : Stmt := top 19
abbrev N_word : List Str := ["state", "taken", "word", "k"]
abbrev P_word : List Str := ["state", "taken"]
theorem sc_word : FnScope N_word P_word (defScope s_word) := ⟨rfl, rfl, rfl, by decide +kernel, rfl, by decide +kernel, by decide +kernel⟩

theorem cs_abyz : cs (PySem.Str.ofString "abyz") = [97, 98, 121, 122] := by decide +kernel
theorem cs_az : cs (PySem.Str.ofString "abcdefghijklmnopqrstuvwxyz") = (List.range 26).map (97 + ·) := by decide +kernel
theorem ok_word (F : FnP K "_law_word" s_word f fd) (hm : mg "_law_word" = some (.ref f)) (Z : Zs mg) (c_next : Cal P w K mg base 1 "_law_next" spNext []) : Cal P w K mg base 2 "_law_word" (spWord K) [] := by
  refine mk_cal F hm sc_word (fun _ _ _ _ _ _ us hl => match us, hl with | [_, _], _ => rfl) (fun vs H Q E h => ?_) (fun cdv A outer s H vs Q E hr h => ?_)
  · obtain ⟨a, n, l, ts, m, rfl, _⟩ := h
    rfl
  obtain ⟨a, n, l, ts, m, rfl, st, hlt, hl, hla, wd, h26, q⟩ := h
  refine ⟨_, (pss_cons (ps_set (i := 2) sc_word.nd rfl (by first | exact Or.inl rfl | exact Or.inr rfl) pe_str)
      (pss_cons (ps_for PassesOwn.never rfl (pi_range1 (by rfl) Z.range (pa_cons (pe_ix ix_list (pe_lst (pa_cons pe_int (pa_cons pe_int (pa_cons (pe_op op_add pe_int (C8.pe_c c_next hr (by first | decide | omega) rfl (pa_cons (pv 0) (pa_cons pe_int pa_nil)))) pa_nil)))) (C8.pe_c c_next hr (by first | decide | omega) rfl (pa_cons (pv 0) (pa_cons pe_int pa_nil))) (fun _ _ => rfl)) pa_nil)) (pg_name (i := 3) sc_word.nd rfl (by first | exact Or.inl rfl | exact Or.inr rfl)) (pss_one (ps_set (i := 2) sc_word.nd rfl (by first | exact Or.inl rfl | exact Or.inr rfl) (pe_op op_add_str (pv 2) (pe_ix ix_str pe_str (C8.pe_c c_next hr (by first | decide | omega) rfl (pa_cons (pv 0) (pa_cons pe_int pa_nil))) (fun _ _ => rfl))))))
      (pss_cons (ps_if (pt_cmpR op_in_seq (pv 2) (pv 1) (by rfl)) (pss_one (ps_ret (pe_op op_add_str pe_str (pe_ix ix_str pe_str (pe_callB call_len_seq (by rfl) Z.len (by decide +kernel) (pa_cons (pv 1) pa_nil)) (fun _ _ => rfl))))) pss_nil)
      (pss_one (ps_ret (pv 2)))))), ?_⟩
  refine ⟨_, rfl, a, n, 8, m, rfl, by decide, st, by omega, fun r H1 r0 r8 f1 st1 => ?_⟩
  refine ⟨_, _, rfl, rfl, (by show 3 ≤ sizeLine; decide), fun p np => ?_⟩
  refine ⟨_, rfl, a, n, 3, m + 1, rfl, by decide, st1.new np, by omega, fun r2 H2 t0 t3 f2 st2 => ?_⟩
  obtain ⟨j, hj, j1, j8⟩ : ∃ j : Int, atI [V.int 1, V.int 2, V.int (1 + r)] r2 = some (.int j) ∧ 1 ≤ j ∧ j ≤ 8 := by
    have : r2 = 0 ∨ r2 = 1 ∨ r2 = 2 := by omega
    rcases this with rfl | rfl | rfl
    · exact ⟨1, rfl, by omega, by omega⟩
    · exact ⟨2, rfl, by omega, by omega⟩
    · exact ⟨1 + r, rfl, by omega, by omega⟩
  refine ⟨p, _, r2, _, rfl, rfl, SqL.mk (f2 _ _ (st1.ne np).1 upd_same), hj, j, rfl, by omega, by omega, ?_⟩
  have F2 : Pg.Fr a H H2 := f1.trans ((Fr.new np).trans f2)
  refine for_range (lo := 0) (n := j.toNat) (fun i σ H' => ∃ (x : Str) (k : Option V), σ = [some (.ref a), some (.ref l), some (.str x), k] ∧ (cs x).length = i ∧ (∀ c ∈ cs x, c = 97 ∨ c = 98 ∨ c = 121 ∨ c = 122) ∧ Pg.Fr a H H' ∧ StA H' a n (m + 2 + i))
    ⟨PySem.Str.ofString "", none, rfl, by decide +kernel, by decide +kernel, F2, st2.mono (by omega)⟩ ?_ ?_
  · rintro i σ H' hi ⟨x, k, rfl, hx, hc, f3, st3⟩
    refine ⟨_, rfl, _, rfl, a, n, 4, _, rfl, by decide, st3, by omega, fun r3 H3 u0 u4 f4 st4 => ?_⟩
    obtain ⟨c, hat, hcc⟩ : ∃ c, atI (cs (PySem.Str.ofString "abyz")) r3 = some c ∧ (c = 97 ∨ c = 98 ∨ c = 121 ∨ c = 122) := by
      rw [cs_abyz]
      have : r3 = 0 ∨ r3 = 1 ∨ r3 = 2 ∨ r3 = 3 := by omega
      rcases this with rfl | rfl | rfl | rfl
      · exact ⟨97, rfl, by omega⟩
      · exact ⟨98, rfl, by omega⟩
      · exact ⟨121, rfl, by omega⟩
      · exact ⟨122, rfl, by omega⟩
    refine ⟨_, r3, c, rfl, rfl, by decide +kernel, hat, _, _, rfl, rfl, ?_, ?_⟩
    · have e1 : x.length ≤ 8 := by rw [cs_len]; omega
      have e2 : (⟨#[c]⟩ : Str).length = 1 := rfl
      rw [e2]
      exact Nat.le_trans (Nat.add_le_add_right e1 1) (by decide)
    refine ⟨x ++ ⟨#[c]⟩, _, rfl, ?_, ?_, f3.trans f4, st4.mono (by omega)⟩
    · rw [cs_app, List.length_append, hx, cs_one]; rfl
    · intro d hd
      rw [cs_app, cs_one] at hd
      rcases List.mem_append.mp hd with h | h
      · exact hc d h
      · rw [List.mem_singleton] at h
        rw [h]
        exact hcc
  · rintro σ H' ⟨x, k, rfl, hx, hc, f3, st3⟩
    have hl' : H' l = some (.lst (ts.map V.str)) := f3 _ _ hla hl
    refine ⟨_, rfl, _, rfl, l, _, rfl, .inl (SqL.mk hl'), rfl, flat_strs ts, _, rfl, ?_⟩
    rw [inV_strs]
    refine ite2 (fun hin => ?_) (fun hin => ?_)
    · refine ⟨_, rfl, l, _, rfl, .inl (SqL.mk hl'), _, _, 97 + ts.length, rfl, rfl, by decide +kernel, ?_, _, _, rfl, rfl, ?_, ?_⟩
      · show atI (cs (PySem.Str.ofString "abcdefghijklmnopqrstuvwxyz")) _ = _
        rw [cs_az, List.length_map]
        exact atI_nat (by rw [List.getElem?_map, List.getElem?_range h26]; rfl)
      · show (PySem.Str.ofString "c").length + 1 ≤ sizeLine
        decide +kernel
      · have ew : cs (PySem.Str.ofString "c" ++ ⟨#[97 + ts.length]⟩) = [99, 97 + ts.length] := by
          rw [cs_app, cs_one]
          have : cs (PySem.Str.ofString "c") = [99] := by decide +kernel
          rw [this]
          rfl
        exact q _ H' (wd.fresh ew) (.inr ⟨h26, ew⟩) f3 (st3.mono (by omega))
    · refine ⟨_, rfl, ?_⟩
      exact q x H' (fun z => hin (decide_eq_true z)) (.inl ⟨by omega, by omega, hc⟩) f3 (st3.mono (by omega))
abbrev s_signs : Stmt := top 20
abbrev N_signs : List Str := ["state", "many", "found", "k", "at", "word", "sign", "arity"]
abbrev P_signs : List Str := ["state", "many"]
theorem sc_signs : FnScope N_signs P_signs (defScope s_signs) := ⟨rfl, rfl, rfl, by decide +kernel, rfl, by decide +kernel, by decide +kernel⟩

/-- what stands behind k turns -/
structure SgInv (K : PySem.W.Frag) (a n fl : Addr) (H H' : Hp) (m : Int) (k : Nat) (rs : List Addr) (sg : Sg) : Prop where
  at_ : H' fl = some (.lst (rs.map V.ref))
  pr : SgR K H' rs sg
  ln : sg.length = k
  wd : Wds (sg.map (·.1))
  ar : ∀ s ∈ sg, 0 ≤ s.2 ∧ s.2 ≤ 2
  c0 : 0 < k → ∃ s ∈ sg, s.2 = 0
  ne : fl ≠ a ∧ fl ≠ n
  fr : Pg.Fr a H H'
  st : StA H' a n (m + 11 * k)
theorem ok_signs (F : FnP K "_law_signs" s_signs f fd) (hm : mg "_law_signs" = some (.ref f)) (Z : Zs mg) (c_next : Cal P w K mg base 1 "_law_next" spNext []) (c_word : Cal P w K mg base 2 "_law_word" (spWord K) []) : Cal P w K mg base 3 "_law_signs" (spSigns K) [] := by
  refine mk_cal F hm sc_signs (fun _ _ _ _ _ _ us hl => match us, hl with | [_, _], _ => rfl) (fun vs H Q E h => ?_) (fun cdv A outer s H vs Q E hr h => ?_)
  · obtain ⟨a, n, many, m, rfl, _⟩ := h
    rfl
  obtain ⟨a, n, many, m, rfl, st, hlt, h1, h4, q⟩ := h
  refine ⟨_, (pss_cons (ps_set (i := 2) sc_signs.nd rfl (by first | exact Or.inl rfl | exact Or.inr rfl) (pe_lst pa_nil))
      (pss_cons (ps_for PassesOwn.never rfl (pi_range1 (by rfl) Z.range (pa_cons (pv 1) pa_nil)) (pg_name (i := 3) sc_signs.nd rfl (by first | exact Or.inl rfl | exact Or.inr rfl)) (pss_cons (ps_set (i := 5) sc_signs.nd rfl (by first | exact Or.inl rfl | exact Or.inr rfl) (C8.pe_c c_word hr (by first | decide | omega) rfl (pa_cons (pv 0) (pa_cons (pe_lc (own := [("sign", 6), ("arity", 7)]) (g := (gTup K 2 (gCons (gName 6) (gCons (gName 7) gNil)))) (tt := tYes) (te := (tVar 6)) rfl sc_signs.nd (pi_list (pv 2)) (blkOk_by (N := N_signs) (sc := defScope s_signs) (by decide +kernel)) (fun _ _ _ _ _ => by exact (pg_tup rfl (pgs_cons (pg_name (i := 6) sc_signs.nd rfl (Or.inl rfl)) (pgs_cons (pg_name (i := 7) sc_signs.nd rfl (Or.inl rfl)) pgs_nil)))) (fun _ _ _ _ _ => by exact pts_nil) (fun _ _ _ _ _ => by exact (pv 6))) pa_nil))))
      (pss_one (ps_expr (pe_bm PySem.F.plainAttrs_list PySem.F.slot_list_append PySem.F.type_list_append mt_append (pv 2) (pa_cons (pe_tup (pa_cons (pv 5) (pa_cons (pe_ix ix_list (pe_lst (pa_cons pe_int (pa_cons (C8.pe_c c_next hr (by first | decide | omega) rfl (pa_cons (pv 0) (pa_cons pe_int pa_nil))) pa_nil))) (pe_callTy call_int1 (by rfl) Z.int (by decide +kernel) (pa_cons (pe_cmpR op_gt (pv 3) pe_int (nomark _)) pa_nil)) (fun _ _ => rfl)) pa_nil))) pa_nil))))))
      (pss_cons (ps_set (i := 4) sc_signs.nd rfl (by first | exact Or.inl rfl | exact Or.inr rfl) (C8.pe_c c_next hr (by first | decide | omega) rfl (pa_cons (pv 0) (pa_cons (pv 1) pa_nil))))
      (pss_one (ps_ret (pe_callTy call_tuple_of (by rfl) Z.tuple (by decide +kernel) (pa_cons (pe_op op_cat (pe_slice sl_list (pv 2) (po_some (pv 4)) po_none) (pe_slice sl_list (pv 2) po_none (po_some (pv 4)))) pa_nil))))))), ?_⟩
  refine ⟨by decide, fun fl nfl => ?_⟩
  refine ⟨_, rfl, many, rfl, by omega, by omega, ?_⟩
  refine for_range (lo := 0) (n := many.toNat) (fun i σ H' => ∃ (k w : Option V) (rs : List Addr) (sg : Sg), σ = [some (.ref a), some (.int many), some (.ref fl), k, none, w, none, none] ∧ SgInv K a n fl H H' m i rs sg)
    ⟨none, none, [], [], rfl, ⟨upd_same, .nil, rfl, Wds.nil, (fun _ h => absurd h List.not_mem_nil), (fun h => absurd h (Nat.lt_irrefl 0)), st.ne nfl, Fr.new nfl, (st.new nfl).mono (by omega)⟩⟩ ?_ ?_
  · rintro i σ H1 hi ⟨k, w0, rs, sg, rfl, iv⟩
    have hi4 : i < 4 := by omega
    refine ⟨_, rfl, rd_fstL (i := 2) rfl (SqL.mk iv.at_) iv.pr (by rw [iv.ln]; omega) (fun _ _ => rfl) (fun _ _ => rfl) (fun D H2 nD sm hD => ?_)⟩
    refine ⟨a, n, D, sg.map (·.1), m + 11 * i, rfl, iv.st.same sm, by omega, hD, (iv.st.ne nD).1, iv.wd, by rw [List.length_map, iv.ln]; omega, fun wd H3 w1 w2 f3 st3 => ?_⟩
    have hf3 : H3 fl = some (.lst (rs.map V.ref)) := f3 _ _ iv.ne.1 (sm _ _ iv.at_)
    refine ⟨_, rfl, .inl ⟨rfl, _, SqL.mk hf3⟩, _, rfl, _, rfl, a, n, 3, m + 11 * i + 10, rfl, by decide, st3, by omega, fun r H4 r0 r3 f4 st4 => ?_⟩
    have hf4 : H4 fl = some (.lst (rs.map V.ref)) := f4 _ _ iv.ne.1 hf3
    refine ⟨(by show 2 ≤ sizeLine; decide), fun p np => ?_⟩
    obtain ⟨ar, hat, ha0, ha2, hz⟩ : ∃ ar : Int, atI [V.int 0, V.int r] (if decide ((0 : Int) < 0 + (i : Int)) = true then 1 else 0) = some (.int ar) ∧ 0 ≤ ar ∧ ar ≤ 2 ∧ (i = 0 → ar = 0) := by
      by_cases h : i = 0
      · subst h
        exact ⟨0, rfl, by omega, by omega, fun _ => rfl⟩
      · have e : decide ((0 : Int) < 0 + (i : Int)) = true := decide_eq_true (by omega)
        rw [e]
        exact ⟨r, rfl, r0, by omega, fun z => absurd z h⟩
    refine ⟨_, rfl, _, _, rfl, rfl, .inr ⟨_, rfl, p, _, _, _, rfl, rfl, SqL.mk upd_same, hat, (by show 2 ≤ sizeLine; decide), fun t nt => ?_⟩⟩
    have nt4 : t ≠ fl := (ne_of_none (show upd H4 p _ fl = some (.lst (rs.map V.ref)) by rw [upd_ne (ne_of_none hf4 np)]; exact hf4) nt).symm
    have hf5 : (upd (upd H4 p (.lst [V.int 0, V.int r])) t (.tup [.str wd, .int ar])) fl = some (.lst (rs.map V.ref)) := by
      rw [upd_ne nt4.symm, upd_ne (ne_of_none hf4 np)]
      exact hf4
    have hlen : (rs.map V.ref).length = i := by rw [List.length_map, paired_len iv.pr, iv.ln]
    refine ⟨fl, _, _, rfl, rfl, hf5, by rw [hlen]; exact small1000 (by omega), ?_⟩
    have tk : TK K H1 (upd (upd (upd H4 p (.lst [V.int 0, V.int r])) t (.tup [.str wd, .int ar])) fl (.lst (rs.map V.ref ++ [V.ref t]))) :=
      (TK.same sm).trans (((iv.st.same sm).tk f3).trans ((st3.tk f4).trans ((TK.new np).trans ((TK.new nt).trans (TK.put hf5)))))
    refine ⟨some (.int (0 + (i : Int))), some (.str wd), rs ++ [t], sg ++ [(wd, ar)], rfl, ⟨?_, ?_, ?_, ?_, ?_, ?_, iv.ne, ?_, ?_⟩⟩
    · rw [List.map_append]; exact upd_same
    · exact paired_app (SgR.keep tk iv.pr) (.cons (SqT.mk (by rw [upd_ne nt4]; exact upd_same)) .nil)
    · rw [List.length_append, iv.ln]; rfl
    · rw [List.map_append]
      exact iv.wd.snoc w1 w2
    · intro s hs
      rcases List.mem_append.mp hs with h | h
      · exact iv.ar s h
      · rw [List.mem_singleton] at h
        subst h
        exact ⟨ha0, ha2⟩
    · intro _
      by_cases h : i = 0
      · exact ⟨(wd, ar), List.mem_append_right _ (List.mem_singleton.mpr rfl), hz h⟩
      · obtain ⟨s, h1, h2⟩ := iv.c0 (by omega)
        exact ⟨s, List.mem_append_left _ h1, h2⟩
    · have g1 : Pg.Fr a H H4 := iv.fr.trans ((Fr.of sm).trans (f3.trans f4))
      have g2 : Pg.Fr a H (upd (upd H4 p (.lst [V.int 0, V.int r])) t (.tup [.str wd, .int ar])) := g1.trans ((Fr.new np).trans (Fr.new nt))
      intro b o nb hb
      have hbf : b ≠ fl := ne_of_none hb nfl
      rw [upd_ne hbf]
      exact g2 b o nb hb
    · exact (((st4.new np).new nt).put iv.ne).mono (by omega)
  · rintro σ H1 ⟨k, w0, rs, sg, rfl, iv⟩
    have hm4 : ((many.toNat : Nat) : Int) = many := Int.toNat_of_nonneg (by omega)
    refine ⟨_, rfl, _, rfl, a, n, many, m + 11 * many, rfl, h1, by rw [← hm4]; exact iv.st, by omega, fun r H2 r0 r1 f2 st2 => ?_⟩
    obtain ⟨r', rfl⟩ := Int.eq_ofNat_of_zero_le r0
    have hf2 : H2 fl = some (.lst (rs.map V.ref)) := f2 _ _ iv.ne.1 iv.at_
    refine ⟨_, rfl, _, rfl, _, rfl, fl, _, rfl, SqL.mk hf2, fun p np => ?_⟩
    have hf3 := (show upd H2 p (.lst (cutV (rs.map V.ref) (some (r' : Int)) none)) fl = some (.lst (rs.map V.ref)) by rw [upd_ne (ne_of_none hf2 np)]; exact hf2)
    refine ⟨_, rfl, _, rfl, _, rfl, fl, _, rfl, SqL.mk hf3, fun p2 np2 => ?_⟩
    have hp := (show upd (upd H2 p (.lst (cutV (rs.map V.ref) (some (r' : Int)) none))) p2 (.lst (cutV (rs.map V.ref) none (some (r' : Int)))) p = some (.lst (cutV (rs.map V.ref) (some (r' : Int)) none)) by rw [upd_ne (ne_of_none upd_same np2)]; exact upd_same)
    refine ⟨p, p2, _, _, rfl, rfl, hp, upd_same, ?_, fun p3 np3 => ?_⟩
    · have hlen : (rs.map V.ref).length ≤ 4 := by rw [List.length_map, paired_len iv.pr, iv.ln]; omega
      have b1 := cutV_length (rs.map V.ref) (some (r' : Int)) none
      have b2 := cutV_length (rs.map V.ref) none (some (r' : Int))
      exact Nat.le_of_lt (small1000 (by omega))
    refine ⟨p3, _, rfl, .inl ⟨SqL.mk upd_same, fun t nt => ?_⟩⟩
    have f6 : Pg.Fr a H1 (upd (upd (upd (upd H2 p (.lst (cutV (rs.map V.ref) (some (r' : Int)) none))) p2 (.lst (cutV (rs.map V.ref) none (some (r' : Int))))) p3 (.lst (cutV (rs.map V.ref) (some (r' : Int)) none ++ cutV (rs.map V.ref) none (some (r' : Int))))) t (.tup (cutV (rs.map V.ref) (some (r' : Int)) none ++ cutV (rs.map V.ref) none (some (r' : Int))))) :=
      f2.trans ((Fr.new np).trans ((Fr.new np2).trans ((Fr.new np3).trans (Fr.new nt))))
    have e6 : cutV (rs.map V.ref) (some (r' : Int)) none ++ cutV (rs.map V.ref) none (some (r' : Int)) = (rs.drop r' ++ rs.take r').map V.ref := by rw [cutV_drop, cutV_take, ← List.map_drop, ← List.map_take, ← List.map_append]
    refine q t (sg.drop r' ++ sg.take r') _ ⟨rs.drop r' ++ rs.take r', SqT.mk (by rw [upd_same, e6]), ?_⟩ ?_ (iv.fr.trans f6) ?_
    · exact SgR.keep (iv.st.tk f6) (paired_app (paired_drop r' iv.pr) (paired_take r' iv.pr))
    · refine GSg.rot ⟨by rw [iv.ln]; omega, iv.wd.nd, iv.ar, iv.c0 (by omega), fun s hs => ?_⟩ r'
      obtain ⟨i, hi, e⟩ := List.getElem_of_mem hs
      exact ⟨i, iv.wd.wd i s.1 (by rw [List.getElem?_map, List.getElem?_eq_getElem hi, e]; rfl)⟩
    · exact ((((st2.new np).new np2).new np3).new nt).mono (by omega)
abbrev s_stream : Stmt := top 17
abbrev N_stream : List Str := ["script", "numbers", "cell", "rest", "k", "mixed"]
abbrev P_stream : List Str := ["script"]
theorem sc_stream : FnScope N_stream P_stream (defScope s_stream) := ⟨rfl, rfl, rfl, by decide +kernel, rfl, by decide +kernel, by decide +kernel⟩

theorem ok_stream (F : FnP K "_law_stream" s_stream f fd) (hm : mg "_law_stream" = some (.ref f)) (Z : Zs mg) : Cal P w K mg base 1 "_law_stream" (spStream K) [] := by
  refine mk_cal F hm sc_stream (fun _ _ _ _ _ _ us hl => match us, hl with | [_], _ => rfl) (fun vs H Q E h => ?_) (fun cdv A outer s H vs Q E hr h => ?_)
  · obtain ⟨a, zs, rfl, _⟩ := h
    rfl
  obtain ⟨a, zs, rfl, hS, h63, q⟩ := h
  refine ⟨_, (pss_cons (ps_set (i := 1) sc_stream.nd rfl (by first | exact Or.inl rfl | exact Or.inr rfl) (pe_lst pa_nil))
      (pss_cons (ps_for PassesOwn.never rfl (pi_list (pe_slice sl_list (pv 0) po_none (po_some pe_int))) (pg_name (i := 2) sc_stream.nd rfl (by first | exact Or.inl rfl | exact Or.inr rfl)) (pss_cons (ps_set (i := 3) sc_stream.nd rfl (by first | exact Or.inl rfl | exact Or.inr rfl) (pe_callB call_abs (by rfl) Z.abs (by decide +kernel) (pa_cons (pe_callTy call_int1 (by rfl) Z.int (by decide +kernel) (pa_cons (pv 2) pa_nil)) pa_nil)))
      (pss_one (ps_if (pt_cmpR op_ge (pv 3) (pe_op op_pow pe_int pe_int) (nomark _)) (pss_one (ps_for PassesOwn.never rfl (pi_range1 (by rfl) Z.range (pa_cons pe_int pa_nil)) (pg_name (i := 4) sc_stream.nd rfl (by first | exact Or.inl rfl | exact Or.inr rfl)) (pss_cons (ps_expr (pe_bm PySem.F.plainAttrs_list PySem.F.slot_list_append PySem.F.type_list_append mt_append (pv 1) (pa_cons (pe_op op_mod (pe_callTy call_int1 (by rfl) Z.int (by decide +kernel) (pa_cons (pv 3) pa_nil)) pe_int) pa_nil)))
      (pss_cons (ps_set (i := 3) sc_stream.nd rfl (by first | exact Or.inl rfl | exact Or.inr rfl) (pe_op op_fdiv (pv 3) pe_int))
      (pss_one (ps_if (pt_cmpR op_eq (pv 3) pe_int (nomark _)) (pss_one ps_break) pss_nil)))))) (pss_cons (ps_set (i := 5) sc_stream.nd rfl (by first | exact Or.inl rfl | exact Or.inr rfl) (pe_op op_mod (pe_callTy call_int1 (by rfl) Z.int (by decide +kernel) (pa_cons (pv 3) pa_nil)) pe_int))
      (pss_one (ps_for PassesOwn.never rfl (pi_range1 (by rfl) Z.range (pa_cons pe_int pa_nil)) (pg_name (i := 4) sc_stream.nd rfl (by first | exact Or.inl rfl | exact Or.inr rfl)) (pss_cons (ps_set (i := 5) sc_stream.nd rfl (by first | exact Or.inl rfl | exact Or.inr rfl) (pe_op op_mod (pe_callTy call_int1 (by rfl) Z.int (by decide +kernel) (pa_cons (pe_op op_add (pe_op op_add (pe_op op_mul (pv 5) pe_int) (pe_op op_mul pe_int (pv 4))) pe_int) pa_nil)) pe_int))
      (pss_one (ps_expr (pe_bm PySem.F.plainAttrs_list PySem.F.slot_list_append PySem.F.type_list_append mt_append (pv 1) (pa_cons (pe_op op_mod (pe_op op_mod (pe_callTy call_int1 (by rfl) Z.int (by decide +kernel) (pa_cons (pe_op op_add (pe_op op_mul (pv 5) pe_int) (pv 4)) pa_nil)) pe_int) pe_int) pa_nil))))))))))))
      (pss_cons (ps_if (pt_cmpR op_eq (pe_callB call_len_seq (by rfl) Z.len (by decide +kernel) (pa_cons (pv 1) pa_nil)) pe_int (nomark _)) (pss_one (ps_expr (pe_bm PySem.F.plainAttrs_list PySem.F.slot_list_append PySem.F.type_list_append mt_append (pv 1) (pa_cons pe_int pa_nil)))) pss_nil)
      (pss_one (ps_ret (pv 1)))))), ?_⟩
  refine ⟨by decide, fun fl nfl => ?_⟩
  have hS1 : SqL K (upd H fl (.lst [])) a (zs.map V.int) := (Same.new nfl).seq hS
  refine ⟨_, rfl, 63, rfl, a, _, rfl, hS1, fun g ng => ?_⟩
  have eg : cutV (zs.map V.int) none (some 63) = zs.map V.int := by
    show cutV (zs.map V.int) none (some ((63 : Nat) : Int)) = _
    rw [cutV_take, List.take_of_length_le (by rw [List.length_map]; exact h63)]
  rw [eg]
  have nfg : g ≠ fl := (ne_of_none upd_same ng).symm
  refine ⟨g, rfl, ⟨_, SqL.mk upd_same⟩, for_list (K := K) (xs := zs.map V.int) (fun i σ H' => ∃ (v1 v2 v3 v4 : Option V) (ns : List Int), σ = [some (.ref a), some (.ref fl), v1, v2, v3, v4] ∧ H' fl = some (.lst (ns.map V.int)) ∧ ns.length ≤ 60 * i ∧ InR ns ∧ Same H H' ∧ H' g = some (.lst (zs.map V.int)))
    ⟨none, none, none, none, [], rfl, by rw [upd_ne nfg.symm]; exact upd_same, by simp, (fun _ h => absurd h List.not_mem_nil), Same.mut (same_free (Same.new nfl) ng) (Same.new nfl), upd_same⟩ (fun i σ H' _ ⟨_, _, _, _, _, _, _, _, _, _, hg⟩ => SqL.mk hg) ?_ ?_⟩
  · rintro i x σ H1 hx ⟨v1, v2, v3, v4, ns, rfl, hf, hl, hn, sm, hg⟩
    obtain ⟨z, hz, rfl⟩ : ∃ z, zs[i]? = some z ∧ V.int z = x := by
      rw [List.getElem?_map] at hx
      cases e : zs[i]? with
      | none => rw [e] at hx; cases hx
      | some z => rw [e] at hx; exact ⟨z, rfl, Option.some.inj hx⟩
    have hi : i < zs.length := (List.getElem?_eq_some_iff.mp hz).1
    refine ⟨_, rfl, .inl ⟨_, rfl, _, rfl, ?_⟩⟩
    have hr0 : 0 ≤ (if z < 0 then -z else z) := by split <;> omega
    generalize (if z < 0 then -z else z) = rs at hr0 ⊢
    refine ⟨_, rfl, _, _, rfl, rfl, ⟨by decide, by decide, by decide⟩, _, _, rfl, rfl, _, rfl, ?_⟩
    refine ite2 (fun _ => ?_) (fun _ => ?_)
    · refine ⟨60, rfl, by decide, by decide, for_range (lo := 0) (n := 60) (fun j σ H' => ∃ (v4 v5 : Option V) (rs : Int) (ns : List Int), σ = [some (.ref a), some (.ref fl), some (.int z), some (.int rs), v4, v5] ∧ 0 ≤ rs ∧ H' fl = some (.lst (ns.map V.int)) ∧ ns.length ≤ 60 * i + j ∧ InR ns ∧ Same H H' ∧ H' g = some (.lst (zs.map V.int)))
        ⟨_, _, rs, ns, rfl, hr0, hf, by omega, hn, sm, hg⟩ ?_ ?_⟩
      · rintro j σ H2 hj ⟨u4, u5, rs, ns, rfl, hr0, hf, hl, hn, sm, hg⟩
        have hsz : (ns.map V.int).length < sizeLine := by rw [List.length_map]; exact Nat.lt_of_le_of_lt hl (Nat.lt_of_lt_of_le (show 60 * i + j < 4000 by omega) (by decide))
        refine ⟨_, rfl, .inl ⟨rfl, _, SqL.mk hf⟩, _, rfl, .inl ⟨_, rfl, _, _, rfl, rfl, (by show (0 : Int) < 1009; decide), fl, _, _, rfl, rfl, hf, hsz, ?_⟩⟩
        have hf2 : (upd H2 fl (.lst (ns.map V.int ++ [V.int (rs % 1009)]))) fl = some (.lst ((ns ++ [rs % 1009]).map V.int)) := by rw [List.map_append]; exact upd_same
        have hl2 : (ns ++ [rs % 1009]).length ≤ 60 * i + (j + 1) := by rw [List.length_append, List.length_singleton]; omega
        have sm2 : Same H (upd H2 fl (.lst (ns.map V.int ++ [V.int (rs % 1009)]))) := Same.mut nfl sm
        have hg2 : (upd H2 fl (.lst (ns.map V.int ++ [V.int (rs % 1009)]))) g = some (.lst (zs.map V.int)) := by rw [upd_ne nfg]; exact hg
        have hn2 : InR (ns ++ [rs % 1009]) := hn.snoc (mod_in rs).1 (mod_in rs).2
        refine ⟨_, rfl, _, _, rfl, rfl, ⟨by decide, by decide⟩, ?_⟩
        refine ⟨_, rfl, rfl, _, rfl, ?_⟩
        refine ite2 (fun _ => ?_) (fun _ => ?_)
        · exact ⟨_, _, _, _, ns ++ [rs % 1009], rfl, hf2, by omega, hn2, sm2, hg2⟩
        · exact ⟨_, _, _, ns ++ [rs % 1009], rfl, Int.ediv_nonneg hr0 (by decide), hf2, hl2, hn2, sm2, hg2⟩
      · rintro σ H2 ⟨u4, u5, rs, ns, rfl, hr0, hf, hl, hn, sm, hg⟩
        exact ⟨_, _, _, _, ns, rfl, hf, by omega, hn, sm, hg⟩
    · refine ⟨_, rfl, .inl ⟨_, rfl, _, _, rfl, rfl, (by show (0 : Int) < 2147483647; decide), ?_⟩⟩
      refine ⟨10, rfl, by decide, by decide, for_range (lo := 0) (n := 10) (fun j σ H' => ∃ (v4 : Option V) (mx : Int) (ns : List Int), σ = [some (.ref a), some (.ref fl), some (.int z), some (.int rs), v4, some (.int mx)] ∧ H' fl = some (.lst (ns.map V.int)) ∧ ns.length ≤ 60 * i + j ∧ InR ns ∧ Same H H' ∧ H' g = some (.lst (zs.map V.int)))
        ⟨_, _, ns, rfl, hf, by omega, hn, sm, hg⟩ ?_ ?_⟩
      · rintro j σ H2 hj ⟨u4, mx, ns, rfl, hf, hl, hn, sm, hg⟩
        refine ⟨_, rfl, _, _, rfl, rfl, .inr ⟨by decide, by decide⟩, _, rfl, _, _, rfl, rfl, .inl ⟨by decide, by decide⟩, _, _, rfl, rfl, _, _, rfl, rfl, .inl ⟨_, rfl, _, _, rfl, rfl, (by show (0 : Int) < 2147483647; decide), ?_⟩⟩
        have hsz : (ns.map V.int).length < sizeLine := by rw [List.length_map]; exact Nat.lt_of_le_of_lt hl (Nat.lt_of_lt_of_le (show 60 * i + j < 4000 by omega) (by decide))
        refine ⟨_, rfl, .inl ⟨rfl, _, SqL.mk hf⟩, _, rfl, _, _, rfl, rfl, .inr ⟨by decide, by decide⟩, _, rfl, _, _, rfl, rfl, .inl ⟨_, rfl, _, _, rfl, rfl, (by show (0 : Int) < 2147483629; decide), _, _, rfl, rfl, (by show (0 : Int) < 1009; decide), fl, _, _, rfl, rfl, hf, hsz, ?_⟩⟩
        refine ⟨_, _, ns ++ [_], rfl, by rw [List.map_append]; exact upd_same, by rw [List.length_append, List.length_singleton]; omega, hn.snoc (mod_in _).1 (mod_in _).2, Same.mut nfl sm, by rw [upd_ne nfg]; exact hg⟩
      · rintro σ H2 ⟨u4, mx, ns, rfl, hf, hl, hn, sm, hg⟩
        exact ⟨_, _, _, _, ns, rfl, hf, by omega, hn, sm, hg⟩
  · rintro σ H1 ⟨v1, v2, v3, v4, ns, rfl, hf, hl, hn, sm, hg⟩
    rw [List.length_map] at hl
    refine ⟨_, rfl, fl, _, rfl, .inl (SqL.mk hf), rfl, _, rfl, ?_⟩
    refine ite2 (fun he => ?_) (fun he => ?_)
    · have hsz : (ns.map V.int).length < sizeLine := by rw [List.length_map]; exact Nat.lt_of_le_of_lt hl (Nat.lt_of_lt_of_le (show 60 * zs.length < 4000 by omega) (by decide))
      refine ⟨_, rfl, .inl ⟨rfl, _, SqL.mk hf⟩, fl, _, _, rfl, rfl, hf, hsz, ?_⟩
      refine ⟨_, rfl, ?_⟩
      exact q fl (ns ++ [0]) _ nfl (Same.mut nfl sm) (by rw [List.map_append]; exact upd_same) (by simp) (by rw [List.length_append, List.length_singleton]; omega) (hn.snoc (by decide) (by decide))
    · refine ⟨_, rfl, ?_⟩
      refine q fl ns _ nfl sm hf (fun z => ?_) (by omega) hn
      subst z
      exact he (decide_eq_true rfl)
end
end K02

set_option Elab.async false
set_option linter.all false
set_option maxRecDepth 100000
set_option maxHeartbeats 4000000
namespace K02
open PySem PySem.Spec PyProof.Rows L2 Pg
section
variable {P : Program} {w : World} {K : PySem.W.Frag} {mg : Str → Option Value} {base : Heap} {f : Addr} {fd : FuncData}
abbrev s_cov : Stmt := top 12
abbrev N_cov : List Str := ["counts", "arity", "size", "left"]
abbrev P_cov : List Str := ["counts", "arity", "size"]
theorem sc_cov : FnScope N_cov P_cov (defScope s_cov) := ⟨rfl, rfl, rfl, by decide +kernel, rfl, by decide +kernel, by decide +kernel⟩

theorem ok_cov (F : FnP K "count_over" s_cov f fd) (hm : mg "count_over" = some (.ref f)) (Z : Zs mg) : Cal P w K mg base 1 "count_over" (spCov K) [] := by
  refine mk_cal F hm sc_cov (fun _ _ _ _ _ _ us hl => match us, hl with | [_, _, _], _ => rfl) (fun vs H Q E h => ?_) (fun cdv A outer s H vs Q E hr h => ?_)
  · obtain ⟨c, C, ar, m, m', rfl, _⟩ := h
    rfl
  obtain ⟨c, C, ar, m, m', rfl, hc, rfl, hl, hb, h1, h60, a0, a2, q⟩ := h
  refine ⟨_, (pss_cons (ps_if (pt_cmpR op_eq (pv 1) pe_int (nomark _)) (pss_one (ps_ret (pe_ifExp (pt_cmpR op_eq (pv 2) pe_int (nomark _)) pe_int pe_int))) pss_nil)
      (pss_cons (ps_if (pt_cmpR op_eq (pv 1) pe_int (nomark _)) (pss_one (ps_ret (pe_ix ix_list (pv 0) (pe_op op_sub (pv 2) pe_int) (fun _ _ => rfl)))) pss_nil)
      (pss_one (ps_ret (pe_callB (cr_sum rfl) (by rfl) Z.sum (by decide +kernel) (pa_cons (pe_lc (own := [("left", 3)]) (g := (gName 3)) (tt := tYes) (te := (tOp _ (tOp (rIxL K) (tVar 0) (tVar 3)) (tOp (rIxL K) (tVar 0) (tOp _ (tOp _ (tVar 2) _) (tVar 3))))) rfl sc_cov.nd (pi_range2 (by rfl) Z.range (pa_cons pe_int (pa_cons (pe_op op_sub (pv 2) pe_int) pa_nil))) (blkOk_by (N := N_cov) (sc := defScope s_cov) (by decide +kernel)) (fun _ _ _ _ _ => by exact (pg_name (i := 3) sc_cov.nd rfl (Or.inl rfl))) (fun _ _ _ _ _ => by exact pts_nil) (fun _ _ _ _ _ => by exact (pe_op op_mulW (pe_ix ix_list (pv 0) (pv 3) (fun _ _ => rfl)) (pe_ix ix_list (pv 0) (pe_op op_sub (pe_op op_sub (pv 2) pe_int) (pv 3)) (fun _ _ => rfl))))) pa_nil)))))), ?_⟩
  refine ⟨_, rfl, rfl, _, rfl, ite2 (fun e0 => ?_) (fun e0 => ?_)⟩
  · have e0 : ar = 0 := V.int.inj (of_decide_eq_true e0)
    refine ⟨_, rfl, rfl, _, rfl, ite2 (fun e1 => ?_) (fun e1 => ?_)⟩
    · have e1 : (m' : Int) = 1 := V.int.inj (of_decide_eq_true e1)
      have := q H (Same.refl H)
      unfold co1 at this
      rw [if_pos e0, if_pos (by omega)] at this
      exact this
    · have e1 : ¬ m' = 1 := fun z => e1 (decide_eq_true (by rw [z]; rfl))
      have := q H (Same.refl H)
      unfold co1 at this
      rw [if_pos e0, if_neg e1] at this
      exact this
  have e0 : ¬ ar = 0 := fun z => e0 (decide_eq_true (by rw [z]))
  refine ⟨_, rfl, rfl, _, rfl, ite2 (fun e1 => ?_) (fun e1 => ?_)⟩
  · have e1 : ar = 1 := V.int.inj (of_decide_eq_true e1)
    refine ⟨_, rfl, _, rfl, _, _, rfl, rfl, c, _, _, _, rfl, rfl, hc, at_cv (k := m' - 1) (by omega) (by omega), ?_⟩
    have := q H (Same.refl H)
    unfold co1 at this
    rw [if_neg e0, if_pos e1] at this
    exact this
  have e1 : ¬ ar = 1 := fun z => e1 (decide_eq_true (by rw [z]))
  dsimp only [tNext, tRet, tCB, tCons]
  refine rd_rng (lo := 1) (n := m' - 2) (fun i => V.int ((C.getD (i + 1) 0 * C.getD (m' - 2 - i) 0 : Nat) : Int)) (fun R h => ?_) (by omega) (fun _ => rfl) (fun i H' hi sm Q' q' => ?_) (fun D H' nD sm hD => ?_)
  · refine ⟨_, rfl, _, _, rfl, rfl, 1, _, rfl, ⟨by decide, by decide, by omega, by omega⟩, ?_⟩
    rw [show ((m' : Int) - 1 - 1).toNat = m' - 2 by omega]
    exact h
  · have hc' := sm.seq hc
    refine ⟨_, rfl, _, rfl, c, _, _, _, rfl, rfl, hc', at_cv (k := i + 1) (by omega) (by omega), ?_⟩
    refine ⟨_, rfl, _, rfl, _, _, rfl, rfl, _, rfl, _, _, rfl, rfl, c, _, _, _, rfl, rfl, hc', at_cv (k := m' - 2 - i) (by omega) (by omega), ?_⟩
    refine ⟨_, _, rfl, rfl, mulW (hb _) (hb _), ?_⟩
    have := q' H' (Same.refl H')
    rw [Int.natCast_mul] at this
    exact this
  · refine ⟨D, (List.range (m' - 2)).map fun i => ((C.getD (i + 1) 0 * C.getD (m' - 2 - i) 0 : Nat) : Int), rfl, SqL.mk (by rw [hD, List.map_map]; rfl), ?_⟩
    have := q H' sm
    unfold co1 at this
    rw [if_neg e0, if_neg e1, ← sum_int, List.map_map] at this
    exact this
abbrev s_cto : Stmt := top 11
abbrev N_cto : List Str := ["signs", "size", "counts", "lesser", "_", "arity"]
abbrev P_cto : List Str := ["signs", "size"]
theorem sc_cto : FnScope N_cto P_cto (defScope s_cto) := ⟨rfl, rfl, rfl, by decide +kernel, rfl, by decide +kernel, by decide +kernel⟩

theorem ok_cto (F : FnP K "counts_to" s_cto f fd) (hm : mg "counts_to" = some (.ref f)) (Z : Zs mg) (c_cov : Cal P w K mg base 1 "count_over" (spCov K) []) : Cal P w K mg base 2 "counts_to" (spCto K) [] := by
  refine mk_cal F hm sc_cto (fun _ _ _ _ _ _ us hl => match us, hl with | [_, _], _ => rfl) (fun vs H Q E h => ?_) (fun cdv A outer s H vs Q E hr h => ?_)
  · obtain ⟨g, sg, n, rfl, _⟩ := h
    rfl
  obtain ⟨g, sg, n, rfl, hsg, gs, hn, q⟩ := h
  refine ⟨_, (pss_cons (ps_set (i := 2) sc_cto.nd rfl (by first | exact Or.inl rfl | exact Or.inr rfl) (pe_lst (pa_cons pe_int pa_nil)))
      (pss_cons (ps_for PassesOwn.never rfl (pi_range2 (by rfl) Z.range (pa_cons pe_int (pa_cons (pe_op op_add (pv 1) pe_int) pa_nil))) (pg_name (i := 3) sc_cto.nd rfl (by first | exact Or.inl rfl | exact Or.inr rfl)) (pss_one (ps_expr (pe_bm PySem.F.plainAttrs_list PySem.F.slot_list_append PySem.F.type_list_append mt_append (pv 2) (pa_cons (pe_callB (cr_sum rfl) (by rfl) Z.sum (by decide +kernel) (pa_cons (pe_lc (own := [("_", 4), ("arity", 5)]) (g := (gTup K 2 (gCons (gName 4) (gCons (gName 5) gNil)))) (tt := tYes) (te := (tCall (spCov K) [] _ (tCons (tVar 2) (tCons (tVar 5) (tCons (tVar 3) tNil))))) rfl sc_cto.nd (pi_tup (pv 0)) (blkOk_by (N := N_cto) (sc := defScope s_cto) (by decide +kernel)) (fun _ _ _ _ _ => by exact (pg_tup rfl (pgs_cons (pg_name (i := 4) sc_cto.nd rfl (Or.inl rfl)) (pgs_cons (pg_name (i := 5) sc_cto.nd rfl (Or.inl rfl)) pgs_nil)))) (fun _ _ _ _ _ => by exact pts_nil) (fun _ _ _ _ _ => by exact (C8.pe_c c_cov hr (by first | decide | omega) rfl (pa_cons (pv 2) (pa_cons (pv 5) (pa_cons (pv 3) pa_nil)))))) pa_nil)) pa_nil)))))
      (pss_one (ps_ret (pv 2))))), ?_⟩
  refine ⟨(by show 1 ≤ sizeLine; decide), fun cl0 ncl => ?_⟩
  refine ⟨_, rfl, _, _, rfl, rfl, 1, _, rfl, ⟨by decide, by decide, by omega, by omega⟩, ?_⟩
  rw [show ((n : Int) + 1 - 1).toNat = n by omega]
  refine for_range (lo := 1) (n := n) (fun i σ H' => ∃ v3 v4 v5 : Option V, σ = [some (.ref g), some (.int (n : Nat)), some (.ref cl0), v3, v4, v5] ∧ H' cl0 = some (.lst (cv (cl sg i))) ∧ Same H H')
    ⟨none, none, none, rfl, upd_same, Same.new ncl⟩ ?_ ?_
  · rintro i σ H1 hi ⟨v3, v4, v5, rfl, hcl, sm⟩
    refine ⟨_, rfl, .inl ⟨rfl, _, SqL.mk hcl⟩, ?_⟩
    dsimp only [tCB, tCons]
    refine rd_prs (i := 0) (fun s => V.int (co1 (cl sg i) s.2 (i + 1) : Nat)) rfl (hsg.keep (TK.same sm)) (by have := gs.len; omega) (fun _ _ => rfl) (fun s H' hs sm' Q' q' => ?_) (fun D H' nD sm' hD => ?_)
    · have har := gs.ar s hs
      refine ⟨_, rfl, _, rfl, _, rfl, cl0, cl sg i, s.2, _, i + 1, rfl, sm'.seq (SqL.mk hcl), by omega, cl_len sg i, cl_small gs (by omega), by omega, by omega, har.1, har.2, fun H2 s2 => q' H2 s2⟩
    · refine ⟨D, sg.map fun s => ((co1 (cl sg i) s.2 (i + 1) : Nat) : Int), rfl, SqL.mk (by rw [hD, List.map_map]; rfl), ?_⟩
      have hcl' := sm' _ _ hcl
      refine ⟨cl0, _, _, rfl, rfl, hcl', ?_, ?_⟩
      · show (List.map _ _).length < sizeLine
        rw [List.length_map, cl_len]
        exact small1000 (by omega)
      · refine ⟨_, _, _, rfl, ?_, Same.mut ncl (sm.trans sm')⟩
        rw [upd_same]
        show _ = some (HO.lst ((cl sg i ++ [co sg (cl sg i) (i + 1)]).map _))
        rw [List.map_append]
        unfold co
        rw [List.map_cons, List.map_nil, ← sum_int, List.map_map]
        rfl
  · rintro σ H1 ⟨v3, v4, v5, rfl, hcl, sm⟩
    exact ⟨_, rfl, q cl0 H1 ncl sm hcl⟩
end
end K02

set_option Elab.async false
set_option linter.all false
set_option maxRecDepth 100000
set_option maxHeartbeats 4000000
namespace K02
open PySem PySem.Spec PyProof.Rows L2 Pg
section
variable {P : Program} {w : World} {K : PySem.W.Frag} {mg : Str → Option Value} {base : Heap} {f : Addr} {fd : FuncData}
abbrev s_pov : Stmt := top 14
abbrev N_pov : List Str := ["sign", "by_size", "size", "pairs", "left", "first", "second"]
abbrev P_pov : List Str := ["sign", "by_size", "size"]
theorem sc_pov : FnScope N_pov P_pov (defScope s_pov) := ⟨rfl, rfl, rfl, by decide +kernel, rfl, by decide +kernel, by decide +kernel⟩

theorem ok_pov (F : FnP K "pairs_over" s_pov f fd) (hm : mg "pairs_over" = some (.ref f)) (Z : Zs mg) : Cal P w K mg base 1 "pairs_over" (spPov K) [] := by
  refine mk_cal F hm sc_pov (fun _ _ _ _ _ _ us hl => match us, hl with | [_, _, _], _ => rfl) (fun vs H Q E h => ?_) (fun cdv A outer s H vs Q E hr h => ?_)
  · obtain ⟨s, b, B, m, rfl, _⟩ := h
    rfl
  obtain ⟨s, b, B, m, rfl, hb, hl, h60, hB, hp, hpl, q⟩ := h
  refine ⟨_, (pss_cons (ps_set (i := 3) sc_pov.nd rfl (by first | exact Or.inl rfl | exact Or.inr rfl) (pe_lst pa_nil))
      (pss_cons (ps_for PassesOwn.never rfl (pi_range2 (by rfl) Z.range (pa_cons pe_int (pa_cons (pe_op op_sub (pv 2) pe_int) pa_nil))) (pg_name (i := 4) sc_pov.nd rfl (by first | exact Or.inl rfl | exact Or.inr rfl)) (pss_one (ps_for PassesOwn.never rfl (pi_list (pe_ix ix_list (pv 1) (pv 4) (fun _ _ => rfl))) (pg_name (i := 5) sc_pov.nd rfl (by first | exact Or.inl rfl | exact Or.inr rfl)) (pss_one (ps_expr (pe_bm PySem.F.plainAttrs_list PySem.F.slot_list_extend PySem.F.type_list_extend mt_extend (pv 3) (pa_cons (pe_lc (own := [("second", 6)]) (g := (gName 6)) (tt := tYes) (te := (tTup (tCons (tVar 0) (tCons (tVar 5) (tCons (tVar 6) tNil))))) rfl sc_pov.nd (pi_list (pe_ix ix_list (pv 1) (pe_op op_sub (pe_op op_sub (pv 2) pe_int) (pv 4)) (fun _ _ => rfl))) (blkOk_by (N := N_pov) (sc := defScope s_pov) (by decide +kernel)) (fun _ _ _ _ _ => by exact (pg_name (i := 6) sc_pov.nd rfl (Or.inl rfl))) (fun _ _ _ _ _ => by exact pts_nil) (fun _ _ _ _ _ => by exact (pe_tup (pa_cons (pv 0) (pa_cons (pv 5) (pa_cons (pv 6) pa_nil)))))) pa_nil)))))))
      (pss_one (ps_ret (pv 3))))), ?_⟩
  refine ⟨by decide, fun pl npl => ?_⟩
  refine ⟨_, rfl, _, _, rfl, rfl, 1, _, rfl, ⟨by decide, by decide, by omega, by omega⟩, ?_⟩
  rw [show ((m : Int) - 1 - 1).toNat = m - 2 by omega]
  refine for_range (lo := 1) (n := m - 2) (fun i σ H' => ∃ (v4 v5 v6 : Option V) (vs : List V), σ = [some (.str s), some (.ref b), some (.int (m : Nat)), some (.ref pl), v4, v5, v6] ∧ H' pl = some (.lst vs) ∧ KidsAt K H' vs ((List.range i).flatMap fun i => (B.getD (i + 1) []).flatMap fun t => (B.getD (m - 2 - i) []).map fun u => Tr.c2 s t u) ∧ Same H H')
    ⟨none, none, none, [], rfl, upd_same, .nil, Same.new npl⟩ ?_ ?_
  · rintro i σ H1 hi ⟨v4, v5, v6, vs, rfl, hpv, hk, sm⟩
    obtain ⟨xs, r, us, h1, h2, h3, h4⟩ := hb.at (k := i + 1) (i := (1 : Int) + (i : Int)) (by omega) (by omega)
    have tot : ((List.range (i + 1)).flatMap fun i => (B.getD (i + 1) []).flatMap fun t => (B.getD (m - 2 - i) []).map fun u => Tr.c2 s t u).length ≤ 2000 := by
      have := flat_take (fun i => (B.getD (i + 1) []).flatMap fun t => (B.getD (m - 2 - i) []).map fun u => Tr.c2 s t u) (List.range (m - 2)) (i + 1)
      rw [range_take _ _ (by omega)] at this
      exact Nat.le_trans this hp
    rw [List.range_succ, List.flatMap_append, List.length_append, List.flatMap_cons, List.flatMap_nil, List.append_nil] at tot
    dsimp only [tSeq, gName]
    refine ⟨_, rfl, _, rfl, b, xs, _, _, rfl, rfl, sm.seq h1, h2, r, rfl, ⟨_, SqL.mk (sm _ _ h3)⟩, ?_⟩
    refine for_list (K := K) (a := r) (xs := us) (fun j σ H' => ∃ (v5 v6 : Option V) (vs : List V), σ = [some (.str s), some (.ref b), some (.int (m : Nat)), some (.ref pl), some (.int ((1 : Int) + (i : Int))), v5, v6] ∧ H' pl = some (.lst vs) ∧ KidsAt K H' vs (((List.range i).flatMap fun i => (B.getD (i + 1) []).flatMap fun t => (B.getD (m - 2 - i) []).map fun u => Tr.c2 s t u) ++ ((B.getD (i + 1) []).take j).flatMap fun t => (B.getD (m - 2 - i) []).map fun u => Tr.c2 s t u) ∧ Same H H')
      ⟨v5, v6, vs, rfl, hpv, by rw [List.take_zero, List.flatMap_nil, List.append_nil]; exact hk, sm⟩ (fun j σ H' _ ⟨_, _, _, _, _, _, sm⟩ => SqL.mk (sm _ _ h3)) ?_ ?_
    · rintro j x σ H2 hx ⟨v5, v6, vs, rfl, hpv, hk, sm⟩
      obtain ⟨t, et, ht⟩ := Pg.paired_get h4 hx
      have ht2 := TrAt.keep (TK.same sm) ht
      have hj : j < (B.getD (i + 1) []).length := (List.getElem?_eq_some_iff.mp et).1
      obtain ⟨xs2, r2, us2, g1, g2, g3, g4⟩ := (hb.same sm).at (k := m - 2 - i) (i := (m : Int) - 1 - ((1 : Int) + (i : Int))) (by omega) (by omega)
      refine ⟨_, rfl, .inl ⟨rfl, _, SqL.mk hpv⟩, ?_⟩
      dsimp only [tCons]
      refine rd_kidsL (r := r2) (us := us2) (ks := B.getD (m - 2 - i) []) (fun R h => ⟨_, rfl, _, rfl, _, _, rfl, rfl, _, rfl, _, _, rfl, rfl, b, xs2, _, _, rfl, rfl, g1, g2, r2, rfl, ⟨_, SqL.mk g3⟩, h⟩) (SqL.mk g3) (fun H v k => TrAt K H (.c2 s t k) v) (fun _ _ _ _ _ tk h => TrAt.keep tk h) g4 (Nat.le_trans (hB _) (by decide)) (fun _ => rfl) (fun u k H' hkm sm' hu Q' q' => ?_) (fun D H' ws nD sm' hD hr => ?_)
      · exact ⟨_, rfl, _, rfl, _, rfl, (by show 3 ≤ sizeLine; decide), fun p np => q' _ _ (Same.new np) ⟨p, _, _, rfl, SqT.mk upd_same, TrAt.keep ((TK.same sm').trans (TK.new np)) ht2, TrAt.keep (TK.new np) hu⟩⟩
      · have hpv' := sm' _ _ hpv
        have hr' : KidsAt K H' ws ((B.getD (m - 2 - i) []).map fun u => Tr.c2 s t u) := by
          clear hD
          have : ∀ {ws : List V} {l : List Tr}, Paired (fun v k => TrAt K H' (.c2 s t k) v) ws l → KidsAt K H' ws (l.map fun u => Tr.c2 s t u) := by
            intro ws l hp
            induction hp with
            | nil => exact .nil
            | cons a b ih => exact .cons a ih
          exact this hr
        have e1 : ((B.getD (i + 1) []).take (j + 1)).flatMap (fun t => (B.getD (m - 2 - i) []).map fun u => Tr.c2 s t u) = ((B.getD (i + 1) []).take j).flatMap (fun t => (B.getD (m - 2 - i) []).map fun u => Tr.c2 s t u) ++ (B.getD (m - 2 - i) []).map fun u => Tr.c2 s t u := by
          rw [take_snoc et, List.flatMap_append, List.flatMap_cons, List.flatMap_nil, List.append_nil]
        have e2 := flat_take (fun t => (B.getD (m - 2 - i) []).map fun u => Tr.c2 s t u) (B.getD (i + 1) []) (j + 1)
        rw [e1, List.length_append] at e2
        have l1 := paired_len hk
        have l2 := paired_len hr'
        rw [List.length_append] at l1
        refine ⟨pl, D, _, _, rfl, rfl, hpv', hD, ?_, ?_⟩
        · exact Nat.le_of_lt (smallN (by omega))
        · have tkp : TK K H' (upd H' pl (.lst (vs ++ ws))) := TK.put hpv'
          refine ⟨_, _, vs ++ ws, rfl, upd_same, ?_, Same.mut npl (sm.trans sm')⟩
          rw [e1, ← List.append_assoc]
          exact paired_app ((KidsAt.keep (TK.same sm') hk).keep tkp) (hr'.keep tkp)
    · rintro σ H2 ⟨v5, v6, vs, rfl, hpv, hk, sm⟩
      rw [paired_len h4, List.take_length] at hk
      refine ⟨_, _, _, vs, rfl, hpv, ?_, sm⟩
      rw [List.range_succ, List.flatMap_append, List.flatMap_cons, List.flatMap_nil, List.append_nil]
      exact hk
  · rintro σ H1 ⟨v4, v5, v6, vs, rfl, hpv, hk, sm⟩
    exact ⟨_, rfl, q pl vs H1 npl sm hpv hk⟩
abbrev s_tov : Stmt := top 13
abbrev N_tov : List Str := ["signs", "by_size", "size", "trees", "sign", "arity", "part"]
abbrev P_tov : List Str := ["signs", "by_size", "size"]
theorem sc_tov : FnScope N_tov P_tov (defScope s_tov) := ⟨rfl, rfl, rfl, by decide +kernel, rfl, by decide +kernel, by decide +kernel⟩

theorem ok_tov (F : FnP K "trees_over" s_tov f fd) (hm : mg "trees_over" = some (.ref f)) (Z : Zs mg) (c_pov : Cal P w K mg base 1 "pairs_over" (spPov K) []) : Cal P w K mg base 2 "trees_over" (spTov K) [] := by
  refine mk_cal F hm sc_tov (fun _ _ _ _ _ _ us hl => match us, hl with | [_, _, _], _ => rfl) (fun vs H Q E h => ?_) (fun cdv A outer s H vs Q E hr h => ?_)
  · obtain ⟨g, b, sg, B, m, rfl, _⟩ := h
    rfl
  obtain ⟨g, b, sg, B, m, rfl, hsg, gs, hb, hl, h1, h60, hB, hp, hpl, q⟩ := h
  refine ⟨_, (pss_cons (ps_set (i := 3) sc_tov.nd rfl (by first | exact Or.inl rfl | exact Or.inr rfl) (pe_lst pa_nil))
      (pss_cons (ps_for PassesOwn.never rfl (pi_tup (pv 0)) (pg_tup rfl (pgs_cons (pg_name (i := 4) sc_tov.nd rfl (by first | exact Or.inl rfl | exact Or.inr rfl)) (pgs_cons (pg_name (i := 5) sc_tov.nd rfl (by first | exact Or.inl rfl | exact Or.inr rfl)) pgs_nil))) (pss_cons (ps_if (PW.pt (pw_and (pt_cmpR op_eq (pv 5) pe_int (nomark _)) (pw_and1 (pt_cmpR op_eq (pv 2) pe_int (nomark _))))) (pss_one (ps_expr (pe_bm PySem.F.plainAttrs_list PySem.F.slot_list_append PySem.F.type_list_append mt_append (pv 3) (pa_cons (pe_tup (pa_cons (pv 4) pa_nil)) pa_nil)))) pss_nil)
      (pss_cons (ps_if (pt_cmpR op_eq (pv 5) pe_int (nomark _)) (pss_one (ps_expr (pe_bm PySem.F.plainAttrs_list PySem.F.slot_list_extend PySem.F.type_list_extend mt_extend (pv 3) (pa_cons (pe_lc (own := [("part", 6)]) (g := (gName 6)) (tt := tYes) (te := (tTup (tCons (tVar 4) (tCons (tVar 6) tNil)))) rfl sc_tov.nd (pi_list (pe_ix ix_list (pv 1) (pe_op op_sub (pv 2) pe_int) (fun _ _ => rfl))) (blkOk_by (N := N_tov) (sc := defScope s_tov) (by decide +kernel)) (fun _ _ _ _ _ => by exact (pg_name (i := 6) sc_tov.nd rfl (Or.inl rfl))) (fun _ _ _ _ _ => by exact pts_nil) (fun _ _ _ _ _ => by exact (pe_tup (pa_cons (pv 4) (pa_cons (pv 6) pa_nil))))) pa_nil)))) pss_nil)
      (pss_one (ps_if (pt_cmpR op_eq (pv 5) pe_int (nomark _)) (pss_one (ps_expr (pe_bm PySem.F.plainAttrs_list PySem.F.slot_list_extend PySem.F.type_list_extend mt_extend (pv 3) (pa_cons (C8.pe_c c_pov hr (by first | decide | omega) rfl (pa_cons (pv 4) (pa_cons (pv 1) (pa_cons (pv 2) pa_nil)))) pa_nil)))) pss_nil)))))
      (pss_one (ps_ret (pv 3))))), ?_⟩
  refine ⟨by decide, fun pl npl => ?_⟩
  obtain ⟨rs, hS, prs⟩ := hsg.ex
  have hSn := TK.new (K := K) (o := .lst []) npl _ _ hS
  refine ⟨_, rfl, g, rfl, ⟨_, hSn⟩, ?_⟩
  refine for_tup (K := K) (a := g) (xs := rs.map V.ref) (fun i σ H' => ∃ (v4 v5 v6 : Option V) (vs : List V), σ = [some (.ref g), some (.ref b), some (.int (m : Nat)), some (.ref pl), v4, v5, v6] ∧ H' pl = some (.lst vs) ∧ KidsAt K H' vs ((sg.take i).flatMap fun s => ov1 s B m) ∧ Same H H')
    ⟨none, none, none, [], rfl, upd_same, .nil, Same.new npl⟩ (fun i σ H' _ ⟨_, _, _, _, _, _, _, sm⟩ => TK.same sm _ _ hS) ?_ ?_
  · rintro i x σ H1 hx ⟨v4, v5, v6, vs, rfl, hpv, hk, sm⟩
    rw [List.getElem?_map] at hx
    obtain ⟨rr, er, rfl⟩ : ∃ rr, rs[i]? = some rr ∧ V.ref rr = x := by
      cases e : rs[i]? with
      | none => rw [e] at hx; cases hx
      | some z => rw [e] at hx; exact ⟨z, rfl, Option.some.inj hx⟩
    obtain ⟨s0, es, hrr⟩ := Pg.paired_get prs er
    have hmem := List.mem_of_getElem? es
    have har := gs.ar _ hmem
    have e1 : (sg.take (i + 1)).flatMap (fun s => ov1 s B m) = (sg.take i).flatMap (fun s => ov1 s B m) ++ ov1 s0 B m := by
      rw [take_snoc es, List.flatMap_append, List.flatMap_cons, List.flatMap_nil, List.append_nil]
    have e2 := flat_take (fun s => ov1 s B m) sg (i + 1)
    rw [e1, List.length_append] at e2
    have e3 : (sg.flatMap fun s => ov1 s B m).length ≤ 2000 := hp
    have l1 := paired_len hk
    refine ⟨rr, _, rfl, TK.same sm _ _ hrr, rfl, _, _, rfl, _, _, rfl, rfl, ?_⟩
    -- what is left when the trees of this sign stand in the list
    have fin : ∀ (v4 v5 v6 : Option V) (ws : List V) (H2 : Hp), H1 pl = some (.lst vs) → Same H H2 → H2 pl = some (.lst (vs ++ ws)) → KidsAt K H2 (vs ++ ws) ((sg.take i).flatMap (fun s => ov1 s B m) ++ ov1 s0 B m) → ∃ (u4 u5 u6 : Option V) (vs : List V), [some (.ref g), some (.ref b), some (.int (m : Nat)), some (.ref pl), v4, v5, v6] = [some (.ref g), some (.ref b), some (.int (m : Nat)), some (.ref pl), u4, u5, u6] ∧ H2 pl = some (.lst vs) ∧ KidsAt K H2 vs ((sg.take (i + 1)).flatMap fun s => ov1 s B m) ∧ Same H H2 :=
      fun v4 v5 v6 ws H2 _ s2 h2 k2 => ⟨_, _, _, _, rfl, h2, by rw [e1]; exact k2, s2⟩
    rcases (by omega : s0.2 = 0 ∨ s0.2 = 1 ∨ s0.2 = 2) with ea | ea | ea
    · have eo : ov1 s0 B m = if m = 1 then [.c0 s0.1] else [] := by unfold ov1; rw [if_pos ea]
      rw [eo] at fin e2
      have no : ∀ k : Int, k ≠ 0 → ¬ decide (V.int s0.2 = V.int k) = true := fun k hk z => hk (by rw [← V.int.inj (of_decide_eq_true z), ea])
      refine TV.ifs (b := decide (V.int s0.2 = .int 0) && decide (V.int (m : Nat) = .int 1)) (TV.and (fun Q q => ⟨_, rfl, rfl, _, rfl, q⟩) (fun Q q => ⟨_, rfl, rfl, _, rfl, q⟩)) (fun e => ?_) (fun e => ?_)
      · rw [Bool.and_eq_true] at e
        have em : m = 1 := by have := V.int.inj (of_decide_eq_true e.2); omega
        rw [if_pos em] at fin e2
        refine ⟨_, rfl, .inl ⟨rfl, _, SqL.mk hpv⟩, _, rfl, (by show 1 ≤ sizeLine; decide), fun p np => ?_⟩
        have hpv2 := Same.new (o := .tup [.str s0.1]) np _ _ hpv
        refine ⟨pl, _, _, rfl, rfl, hpv2, ?_, ?_⟩
        · exact smallN (by rw [l1]; omega)
        refine ⟨_, rfl, rfl, _, rfl, ite2 (fun z => absurd z (no 1 (by decide))) (fun _ => ?_)⟩
        refine ⟨_, rfl, rfl, _, rfl, ite2 (fun z => absurd z (no 2 (by decide))) (fun _ => ?_)⟩
        refine fin _ _ _ [.ref p] _ hpv (Same.mut npl (sm.trans (Same.new np))) upd_same ?_
        exact paired_app (hk.keep ((TK.new np).trans (TK.put hpv2))) (.cons ⟨p, rfl, (TK.put hpv2) _ _ (SqT.mk upd_same)⟩ .nil)
      · have em : ¬ m = 1 := fun z => by
          rw [Bool.and_eq_false_iff] at e
          rcases e with e | e
          · exact absurd (by rw [ea]) (of_decide_eq_false e)
          · exact absurd (by rw [z]; rfl) (of_decide_eq_false e)
        rw [if_neg em] at fin e2
        refine ⟨_, rfl, rfl, _, rfl, ite2 (fun z => absurd z (no 1 (by decide))) (fun _ => ?_)⟩
        refine ⟨_, rfl, rfl, _, rfl, ite2 (fun z => absurd z (no 2 (by decide))) (fun _ => ?_)⟩
        refine fin _ _ _ [] _ hpv sm (by rw [List.append_nil]; exact hpv) (by rw [List.append_nil, List.append_nil]; exact hk)
    · have eo : ov1 s0 B m = (B.getD (m - 1) []).map (Tr.c1 s0.1) := by unfold ov1; rw [if_neg (by rw [ea]; decide), if_pos ea]
      rw [eo] at fin e2
      have no : ∀ k : Int, k ≠ 1 → ¬ decide (V.int s0.2 = V.int k) = true := fun k hk z => hk (by rw [← V.int.inj (of_decide_eq_true z), ea])
      refine TV.ifs (b := decide (V.int s0.2 = .int 0) && decide (V.int (m : Nat) = .int 1)) (TV.and (fun Q q => ⟨_, rfl, rfl, _, rfl, q⟩) (fun Q q => ⟨_, rfl, rfl, _, rfl, q⟩)) (fun e => ?_) (fun _ => ?_)
      · rw [Bool.and_eq_true] at e
        exact absurd e.1 (no 0 (by decide))
      refine ⟨_, rfl, rfl, _, rfl, ite2 (fun _ => ?_) (fun z => absurd (decide_eq_true (by rw [ea])) z)⟩
      obtain ⟨xs, r, us, h1', h2, h3, h4⟩ := (hb.same sm).at (k := m - 1) (i := (m : Int) - 1) (by omega) (by omega)
      refine ⟨_, rfl, .inl ⟨rfl, _, SqL.mk hpv⟩, ?_⟩
      dsimp only [tCons]
      refine rd_kidsL (r := r) (us := us) (ks := B.getD (m - 1) []) (fun R h => ⟨_, rfl, _, rfl, _, _, rfl, rfl, b, xs, _, _, rfl, rfl, h1', h2, r, rfl, ⟨_, SqL.mk h3⟩, h⟩) (SqL.mk h3) (fun H v k => TrAt K H (.c1 s0.1 k) v) (fun _ _ _ _ _ tk h => TrAt.keep tk h) h4 (Nat.le_trans (hB _) (by decide)) (fun _ => rfl) (fun u k H' hkm sm' hu Q' q' => ?_) (fun D H' ws nD sm' hD hr => ?_)
      · exact ⟨_, rfl, _, rfl, (by show 2 ≤ sizeLine; decide), fun p np => q' _ _ (Same.new np) ⟨p, _, rfl, SqT.mk upd_same, TrAt.keep (TK.new np) hu⟩⟩
      · have hpv' := sm' _ _ hpv
        have hr' : KidsAt K H' ws ((B.getD (m - 1) []).map (Tr.c1 s0.1)) := by
          clear hD
          have : ∀ {ws : List V} {l : List Tr}, Paired (fun v k => TrAt K H' (.c1 s0.1 k) v) ws l → KidsAt K H' ws (l.map (Tr.c1 s0.1)) := by
            intro ws l hp
            induction hp with
            | nil => exact .nil
            | cons a b ih => exact .cons a ih
          exact this hr
        have l2 := paired_len hr'
        refine ⟨pl, D, _, _, rfl, rfl, hpv', hD, Nat.le_of_lt (smallN (by omega)), ?_⟩
        refine ⟨_, rfl, rfl, _, rfl, ite2 (fun z => absurd z (no 2 (by decide))) (fun _ => ?_)⟩
        have tkp : TK K H' (upd H' pl (.lst (vs ++ ws))) := TK.put hpv'
        exact fin _ _ _ ws _ hpv (Same.mut npl (sm.trans sm')) upd_same (paired_app ((KidsAt.keep (TK.same sm') hk).keep tkp) (hr'.keep tkp))
    · have eo : ov1 s0 B m = pr s0.1 B m := by unfold ov1; rw [if_neg (by rw [ea]; decide), if_neg (by rw [ea]; decide)]
      rw [eo] at fin e2
      have no : ∀ k : Int, k ≠ 2 → ¬ decide (V.int s0.2 = V.int k) = true := fun k hk z => hk (by rw [← V.int.inj (of_decide_eq_true z), ea])
      refine TV.ifs (b := decide (V.int s0.2 = .int 0) && decide (V.int (m : Nat) = .int 1)) (TV.and (fun Q q => ⟨_, rfl, rfl, _, rfl, q⟩) (fun Q q => ⟨_, rfl, rfl, _, rfl, q⟩)) (fun e => ?_) (fun _ => ?_)
      · rw [Bool.and_eq_true] at e
        exact absurd e.1 (no 0 (by decide))
      refine ⟨_, rfl, rfl, _, rfl, ite2 (fun z => absurd z (no 1 (by decide))) (fun _ => ?_)⟩
      refine ⟨_, rfl, rfl, _, rfl, ite2 (fun _ => ?_) (fun z => absurd (decide_eq_true (by rw [ea])) z)⟩
      refine ⟨_, rfl, .inl ⟨rfl, _, SqL.mk hpv⟩, _, rfl, _, rfl, _, rfl, s0.1, b, B, m, rfl, hb.same sm, hl, h60, hB, by omega, hpl, fun D ws H' nD sm' hD hr' => ?_⟩
      have hpv' := sm' _ _ hpv
      have l2 := paired_len hr'
      refine ⟨pl, D, _, _, rfl, rfl, hpv', hD, Nat.le_of_lt (smallN (by omega)), ?_⟩
      have tkp : TK K H' (upd H' pl (.lst (vs ++ ws))) := TK.put hpv'
      exact fin _ _ _ ws _ hpv (Same.mut npl (sm.trans sm')) upd_same (paired_app ((KidsAt.keep (TK.same sm') hk).keep tkp) (hr'.keep tkp))
  · rintro σ H1 ⟨v4, v5, v6, vs, rfl, hpv, hk, sm⟩
    rw [List.length_map, paired_len prs, List.take_length] at hk
    exact ⟨_, rfl, q pl vs H1 npl sm hpv hk⟩
end
end K02

set_option Elab.async false
set_option linter.all false
set_option maxRecDepth 100000
set_option maxHeartbeats 4000000
namespace K02
open PySem PySem.Spec PyProof.Rows L2 Pg
section
variable {P : Program} {w : World} {K : PySem.W.Frag} {mg : Str → Option Value} {base : Heap} {f : Addr} {fd : FuncData} {N T M Pe : Addr}
abbrev s_chk : Stmt := top 10
abbrev N_chk : List Str := ["size"]
abbrev P_chk : List Str := ["size"]
theorem sc_chk : FnScope N_chk P_chk (defScope s_chk) := ⟨rfl, rfl, rfl, by decide +kernel, rfl, by decide +kernel, by decide +kernel⟩

theorem ok_chk (F : FnP K "check_size" s_chk f fd) (hm : mg "check_size" = some (.ref f)) (Z : Zs mg) (G : Ex2 K mg N T M Pe) : CalX P w K mg base 1 "check_size" (spChk N) := by
  refine mk_calX F hm sc_chk (fun _ _ _ _ _ _ us hl => match us, hl with | [_], _ => rfl) (fun vs H Q E h => ?_) (fun cdv A outer s H vs Q E hr h => ?_)
  · obtain ⟨n, rfl, _⟩ := h
    rfl
  obtain ⟨n, rfl, q, e⟩ := h
  refine ⟨_, (pss_one (ps_if (pt_not (pt_chain op_le op_le pe_int (pv 0) (C8.pe_gc (v := .int 60) (by rfl) G.mc))) (pss_one (ps_raise rfl (takes_of rfl rfl rfl rfl) (pmk_own PySem.F.excBase_ValueError G.xN G.gN G.kN (raises_own G.bN G.tN) (by rfl)))) pss_nil)), ?_⟩
  refine ⟨_, rfl, _, _, rfl, rfl, _, rfl, ite2 (fun h0 => ⟨_, _, rfl, rfl, _, rfl, ite2 (fun h1 => ?_) (fun h1 => ?_)⟩) (fun h0 => ⟨_, rfl, ite2 (fun _ => ?_) (fun h1 => absurd rfl h1)⟩)⟩
  · refine e fun z => ?_
    rw [decide_eq_true z.2] at h1
    cases h1
  · refine q ⟨of_decide_eq_true h0, ?_⟩
    by_cases z : n ≤ 60
    · exact z
    · rw [decide_eq_false z] at h1
      exact absurd rfl h1
  · exact e fun z => h0 (decide_eq_true z.1)
abbrev s_cnt : Stmt := top 8
abbrev N_cnt : List Str := ["signs", "size"]
abbrev P_cnt : List Str := ["signs", "size"]
theorem sc_cnt : FnScope N_cnt P_cnt (defScope s_cnt) := ⟨rfl, rfl, rfl, by decide +kernel, rfl, by decide +kernel, by decide +kernel⟩

theorem ok_cnt (F : FnP K "count_trees" s_cnt f fd) (hm : mg "count_trees" = some (.ref f)) (Z : Zs mg) (x_chk : CalX P w K mg base 1 "check_size" (spChk N)) (c_cto : Cal P w K mg base 2 "counts_to" (spCto K) []) : CalX P w K mg base 3 "count_trees" (spCnt K N) := by
  refine mk_calX F hm sc_cnt (fun _ _ _ _ _ _ us hl => match us, hl with | [_, _], _ => rfl) (fun vs H Q E h => ?_) (fun cdv A outer s H vs Q E hr h => ?_)
  · obtain ⟨g, sg, n, rfl, _⟩ := h
    rfl
  obtain ⟨g, sg, n, rfl, hsg, gs, q, e⟩ := h
  refine ⟨_, (pss_cons (ps_expr (pe_cx x_chk hr (by first | decide | omega) rfl (takes_of rfl rfl rfl rfl) (pa_cons (pv 1) pa_nil)))
      (pss_one (ps_ret (pe_ix ix_list (C8.pe_c c_cto hr (by first | decide | omega) rfl (pa_cons (pv 0) (pa_cons (pv 1) pa_nil))) (pv 1) (fun _ _ => rfl))))), ?_⟩
  refine ⟨_, rfl, n, rfl, fun hn => ?_, fun hn => e hn⟩
  obtain ⟨m, rfl⟩ := Int.eq_ofNat_of_zero_le hn.1
  have q := q hn
  rw [Int.toNat_natCast] at q
  refine ⟨_, rfl, _, rfl, g, sg, m, rfl, hsg, gs, by omega, fun p H1 np sm hp => ?_⟩
  exact ⟨_, rfl, p, _, _, _, rfl, rfl, SqL.mk hp, at_cv (k := m) rfl (by rw [cl_len]; omega), q H1 sm⟩
abbrev s_trs : Stmt := top 9
abbrev N_trs : List Str := ["signs", "size", "many", "by_size", "lesser"]
abbrev P_trs : List Str := ["signs", "size"]
theorem sc_trs : FnScope N_trs P_trs (defScope s_trs) := ⟨rfl, rfl, rfl, by decide +kernel, rfl, by decide +kernel, by decide +kernel⟩

theorem ok_trs (F : FnP K "trees_of" s_trs f fd) (hm : mg "trees_of" = some (.ref f)) (Z : Zs mg) (G : Ex2 K mg N T M Pe) (x_chk : CalX P w K mg base 1 "check_size" (spChk N)) (c_cto : Cal P w K mg base 2 "counts_to" (spCto K) []) (c_tov : Cal P w K mg base 2 "trees_over" (spTov K) []) : CalX P w K mg base 3 "trees_of" (spTrs K N T) := by
  refine mk_calX F hm sc_trs (fun _ _ _ _ _ _ us hl => match us, hl with | [_, _], _ => rfl) (fun vs H Q E h => ?_) (fun cdv A outer s H vs Q E hr h => ?_)
  · obtain ⟨g, sg, n, rfl, _⟩ := h
    rfl
  obtain ⟨g, sg, n, rfl, hsg, gs, q, eT, eN⟩ := h
  refine ⟨_, (pss_cons (ps_expr (pe_cx x_chk hr (by first | decide | omega) rfl (takes_of rfl rfl rfl rfl) (pa_cons (pv 1) pa_nil)))
      (pss_cons (ps_set (i := 2) sc_trs.nd rfl (by first | exact Or.inl rfl | exact Or.inr rfl) (pe_ix ix_list (C8.pe_c c_cto hr (by first | decide | omega) rfl (pa_cons (pv 0) (pa_cons (pv 1) pa_nil))) (pv 1) (fun _ _ => rfl)))
      (pss_cons (ps_if (pt_cmpR op_gt (pv 2) (C8.pe_gc (v := .int 2000) (by rfl) G.ml) (nomark _)) (pss_one (ps_raise rfl (takes_of rfl rfl rfl rfl) (SkE.pmk_own1 PySem.F.excBase_ValueError G.xT G.gT G.kT (raises_own G.bT G.tT) (by rfl) (pe_joined (PJ.cons pe_str (PJ.cons (pe_fmt (pv 2)) (PJ.cons pe_str PJ.nil))))))) pss_nil)
      (pss_cons (ps_if (pt_cmpR op_eq (pv 2) pe_int (nomark _)) (pss_one (ps_ret (pe_lst pa_nil))) pss_nil)
      (pss_cons (ps_set (i := 3) sc_trs.nd rfl (by first | exact Or.inl rfl | exact Or.inr rfl) (pe_lst (pa_cons (pe_lst pa_nil) pa_nil)))
      (pss_cons (ps_for (passes_of rfl) rfl (pi_range2 (by rfl) Z.range (pa_cons pe_int (pa_cons (pe_op op_add (pv 1) pe_int) pa_nil))) (pg_name (i := 4) sc_trs.nd rfl (by first | exact Or.inl rfl | exact Or.inr rfl)) (pss_one (ps_expr (pe_bm PySem.F.plainAttrs_list PySem.F.slot_list_append PySem.F.type_list_append mt_append (pv 3) (pa_cons (C8.pe_c c_tov hr (by first | decide | omega) rfl (pa_cons (pv 0) (pa_cons (pv 3) (pa_cons (pv 4) pa_nil)))) pa_nil)))))
      (pss_one (ps_ret (pe_ix ix_list (pv 3) (pv 1) (fun _ _ => rfl)))))))))), ?_⟩
  refine ⟨_, rfl, n, rfl, fun hn => ?_, fun hn => eN hn⟩
  obtain ⟨m, rfl⟩ := Int.eq_ofNat_of_zero_le hn.1
  have q := q hn
  have eT := eT hn
  rw [Int.toNat_natCast] at q eT
  have hm60 : m ≤ 60 := by omega
  refine ⟨_, rfl, _, rfl, g, sg, m, rfl, hsg, gs, hm60, fun p0 H1 np0 sm1 hp0 => ?_⟩
  refine ⟨_, rfl, p0, _, _, _, rfl, rfl, SqL.mk hp0, at_cv (k := m) rfl (by rw [cl_len]; omega), ?_⟩
  show tSeq _ _ _ _ _
  refine ⟨_, rfl, _, _, rfl, rfl, _, rfl, ite2 (fun hgt => ?_) (fun hle => ?_)⟩
  · have hgt : (2000 : Int) < ((ct sg m : Nat) : Int) := of_decide_eq_true hgt
    have hs : (ct sg m) ≤ 2 ^ 1200 := Nat.le_trans (ct_small gs m hm60) (Nat.pow_le_pow_right (by decide) (by omega))
    have hl : ((ct sg m : Nat) : Int).natAbs.log2 < 1920 := by
      rw [Int.natAbs_natCast]
      have := log2_small hs
      omega
    have h1921 := int_text_len_1921 hl
    have e1 : (Str.empty ++ PySem.Str.ofString "there are ").length ≤ 20 := by decide +kernel
    have e2 : (PySem.Str.ofString " trees of this size").length ≤ 20 := by decide +kernel
    refine ⟨_, rfl, Nat.le_of_lt (smallN (by omega)), _, rfl, .inr ⟨_, rfl, hl, _, rfl, ?_, _, rfl, ?_, eT (by omega) H1 sm1⟩⟩
    · rw [PySem.Str.length_append]; exact Nat.le_of_lt (smallN (Nat.le_trans (Nat.add_le_add e1 h1921) (by decide)))
    · rw [PySem.Str.length_append, PySem.Str.length_append]; exact Nat.le_of_lt (smallN (Nat.le_trans (Nat.add_le_add (Nat.add_le_add e1 h1921) e2) (by decide)))
  have hle : ct sg m ≤ 2000 := by
    have : ¬ ((2000 : Int) < ((ct sg m : Nat) : Int)) := fun z => hle (decide_eq_true z)
    omega
  have q := q hle
  refine ⟨_, rfl, rfl, _, rfl, ite2 (fun h0 => ?_) (fun h0 => ?_)⟩
  · have h0 : ((ct sg m : Nat) : Int) = 0 := V.int.inj (of_decide_eq_true h0)
    have et : ts sg m = [] := List.length_eq_zero_iff.mp (by rw [ts_len]; omega)
    refine ⟨by decide, fun l nl => q l [] _ (same_free sm1 nl) (sm1.trans (Same.new nl)) upd_same ?_⟩
    rw [et]
    exact .nil
  have h0 : ct sg m ≠ 0 := fun z => h0 (decide_eq_true (by show V.int ((ct sg m : Nat) : Int) = V.int 0; rw [z]; rfl))
  have hk : ∀ k, k ≤ m → ct sg k ≤ 2000 := fun k hk => Nat.le_trans (ct_mono gs h0 hk) hle
  have hB : ∀ i k, i ≤ m → ((bl sg i).getD k []).length ≤ 2000 := fun i k hi => by
    by_cases h : k ≤ i
    · rw [bl_get sg h, ts_len]; exact hk k (by omega)
    · rw [List.getD_eq_getElem?_getD, List.getElem?_eq_none (by rw [bl_len]; omega)]; exact Nat.zero_le _
  have hP : ∀ i k, ∀ t ∈ (bl sg i).getD k [], Pl t := fun i k t ht => by
    by_cases h : k ≤ i
    · rw [bl_get sg h] at ht; exact (ts_wf gs k t ht).1.pl
    · rw [List.getD_eq_getElem?_getD, List.getElem?_eq_none (by rw [bl_len]; omega)] at ht; cases ht
  refine ⟨by decide, fun e0 ne0 => ⟨(by show 1 ≤ sizeLine; decide), fun bp nbp => ?_⟩⟩
  have neb : e0 ≠ bp := ne_of_none upd_same nbp
  have nb1 := same_free (Same.new (o := .lst []) ne0) nbp
  have nb0 := same_free sm1 nb1
  have smI : Same H (upd (upd H1 e0 (.lst [])) bp (.lst [.ref e0])) := sm1.trans ((Same.new ne0).trans (Same.new nbp))
  refine ⟨_, rfl, _, _, rfl, rfl, 1, _, rfl, ⟨by decide, by decide, by omega, by omega⟩, ?_⟩
  rw [show ((m : Int) + 1 - 1).toNat = m by omega]
  refine for_range (lo := 1) (n := m) (fun i σ H' => ∃ (v4 : Option V) (rs : List Addr), σ = [some (.ref g), some (.int (m : Nat)), some (.int (ct sg m : Nat)), some (.ref bp), v4] ∧ H' bp = some (.lst (rs.map V.ref)) ∧ Paired (fun r (ks : List Tr) => r ≠ bp ∧ H r = none ∧ ∃ us, H' r = some (.lst us) ∧ KidsAt K H' us ks) rs (bl sg i) ∧ Same H H')
    ⟨none, [e0], rfl, upd_same, .cons ⟨neb, same_free sm1 ne0, [], by rw [upd_ne neb]; exact upd_same, .nil⟩ .nil, smI⟩ ?_ ?_
  · rintro i σ H2 hi ⟨v4, rs, rfl, hbp, hrs, sm⟩
    have hBL : BLat K H2 bp (bl sg i) := ⟨rs, SqL.mk hbp, Paired.imp2 (fun _ _ ⟨_, _, us, a, b⟩ => ⟨us, a, b⟩) hrs⟩
    have hov : (ov sg (bl sg i) (i + 1)).length ≤ 2000 := by rw [← ts_succ, ts_len]; exact hk (i + 1) (by omega)
    refine ⟨_, rfl, .inl ⟨rfl, _, SqL.mk hbp⟩, _, rfl, _, rfl, _, rfl, g, bp, sg, bl sg i, i + 1, ?_, hsg.keep (TK.same sm), gs, hBL, bl_len sg i, by omega, by omega, fun k => hB i k (by omega), hov, fun k => hP i k, fun p vs H3 np3 sm3 hp3 hk3 => ?_⟩
    · rw [show (1 : Int) + (i : Int) = ((i + 1 : Nat) : Int) by omega]; rfl
    have hbp3 := sm3 _ _ hbp
    have npb : p ≠ bp := (ne_of_none hbp np3).symm
    refine ⟨bp, _, _, rfl, rfl, hbp3, ?_, ?_⟩
    · rw [List.length_map, paired_len hrs, bl_len]; exact smallN (by omega)
    have tkb : TK K H3 (upd H3 bp (.lst (rs.map V.ref ++ [.ref p]))) := TK.put hbp3
    refine ⟨_, rs ++ [p], rfl, ?_, ?_, Same.mut nb0 (sm.trans sm3)⟩
    · rw [upd_same, List.map_append]; rfl
    · refine paired_app (Paired.imp2 (fun r ks ⟨a, b, us, c, d⟩ => ⟨a, b, us, by rw [upd_ne a]; exact sm3 _ _ c, (d.keep (TK.same sm3)).keep tkb⟩) hrs) (.cons ⟨npb, same_free sm np3, vs, by rw [upd_ne npb]; exact hp3, hk3.keep tkb⟩ .nil)
  · rintro σ H2 ⟨v4, rs, rfl, hbp, hrs, sm⟩
    obtain ⟨r, er, nr, nr0, us, hr, hkr⟩ := Pg.paired_get2 hrs (getD_at (d := []) (k := m) (by rw [bl_len]; omega))
    exact ⟨_, rfl, _, rfl, bp, _, _, .ref r, rfl, rfl, SqL.mk hbp, atI_nat (by rw [List.getElem?_map, er]; rfl), q r us H2 nr0 sm hr hkr⟩
end
end K02

set_option Elab.async false
set_option linter.all false
set_option maxRecDepth 100000
set_option maxHeartbeats 4000000
namespace K02
open PySem PySem.Spec PyProof.Rows L2 Pg
section
variable {P : Program} {w : World} {K : PySem.W.Frag} {mg : Str → Option Value} {base : Heap} {f : Addr} {fd : FuncData} {N T M Pe : Addr}
abbrev s_same : Stmt := top 16
abbrev N_same : List Str := ["told", "due"]
abbrev P_same : List Str := ["told", "due"]
theorem sc_same : FnScope N_same P_same (defScope s_same) := ⟨rfl, rfl, rfl, by decide +kernel, rfl, by decide +kernel, by decide +kernel⟩

theorem ok_same (F : FnP K "_law_same" s_same f fd) (Z : Zs mg) : FnG P w K mg base 1 f fd ["told", "due"] spSame1 := by
  refine mk_fng F sc_same (fun vs H Q E h => ?_) (fun cdv A outer s H vs Q hG hr h => ?_)
  · obtain ⟨n, rfl, _⟩ := h
    rfl
  obtain ⟨n, rfl, hn, k⟩ := h
  refine ⟨_, (pss_one (ps_ret (pe_cmpR op_eq (pe_callB (cr_repr (n := 70) (hu_n1 hr) hG) (by rfl) Z.repr (by decide +kernel) (pa_cons (pe_lst (pa_cons (pv 0) pa_nil)) pa_nil)) (pe_callB (cr_repr (n := 70) (hu_n1 hr) hG) (by rfl) Z.repr (by decide +kernel) (pa_cons (pe_lst (pa_cons (pv 1) pa_nil)) pa_nil)) (nomark _)))), ?_⟩
  obtain ⟨z1, z2, z3, z4⟩ := int_show hn
  dsimp only [tRet, tOp, tCB, tCons]
  refine ⟨_, rfl, (by show 1 ≤ sizeLine; decide), fun l1 n1 => ?_⟩
  refine ⟨l1, _, rfl, Dp.lst (SqL.mk upd_same) (.cons (.int _) .nil), z1, z2, z3, z4, ?_⟩
  refine ⟨_, rfl, (by show 1 ≤ sizeLine; decide), fun l2 n2 => ?_⟩
  refine ⟨l2, _, rfl, Dp.lst (SqL.mk upd_same) (.cons (.int _) .nil), z1, z2, z3, z4, ?_⟩
  have e := k _ ((Same.new (o := .lst [.int n]) n1).trans (Same.new (o := .lst [.int n]) n2))
  refine ⟨rfl, ?_⟩
  rw [decide_eq_true rfl]
  exact e
abbrev s_ref : Stmt := top 25
abbrev N_ref : List Str := ["kind", "signs", "size", "e"]
abbrev P_ref : List Str := ["kind", "signs", "size"]
theorem sc_ref : FnScope N_ref P_ref (defScope s_ref) := ⟨rfl, rfl, rfl, by decide +kernel, rfl, by decide +kernel, by decide +kernel⟩

theorem ok_ref (F : FnP K "_law_refused" s_ref f fd) (hm : mg "_law_refused" = some (.ref f)) (Z : Zs mg) (G : Ex2 K mg N T M Pe) (x_cnt : CalX P w K mg base 3 "count_trees" (spCnt K N)) (x_trs : CalX P w K mg base 3 "trees_of" (spTrs K N T)) : Cal P w K mg base 4 "_law_refused" (spRef K) [] := by
  refine mk_cal F hm sc_ref (fun _ _ _ _ _ _ us hl => match us, hl with | [_, _, _], _ => rfl) (fun vs H Q E h => ?_) (fun cdv A outer s H vs Q E hr h => ?_)
  · obtain ⟨kd, n, g, sg, rfl, _⟩ := h
    rfl
  obtain ⟨kd, n, g, sg, rfl, hsg, gs, hn, q⟩ := h
  refine ⟨_, (pss_cons (ps_try_as (i := 3) rfl rfl sc_ref.nd rfl rfl ⟨by rfl, by decide, .inl G.gN⟩ takes0 (fun W pn xe tk _ => (pss_one (ps_if (pt_cmpR op_eq (pv 0) pe_int (nomark _)) (pss_one (ps_expr (pe_cx x_cnt hr (by first | decide | omega) rfl tk (pa_cons (pv 1) (pa_cons (pv 2) pa_nil))))) (pss_one (ps_expr (pe_cx x_trs hr (by first | decide | omega) rfl tk (pa_cons (pv 1) (pa_cons (pv 2) pa_nil)))))))) (fun a oe cls d pn hz hf => (pss_one (ps_ret (pe_and (pe_callB (call_isE2 G.cN hz hf) (by rfl) Z.isinstance (by decide +kernel) (pa_cons (pv 3) (pa_cons (C8.pe_gc (v := .ref Pe) (by rfl) ⟨_, G.gP, rfl⟩) pa_nil))) (pe_one (pe_not (pe_callB (call_isET G.cN hz hf) (by rfl) Z.isinstance (by decide +kernel) (pa_cons (pv 3) (pa_cons (pe_tup (pa_cons (C8.pe_gc (v := .ref T) (by rfl) ⟨_, G.gT, rfl⟩) (pa_cons (C8.pe_gc (v := .ref M) (by rfl) ⟨_, G.gM, rfl⟩) pa_nil))) pa_nil))))))))))
      (pss_one (ps_ret pe_bl))), ?_⟩
  refine ⟨_, rfl, rfl, _, rfl, ite2 (fun _ => ?_) (fun _ => ?_)⟩
  · refine ⟨_, rfl, _, rfl, g, sg, n, rfl, hsg, gs, fun hh => absurd hh hn, fun _ => ⟨true, G.eN, fun _ a ha => ?_, fun z => nomatch z⟩⟩
    refine ⟨_, rfl, rfl, rfl, .ref Pe, .ref Pe, true, rfl, (fun u r => r), G.iN, true, rfl, ite2 (fun _ => ?_) (fun z => absurd rfl z)⟩
    exact ⟨_, rfl, (by show 2 ≤ sizeLine; decide), fun p np => ⟨rfl, rfl, p, [T, M], false, rfl, upd_same, G.aN, _, rfl, q _ (Same.new np)⟩⟩
  · refine ⟨_, rfl, _, rfl, g, sg, n, rfl, hsg, gs, fun hh _ => absurd hh hn, fun hh _ => absurd hh hn, fun _ => ⟨true, G.eN, fun _ a ha => ?_, fun z => nomatch z⟩⟩
    refine ⟨_, rfl, rfl, rfl, .ref Pe, .ref Pe, true, rfl, (fun u r => r), G.iN, true, rfl, ite2 (fun _ => ?_) (fun z => absurd rfl z)⟩
    exact ⟨_, rfl, (by show 2 ≤ sizeLine; decide), fun p np => ⟨rfl, rfl, p, [T, M], false, rfl, upd_same, G.aN, _, rfl, q _ (Same.new np)⟩⟩
abbrev s_lrg : Stmt := top 26
abbrev N_lrg : List Str := ["signs", "size", "e"]
abbrev P_lrg : List Str := ["signs", "size"]
theorem sc_lrg : FnScope N_lrg P_lrg (defScope s_lrg) := ⟨rfl, rfl, rfl, by decide +kernel, rfl, by decide +kernel, by decide +kernel⟩

theorem ok_lrg (F : FnP K "_law_large" s_lrg f fd) (hm : mg "_law_large" = some (.ref f)) (Z : Zs mg) (G : Ex2 K mg N T M Pe) (x_trs : CalX P w K mg base 3 "trees_of" (spTrs K N T)) : Cal P w K mg base 4 "_law_large" (spLrg K) [] := by
  refine mk_cal F hm sc_lrg (fun _ _ _ _ _ _ us hl => match us, hl with | [_, _], _ => rfl) (fun vs H Q E h => ?_) (fun cdv A outer s H vs Q E hr h => ?_)
  · obtain ⟨n, g, sg, rfl, _⟩ := h
    rfl
  obtain ⟨n, g, sg, rfl, hsg, gs, hn, hgt, q⟩ := h
  refine ⟨_, (pss_cons (ps_try_as (i := 2) rfl rfl sc_lrg.nd rfl rfl ⟨by rfl, by decide, .inl G.gT⟩ takes0 (fun W pn xe tk _ => (pss_one (ps_expr (pe_cx x_trs hr (by first | decide | omega) rfl tk (pa_cons (pv 0) (pa_cons (pv 1) pa_nil)))))) (fun a oe cls d pn hz hf => (pss_one (ps_ret (pe_and (pe_callB (call_isE2 G.cT hz hf) (by rfl) Z.isinstance (by decide +kernel) (pa_cons (pv 2) (pa_cons (C8.pe_gc (v := .ref Pe) (by rfl) ⟨_, G.gP, rfl⟩) pa_nil))) (pe_one (pe_not (pe_callB (call_isET G.cT hz hf) (by rfl) Z.isinstance (by decide +kernel) (pa_cons (pv 2) (pa_cons (pe_tup (pa_cons (C8.pe_gc (v := .ref N) (by rfl) ⟨_, G.gN, rfl⟩) (pa_cons (C8.pe_gc (v := .ref M) (by rfl) ⟨_, G.gM, rfl⟩) pa_nil))) pa_nil))))))))))
      (pss_one (ps_ret pe_bl))), ?_⟩
  refine ⟨_, rfl, _, rfl, g, sg, n, rfl, hsg, gs, fun _ hle => absurd hgt (by omega), fun _ _ H' sm => ⟨true, G.eT, fun _ a ha => ?_, fun z => nomatch z⟩, fun hh => absurd hn hh⟩
  refine ⟨_, rfl, rfl, rfl, .ref Pe, .ref Pe, true, rfl, (fun u r => r), G.iT, true, rfl, ite2 (fun _ => ?_) (fun z => absurd rfl z)⟩
  exact ⟨_, rfl, (by show 2 ≤ sizeLine; decide), fun p np => ⟨rfl, rfl, p, [N, M], false, rfl, upd_same, G.aT, _, rfl, q _ (sm.trans (Same.new np))⟩⟩
end
end K02

set_option Elab.async false
set_option linter.all false
set_option maxRecDepth 100000
set_option maxHeartbeats 4000000
namespace K02
open PySem PySem.Spec PyProof.Rows L2 Pg
section
variable {P : Program} {w : World} {K : PySem.W.Frag} {mg : Str → Option Value} {base : Heap} {f : Addr} {fd : FuncData} {N T M Pe : Addr}
abbrev s_lcs : Stmt := top 21
abbrev N_lcs : List Str := ["signs", "counts", "size", "many", "sign", "arity", "k"]
abbrev P_lcs : List Str := ["signs"]
theorem sc_lcs : FnScope N_lcs P_lcs (defScope s_lcs) := ⟨rfl, rfl, rfl, by decide +kernel, rfl, by decide +kernel, by decide +kernel⟩

theorem ok_lcs (F : FnP K "_law_counts" s_lcs f fd) (hm : mg "_law_counts" = some (.ref f)) (Z : Zs mg) : Cal P w K mg base 1 "_law_counts" (spLcs K) [] := by
  refine mk_cal F hm sc_lcs (fun _ _ _ _ _ _ us hl => match us, hl with | [_], _ => rfl) (fun vs H Q E h => ?_) (fun cdv A outer s H vs Q E hr h => ?_)
  · obtain ⟨g, sg, rfl, _⟩ := h
    rfl
  obtain ⟨g, sg, rfl, hsg, gs, q⟩ := h
  refine ⟨_, (pss_cons (ps_set (i := 1) sc_lcs.nd rfl (by first | exact Or.inl rfl | exact Or.inr rfl) (pe_lst (pa_cons pe_int (pa_cons (pe_callB call_len_seq (by rfl) Z.len (by decide +kernel) (pa_cons (pe_lc (own := [("sign", 4), ("arity", 5)]) (g := (gTup K 2 (gCons (gName 4) (gCons (gName 5) gNil)))) (tt := (tTest (tOp _ (tVar 5) _))) (te := (tVar 4)) rfl sc_lcs.nd (pi_tup (pv 0)) (blkOk_by (N := N_lcs) (sc := defScope s_lcs) (by decide +kernel)) (fun _ _ _ _ _ => by exact (pg_tup rfl (pgs_cons (pg_name (i := 4) sc_lcs.nd rfl (Or.inl rfl)) (pgs_cons (pg_name (i := 5) sc_lcs.nd rfl (Or.inl rfl)) pgs_nil)))) (fun _ _ _ _ _ => by exact (pts_one (pt_cmpR op_eq (pv 5) pe_int (nomark _)))) (fun _ _ _ _ _ => by exact (pv 4))) pa_nil)) pa_nil))))
      (pss_cons (ps_for PassesOwn.never rfl (pi_range2 (by rfl) Z.range (pa_cons pe_int (pa_cons pe_int pa_nil))) (pg_name (i := 2) sc_lcs.nd rfl (by first | exact Or.inl rfl | exact Or.inr rfl)) (pss_cons (ps_set (i := 3) sc_lcs.nd rfl (by first | exact Or.inl rfl | exact Or.inr rfl) pe_int)
      (pss_cons (ps_for PassesOwn.never rfl (pi_tup (pv 0)) (pg_tup rfl (pgs_cons (pg_name (i := 4) sc_lcs.nd rfl (by first | exact Or.inl rfl | exact Or.inr rfl)) (pgs_cons (pg_name (i := 5) sc_lcs.nd rfl (by first | exact Or.inl rfl | exact Or.inr rfl)) pgs_nil))) (pss_cons (ps_if (pt_cmpR op_eq (pv 5) pe_int (nomark _)) (pss_one (ps_set (i := 3) sc_lcs.nd rfl (by first | exact Or.inl rfl | exact Or.inr rfl) (pe_op op_add (pv 3) (pe_ix ix_list (pv 1) (pe_op op_sub (pv 2) pe_int) (fun _ _ => rfl))))) pss_nil)
      (pss_one (ps_if (pt_cmpR op_eq (pv 5) pe_int (nomark _)) (pss_one (ps_set (i := 3) sc_lcs.nd rfl (by first | exact Or.inl rfl | exact Or.inr rfl) (pe_op op_add (pv 3) (pe_callB (cr_sum rfl) (by rfl) Z.sum (by decide +kernel) (pa_cons (pe_lc (own := [("k", 6)]) (g := (gName 6)) (tt := tYes) (te := (tOp _ (tOp (rIxL K) (tVar 1) (tVar 6)) (tOp (rIxL K) (tVar 1) (tOp _ (tOp _ (tVar 2) _) (tVar 6))))) rfl sc_lcs.nd (pi_range1 (by rfl) Z.range (pa_cons (pv 2) pa_nil)) (blkOk_by (N := N_lcs) (sc := defScope s_lcs) (by decide +kernel)) (fun _ _ _ _ _ => by exact (pg_name (i := 6) sc_lcs.nd rfl (Or.inl rfl))) (fun _ _ _ _ _ => by exact pts_nil) (fun _ _ _ _ _ => by exact (pe_op op_mulW (pe_ix ix_list (pv 1) (pv 6) (fun _ _ => rfl)) (pe_ix ix_list (pv 1) (pe_op op_sub (pe_op op_sub (pv 2) pe_int) (pv 6)) (fun _ _ => rfl))))) pa_nil))))) pss_nil))))
      (pss_one (ps_expr (pe_bm PySem.F.plainAttrs_list PySem.F.slot_list_append PySem.F.type_list_append mt_append (pv 1) (pa_cons (pv 3) pa_nil)))))))
      (pss_one (ps_ret (pv 1))))), ?_⟩
  have g4 := gs.len
  dsimp only [tSeq, tAsg, tLst, tCons, tC, tCB]
  refine rd_prsIf (i := 0) (fun s => V.str s.1) (fun s => decide (V.int s.2 = V.int 0)) rfl hsg (by omega) (fun _ _ => rfl) (fun s H' hs sm Q' q' => ⟨_, rfl, rfl, _, rfl, q'⟩) (fun s H' hs sm Q' q' => ⟨_, rfl, q' H' (Same.refl H')⟩) (fun D H1 nD sm hD => ?_)
  refine ⟨D, _, rfl, .inl (SqL.mk hD), (by show 2 ≤ sizeLine; decide), fun cl0 ncl => ?_⟩
  have nc0 := same_free sm ncl
  refine ⟨2, 61, rfl, ⟨by decide, by decide, by decide, by decide⟩, ?_⟩
  refine for_range (lo := 2) (n := 59) (fun i σ H' => ∃ v2 v3 v4 v5 v6 : Option V, σ = [some (.ref g), some (.ref cl0), v2, v3, v4, v5, v6] ∧ H' cl0 = some (.lst (cv (cl sg (i + 1)))) ∧ Same H H')
    ⟨none, none, none, none, none, rfl, by rw [upd_same, cl_one, List.length_map]; rfl, sm.trans (Same.new ncl)⟩ ?_ ?_
  · rintro i σ H2 hi ⟨v2, v3, v4, v5, v6, rfl, hc, sm2⟩
    obtain ⟨rs, hS, pr⟩ := (hsg.keep (TK.same sm2)).ex
    have h0C : (cl sg (i + 1)).getD 0 0 = 0 := cl_get sg (Nat.zero_le _)
    refine ⟨_, rfl, g, rfl, ⟨_, hS⟩, ?_⟩
    refine for_tup (K := K) (a := g) (xs := rs.map V.ref) (fun j σ H' => ∃ v4 v5 v6 : Option V, σ = [some (.ref g), some (.ref cl0), some (.int ((2 : Int) + (i : Int))), some (.int ((((sg.take j).map fun s => co1 (cl sg (i + 1)) s.2 (i + 2)).sum : Nat) : Int)), v4, v5, v6] ∧ H' cl0 = some (.lst (cv (cl sg (i + 1)))) ∧ Same H2 H')
      ⟨v4, v5, v6, rfl, hc, Same.refl H2⟩ (fun j σ H' _ ⟨_, _, _, _, _, sm⟩ => TK.same sm _ _ hS) ?_ ?_
    · rintro j x σ H3 hx ⟨v4, v5, v6, rfl, hc3, sm3⟩
      rw [List.getElem?_map] at hx
      obtain ⟨rr, er, rfl⟩ : ∃ rr, rs[j]? = some rr ∧ V.ref rr = x := by
        cases e : rs[j]? with
        | none => rw [e] at hx; cases hx
        | some z => rw [e] at hx; exact ⟨z, rfl, Option.some.inj hx⟩
      obtain ⟨s0, es, hrr⟩ := Pg.paired_get pr er
      have hmem := List.mem_of_getElem? es
      have har := gs.ar _ hmem
      have e1 : ((sg.take (j + 1)).map fun s => co1 (cl sg (i + 1)) s.2 (i + 2)).sum = ((sg.take j).map fun s => co1 (cl sg (i + 1)) s.2 (i + 2)).sum + co1 (cl sg (i + 1)) s0.2 (i + 2) := by
        rw [take_snoc es, List.map_append, List.sum_append]
        simp only [List.map_cons, List.map_nil, List.sum_cons, List.sum_nil]
        omega
      refine ⟨rr, _, rfl, TK.same sm3 _ _ hrr, rfl, _, _, rfl, _, _, rfl, rfl, ?_⟩
      rcases (by omega : s0.2 = 0 ∨ s0.2 = 1 ∨ s0.2 = 2) with ea | ea | ea
      · have no : ∀ k : Int, k ≠ 0 → ¬ decide (V.int s0.2 = V.int k) = true := fun k hk z => hk (by rw [← V.int.inj (of_decide_eq_true z), ea])
        have ec : co1 (cl sg (i + 1)) s0.2 (i + 2) = 0 := by unfold co1; rw [if_pos ea, if_neg (by omega)]
        refine ⟨_, rfl, rfl, _, rfl, ite2 (fun z => absurd z (no 1 (by decide))) (fun _ => ?_)⟩
        refine ⟨_, rfl, rfl, _, rfl, ite2 (fun z => absurd z (no 2 (by decide))) (fun _ => ?_)⟩
        exact ⟨_, _, _, by rw [e1, ec, Nat.add_zero]; rfl, hc3, sm3⟩
      · have no : ∀ k : Int, k ≠ 1 → ¬ decide (V.int s0.2 = V.int k) = true := fun k hk z => hk (by rw [← V.int.inj (of_decide_eq_true z), ea])
        have ec : co1 (cl sg (i + 1)) s0.2 (i + 2) = (cl sg (i + 1)).getD (i + 1) 0 := by unfold co1; rw [if_neg (by rw [ea]; decide), if_pos ea]; rfl
        refine ⟨_, rfl, rfl, _, rfl, ite2 (fun _ => ?_) (fun z => absurd (decide_eq_true (by rw [ea])) z)⟩
        refine ⟨_, rfl, _, rfl, _, rfl, _, _, rfl, rfl, cl0, _, _, _, rfl, rfl, SqL.mk hc3, at_cv (k := i + 1) (by omega) (by rw [cl_len]; omega), _, _, rfl, rfl, ?_⟩
        refine ⟨_, rfl, rfl, _, rfl, ite2 (fun z => absurd z (no 2 (by decide))) (fun _ => ?_)⟩
        exact ⟨_, _, _, by rw [e1, ec, Int.natCast_add]; rfl, hc3, sm3⟩
      · have no : ∀ k : Int, k ≠ 2 → ¬ decide (V.int s0.2 = V.int k) = true := fun k hk z => hk (by rw [← V.int.inj (of_decide_eq_true z), ea])
        have ec : co1 (cl sg (i + 1)) s0.2 (i + 2) = ((List.range (i + 2)).map fun k => (cl sg (i + 1)).getD k 0 * (cl sg (i + 1)).getD (i + 2 - 1 - k) 0).sum := by
          rw [conv h0C (by omega)]
          unfold co1; rw [if_neg (by rw [ea]; decide), if_neg (by rw [ea]; decide)]
        refine ⟨_, rfl, rfl, _, rfl, ite2 (fun z => absurd z (no 1 (by decide))) (fun _ => ?_)⟩
        refine ⟨_, rfl, rfl, _, rfl, ite2 (fun _ => ?_) (fun z => absurd (decide_eq_true (by rw [ea])) z)⟩
        refine ⟨_, rfl, ?_⟩
        dsimp only [tCB, tCons]
        refine rd_rng (lo := 0) (n := i + 2) (fun k => V.int (((cl sg (i + 1)).getD k 0 * (cl sg (i + 1)).getD (i + 2 - 1 - k) 0 : Nat) : Int)) (fun R h => ?_) (by omega) (fun _ => rfl) (fun k H' hk sm' Q' q' => ?_) (fun D H' nD sm' hD => ?_)
        · refine ⟨_, rfl, (2 : Int) + (i : Int), rfl, by omega, by omega, ?_⟩
          rw [show ((2 : Int) + (i : Int)).toNat = i + 2 by omega]
          exact h
        · have hc' := sm' _ _ hc3
          refine ⟨_, rfl, _, rfl, cl0, _, _, _, rfl, rfl, SqL.mk hc', at_cv (k := k) (by omega) (by rw [cl_len]; omega), ?_⟩
          refine ⟨_, rfl, _, rfl, _, _, rfl, rfl, _, rfl, _, _, rfl, rfl, cl0, _, _, _, rfl, rfl, SqL.mk hc', at_cv (k := i + 2 - 1 - k) (by omega) (by rw [cl_len]; omega), ?_⟩
          refine ⟨_, _, rfl, rfl, mulW (cl_small gs (by omega) _) (cl_small gs (by omega) _), ?_⟩
          have := q' H' (Same.refl H')
          rw [Int.natCast_mul] at this
          exact this
        · refine ⟨D, (List.range (i + 2)).map fun k => (((cl sg (i + 1)).getD k 0 * (cl sg (i + 1)).getD (i + 2 - 1 - k) 0 : Nat) : Int), rfl, SqL.mk (by rw [hD, List.map_map]; rfl), _, _, rfl, rfl, ?_⟩
          refine ⟨some (.str s0.1), some (.int s0.2), v6, ?_, sm' _ _ hc3, sm3.trans sm'⟩
          have es2 : ((List.range (i + 2)).map fun k => (((cl sg (i + 1)).getD k 0 * (cl sg (i + 1)).getD (i + 2 - 1 - k) 0 : Nat) : Int)).sum = ((((List.range (i + 2)).map fun k => (cl sg (i + 1)).getD k 0 * (cl sg (i + 1)).getD (i + 2 - 1 - k) 0).sum : Nat) : Int) := by
            rw [← sum_int, List.map_map]
            rfl
          rw [e1, ec, Int.natCast_add, ← es2]
          rfl
    · rintro σ H3 ⟨v4, v5, v6, rfl, hc3, sm3⟩
      rw [List.length_map, paired_len pr, List.take_length]
      refine ⟨_, rfl, .inl ⟨rfl, _, SqL.mk hc3⟩, _, rfl, cl0, _, _, rfl, rfl, hc3, ?_, ?_⟩
      · show (List.map _ _).length < sizeLine
        rw [List.length_map, cl_len]
        exact smallN (by omega)
      · refine ⟨_, _, _, _, _, rfl, ?_, Same.mut nc0 (sm2.trans sm3)⟩
        rw [upd_same]
        show _ = some (HO.lst ((cl sg (i + 1) ++ [co sg (cl sg (i + 1)) (i + 2)]).map _))
        rw [List.map_append]
        rfl
  · rintro σ H2 ⟨v2, v3, v4, v5, v6, rfl, hc, sm2⟩
    exact ⟨_, rfl, q cl0 H2 nc0 sm2 hc⟩
abbrev s_ist : Stmt := top 22
abbrev N_ist : List Str := ["signs", "tree", "fit", "sign", "arity", "part"]
abbrev P_ist : List Str := ["signs", "tree"]
theorem sc_ist : FnScope N_ist P_ist (defScope s_ist) := ⟨rfl, rfl, rfl, by decide +kernel, rfl, by decide +kernel, by decide +kernel⟩

theorem turn_ist {d : Nat} (F : FnP K "_law_is_tree" s_ist f fd) (hm : mg "_law_is_tree" = some (.ref f)) (Z : Zs mg) (c_ist : Cal P w K mg base (d + 1) "_law_is_tree" (spIst K d) []) : Cal P w K mg base (d + 2) "_law_is_tree" (spIst K (d + 1)) [] := by
  refine mk_cal F hm sc_ist (fun _ _ _ _ _ _ us hl => match us, hl with | [_, _], _ => rfl) (fun vs H Q E h => ?_) (fun cdv A outer s H vs Q E hr h => ?_)
  · obtain ⟨g, sg, v, t, rfl, _⟩ := h
    rfl
  obtain ⟨g, sg, v, t, rfl, hsg, gs, ht, hw, hd, q⟩ := h
  refine ⟨_, (pss_cons (ps_if (PW.pt (pw_or (pt_not (pt_val (pe_callB call_isi (by rfl) Z.isinstance (by decide +kernel) (pa_cons (pv 1) (pa_cons (pe_bltn (v := .ty "tuple") rfl Z.tuple (by decide +kernel) rfl) pa_nil))))) (pw_or1 (pt_cmpR op_eq (pe_callB call_len_seq (by rfl) Z.len (by decide +kernel) (pa_cons (pv 1) pa_nil)) pe_int (nomark _))))) (pss_one (ps_ret pe_bl)) pss_nil)
      (pss_cons (ps_setLc (i := 2) (own := [("sign", 3), ("arity", 4)]) (g := (gTup K 2 (gCons (gName 3) (gCons (gName 4) gNil)))) (tt := (tTest (tOp _ (tVar 3) (tOp (rIxT K) (tVar 1) _)))) (te := (tVar 4)) rfl sc_ist.nd rfl rfl (sw_true rfl rfl rfl (by decide +kernel)) (pi_tup (pv 0)) (blkOk_by (N := N_ist) (sc := defScope s_ist) (by decide +kernel)) (fun _ _ _ _ _ => by exact (pg_tup rfl (pgs_cons (pg_name (i := 3) sc_ist.nd rfl (Or.inl rfl)) (pgs_cons (pg_name (i := 4) sc_ist.nd rfl (Or.inl rfl)) pgs_nil)))) (fun _ _ _ _ _ => by exact (pts_one (pt_cmpR op_eq (pv 3) (pe_ix ix_tup (pv 1) pe_int (fun _ _ => rfl)) (nomark _)))) (fun _ _ _ _ _ => by exact (pv 4)))
      (pss_one (ps_ret (pe_and (pe_cmpR op_eq (pe_callB call_len_seq (by rfl) Z.len (by decide +kernel) (pa_cons (pv 2) pa_nil)) pe_int (nomark _)) (pe_and (pe_cmpR op_eq (pe_ix ix_list (pv 2) pe_int (fun _ _ => rfl)) (pe_op op_sub (pe_callB call_len_seq (by rfl) Z.len (by decide +kernel) (pa_cons (pv 1) pa_nil)) pe_int) (nomark _)) (pe_one (pe_callB (cr_all rfl) (by rfl) Z.all (by decide +kernel) (pa_cons (pe_lc (own := [("part", 5)]) (g := (gName 5)) (tt := tYes) (te := (tCall _ [] _ (tCons (tVar 0) (tCons (tVar 5) tNil)))) rfl sc_ist.nd (pi_tup (pe_slice sl_tupA (pv 1) (po_some pe_int) po_none)) (blkOk_by (N := N_ist) (sc := defScope s_ist) (by decide +kernel)) (fun _ _ _ _ _ => by exact (pg_name (i := 5) sc_ist.nd rfl (Or.inl rfl))) (fun _ _ _ _ _ => by exact pts_nil) (fun _ _ _ _ _ => by exact (C8.pe_c c_ist hr (by first | decide | omega) rfl (pa_cons (pv 0) (pa_cons (pv 5) pa_nil))))) pa_nil))))))))), ?_⟩
  have hp := hw.pl
  obtain ⟨p, us, rfl, hS, hk⟩ := ht.open_ hp
  have hul := paired_len hk
  refine TV.ifs (b := !true || decide (V.int ((V.str t.sym :: us).length : Nat) = V.int 0)) (TV.or (TV.not (fun Q q => ⟨_, rfl, _, _, .type "tuple", .type "tuple", true, rfl, .ty "tuple", tyX_tup hS, kit_ty (by decide +kernel), _, rfl, q⟩)) (fun Q q => ⟨_, rfl, p, _, rfl, .inr hS, rfl, _, rfl, q⟩)) (fun e => ?_) (fun _ => ?_)
  · have e2 : decide (V.int ((V.str t.sym :: us).length : Nat) = V.int 0) = true := e
    have e3 := V.int.inj (of_decide_eq_true e2)
    rw [List.length_cons] at e3
    omega
  dsimp only [tNext, tSeq, tAsg]
  refine rd_prsIf (i := 0) (fun s => V.int s.2) (fun s => decide (V.str s.1 = V.str t.sym)) rfl hsg (by have := gs.len; omega) (fun _ _ => rfl) (fun s H' hs sm Q' q' => ⟨_, rfl, _, rfl, p, _, 0, _, rfl, rfl, TK.same sm _ _ hS, at0 _ _, rfl, _, rfl, q'⟩) (fun s H' hs sm Q' q' => ⟨_, rfl, q' H' (Same.refl H')⟩) (fun D H1 nD sm hD => ?_)
  rw [filter_one gs.nd hw.sym] at hD
  have hS1 := TK.same sm _ _ hS
  refine ⟨_, rfl, D, _, rfl, .inl (SqL.mk hD), rfl, _, rfl, ite2 (fun _ => ?_) (fun z => absurd rfl z)⟩
  refine ⟨_, rfl, D, _, 0, _, rfl, rfl, SqL.mk hD, at0 _ _, _, rfl, p, _, rfl, .inr hS1, _, _, rfl, rfl, rfl, _, rfl, ite2 (fun _ => ?_) (fun z => absurd (decide_eq_true ?_) z)⟩
  · dsimp only [tCB, tCons]
    refine rd_kids (it_tail (i := 1) rfl hS1) (fun _ v k => v = .bl true) (fun _ _ _ _ _ h => h) (hk.keep (TK.same sm)) (Nat.le_trans t.kids_le (by decide)) (fun _ => rfl) (fun u k H' hkm sm' hu Q' q' => ?_) (fun D2 H' ws nD2 sm' hD2 hr => ?_)
    · exact ⟨_, rfl, _, rfl, g, sg, u, k, rfl, hsg.keep (TK.same (sm.trans sm')), gs, hu, hw.kid hkm, by have := Tr.dep_kid hkm; omega, fun H2 s2 => q' _ H2 s2 rfl⟩
    · have hws : ws = (t.kids.map fun _ => true).map V.bl := by rw [List.map_map]; exact paired_eq (g := fun _ => V.bl true) hr
      refine ⟨D2, t.kids.map fun _ => true, rfl, SqL.mk (by rw [hD2, hws]), ?_⟩
      rw [show ((t.kids.map fun _ => true).all id) = true by rw [List.all_map]; exact List.all_eq_true.mpr fun _ _ => rfl]
      exact q H' (sm.trans sm')
  · show V.int (t.kids.length : Int) = V.int ((((V.str t.sym :: us).length : Nat) : Int) - 1)
    rw [List.length_cons, hul]
    congr 1
    omega
theorem ok_ist (F : FnP K "_law_is_tree" s_ist f fd) (hm : mg "_law_is_tree" = some (.ref f)) (Z : Zs mg) : ∀ d : Nat, Cal P w K mg base (d + 1) "_law_is_tree" (spIst K d) []
  | 0 => mk_none (ps := P_ist) F hm (fun _ _ _ _ _ _ us hl => match us, hl with | [_, _], _ => rfl) (fun vs H Q E h => by
    obtain ⟨g, sg, v, t, _, _, _, _, _, hd, _⟩ := h
    have := t.dep_pos
    omega)
  | d + 1 => turn_ist F hm Z (ok_ist F hm Z d)
abbrev s_key : Stmt := top 23
abbrev N_key : List Str := ["signs", "tree", "words", "parts", "sign", "arity", "part"]
abbrev P_key : List Str := ["signs", "tree"]
theorem sc_key : FnScope N_key P_key (defScope s_key) := ⟨rfl, rfl, rfl, by decide +kernel, rfl, by decide +kernel, by decide +kernel⟩

theorem turn_key {d : Nat} (F : FnP K "_law_key" s_key f fd) (hm : mg "_law_key" = some (.ref f)) (Z : Zs mg) (c_key : Cal P w K mg base (d + 1) "_law_key" (spKey K d) []) : Cal P w K mg base (d + 2) "_law_key" (spKey K (d + 1)) [] := by
  refine mk_cal F hm sc_key (fun _ _ _ _ _ _ us hl => match us, hl with | [_, _], _ => rfl) (fun vs H Q E h => ?_) (fun cdv A outer s H vs Q E hr h => ?_)
  · obtain ⟨g, sg, v, t, rfl, _⟩ := h
    rfl
  obtain ⟨g, sg, v, t, rfl, hsg, gs, ht, hw, hd, q⟩ := h
  refine ⟨_, (pss_cons (ps_setLc (i := 2) (own := [("sign", 4), ("arity", 5)]) (g := (gTup K 2 (gCons (gName 4) (gCons (gName 5) gNil)))) (tt := tYes) (te := (tVar 4)) rfl sc_key.nd rfl rfl (sw_true rfl rfl rfl (by decide +kernel)) (pi_tup (pv 0)) (blkOk_by (N := N_key) (sc := defScope s_key) (by decide +kernel)) (fun _ _ _ _ _ => by exact (pg_tup rfl (pgs_cons (pg_name (i := 4) sc_key.nd rfl (Or.inl rfl)) (pgs_cons (pg_name (i := 5) sc_key.nd rfl (Or.inl rfl)) pgs_nil)))) (fun _ _ _ _ _ => by exact pts_nil) (fun _ _ _ _ _ => by exact (pv 4)))
      (pss_cons (ps_setLc (i := 3) (own := [("part", 6)]) (g := (gName 6)) (tt := tYes) (te := (tCall _ [] _ (tCons (tVar 0) (tCons (tVar 6) tNil)))) rfl sc_key.nd rfl rfl (sw_true rfl rfl rfl (by decide +kernel)) (pi_tup (pe_slice sl_tupA (pv 1) (po_some pe_int) po_none)) (blkOk_by (N := N_key) (sc := defScope s_key) (by decide +kernel)) (fun _ _ _ _ _ => by exact (pg_name (i := 6) sc_key.nd rfl (Or.inl rfl))) (fun _ _ _ _ _ => by exact pts_nil) (fun _ _ _ _ _ => by exact (C8.pe_c c_key hr (by first | decide | omega) rfl (pa_cons (pv 0) (pa_cons (pv 6) pa_nil)))))
      (pss_one (ps_ret (pe_callTy call_tuple_of (by rfl) Z.tuple (by decide +kernel) (pa_cons (pe_op op_cat (pe_lst (pa_cons (pe_op op_add pe_int (pe_callB (cr_sum rfl) (by rfl) Z.sum (by decide +kernel) (pa_cons (pe_lc (own := [("part", 6)]) (g := (gName 6)) (tt := tYes) (te := (tOp (rIxT K) (tVar 6) _)) rfl sc_key.nd (pi_list (pv 3)) (blkOk_by (N := N_key) (sc := defScope s_key) (by decide +kernel)) (fun _ _ _ _ _ => by exact (pg_name (i := 6) sc_key.nd rfl (Or.inl rfl))) (fun _ _ _ _ _ => by exact pts_nil) (fun _ _ _ _ _ => by exact (pe_ix ix_tup (pv 6) pe_int (fun _ _ => rfl)))) pa_nil))) (pa_cons (pe_bm PySem.F.plainAttrs_list PySem.F.slot_list_index PySem.F.type_list_index mt_index (pv 2) (pa_cons (pe_ix ix_tup (pv 1) pe_int (fun _ _ => rfl)) pa_nil)) pa_nil))) (pv 3)) pa_nil)))))), ?_⟩
  have hp := hw.pl
  have hsym : t.sym ∈ sg.map (·.1) := List.mem_map.mpr ⟨_, hw.sym, rfl⟩
  obtain ⟨rs, hS, pr⟩ := hsg.ex
  dsimp only [tSeq, tAsg]
  refine rd_fstT (i := 0) rfl hS pr (by have := gs.len; omega) (fun _ _ => rfl) (fun _ _ => rfl) (fun D H1 nD sm hD => ?_)
  obtain ⟨p, us, rfl, hT, hk⟩ := (TrAt.keep (TK.same (K := K) sm) ht).open_ hp
  obtain ⟨pl, pa, pb⟩ := place_at hsym
  dsimp only [gName, tSeq, tAsg]
  refine rd_kids (it_tail (i := 1) rfl hT) (fun H v k => Dp K H v (keyD sg k) ∧ Pl k) (fun _ _ _ _ tk h => ⟨key_keep tk sg _ _ h.2 h.1, h.2⟩) hk (Nat.le_trans t.kids_le (by decide)) (fun _ => rfl) (fun u k H' hkm sm' hu Q' q' => ?_) (fun D2 H' ws nD2 sm' hD2 hr => ?_)
  · exact ⟨_, rfl, _, rfl, g, sg, u, k, rfl, hsg.keep (TK.same (sm.trans sm')), gs, hu, hw.kid hkm, by have := Tr.dep_kid hkm; omega, fun v' H3 s3 r3 => q' v' H3 s3 ⟨r3, hp.kid hkm⟩⟩
  dsimp only [tRet, tOp, tC, tCB, tCons, tLst, tNil]
  refine rd_mapL (r := D2) (us := ws) (fun v k => Dp K H' v (keyD sg k) ∧ Pl k) (fun k => V.int (k.size : Nat)) (fun R h => ⟨_, rfl, D2, rfl, ⟨_, SqL.mk hD2⟩, h⟩) (SqL.mk hD2) hr (Nat.le_trans t.kids_le (by decide)) (fun _ => rfl) (fun u k H2 hkm hu s2 Q' q' => ?_) (fun D3 H3 nD3 s3 hD3 => ?_)
  · obtain ⟨hd', hpk⟩ := hu
    rw [keyD_eq sg hpk] at hd'
    cases hd' with
    | tup hs ha =>
      cases ha with
      | cons a b =>
        cases a
        exact ⟨_, rfl, _, _, 0, _, rfl, rfl, TK.same s2 _ _ hs, at0 _ _, q' H2 (Same.refl H2)⟩
  have smA := sm'.trans s3
  have hD' := smA _ _ hD
  have hT' := TK.same smA _ _ hT
  refine ⟨D3, t.kids.map fun k => (k.size : Int), rfl, SqL.mk (by rw [hD3, List.map_map]; rfl), _, _, rfl, rfl, ?_⟩
  have e9 : (fun i j : Int => V.int (i + j)) 1 (t.kids.map fun k => (k.size : Int)).sum = V.int t.size := by show V.int (1 + _) = _; rw [← Tr.size_kids]
  rw [e9]
  refine ⟨_, rfl, .inl ⟨rfl, _, SqL.mk hD'⟩, _, rfl, p, _, 0, _, rfl, rfl, hT', at0 _ _, D, _, _, place sg t.sym, _, rfl, rfl, SqL.mk hD', rfl, flat_strs _, pa, beq_self_eq_true _, pb, (by show 2 ≤ sizeLine; decide), fun l nl => ?_⟩
  have hlen : ws.length ≤ 2 := by rw [paired_len hr]; exact t.kids_le
  have hD2' := (Same.new (o := .lst [.int t.size, .int (place sg t.sym : Nat)]) nl) _ _ (s3 _ _ hD2)
  refine ⟨_, rfl, l, D2, _, _, rfl, rfl, upd_same, hD2', ?_, fun r nr => ?_⟩
  · show 2 + ws.length ≤ sizeLine
    exact Nat.le_of_lt (small1000 (by omega))
  refine ⟨r, _, rfl, .inl ⟨SqL.mk upd_same, fun r2 nr2 => ?_⟩⟩
  refine q _ _ (sm.trans (smA.trans ((Same.new nl).trans ((Same.new nr).trans (Same.new nr2))))) ?_
  rw [keyD_eq sg hp]
  refine .tup (SqT.mk upd_same) (.cons (.int _) (.cons (.int _) ?_))
  have all : ∀ {ws : List V} {ks : List Tr}, Paired (fun v k => Dp K H' v (keyD sg k) ∧ Pl k) ws ks → ∀ {H2 : Hp}, TK K H' H2 → DpAll K H2 ws (ks.map (keyD sg)) := fun h => by
    induction h with
    | nil => intro H2 _; exact .nil
    | cons a b ih => intro H2 tk; exact .cons (key_keep tk sg _ _ a.2 a.1) (ih tk)
  exact all hr ((TK.same s3).trans ((TK.new nl).trans ((TK.new nr).trans (TK.new nr2))))
theorem ok_key (F : FnP K "_law_key" s_key f fd) (hm : mg "_law_key" = some (.ref f)) (Z : Zs mg) : ∀ d : Nat, Cal P w K mg base (d + 1) "_law_key" (spKey K d) []
  | 0 => mk_none (ps := P_key) F hm (fun _ _ _ _ _ _ us hl => match us, hl with | [_, _], _ => rfl) (fun vs H Q E h => by
    obtain ⟨g, sg, v, t, _, _, _, _, _, hd, _⟩ := h
    have := t.dep_pos
    omega)
  | d + 1 => turn_key F hm Z (ok_key F hm Z d)
end
end K02

set_option Elab.async false
set_option linter.all false
set_option maxRecDepth 100000
set_option maxHeartbeats 4000000
namespace K02
open PySem PySem.Spec PyProof.Rows L2 Pg
section
variable {P : Program} {w : World} {K : PySem.W.Frag} {mg : Str → Option Value} {base : Heap} {f : Addr} {fd : FuncData} {N T M Pe : Addr}
abbrev s_lst : Stmt := top 24
abbrev N_lst : List Str := ["signs", "size", "many", "told", "keys", "kept", "tree", "key", "k"]
abbrev P_lst : List Str := ["signs", "size", "many"]
theorem sc_lst : FnScope N_lst P_lst (defScope s_lst) := ⟨rfl, rfl, rfl, by decide +kernel, rfl, by decide +kernel, by decide +kernel⟩

theorem ok_lst (F : FnP K "_law_listed" s_lst f fd) (hm : mg "_law_listed" = some (.ref f)) (Z : Zs mg) (x_trs : CalX P w K mg base 3 "trees_of" (spTrs K N T)) (c_ist : Cal P w K mg base 61 "_law_is_tree" (spIst K 60) []) (c_key : Cal P w K mg base 61 "_law_key" (spKey K 60) []) : Cal P w K mg base 62 "_law_listed" (spLst K) [] := by
  refine mk_cal F hm sc_lst (fun _ _ _ _ _ _ us hl => match us, hl with | [_, _, _], _ => rfl) (fun vs H Q E h => ?_) (fun cdv A outer s H vs Q E hr h => ?_)
  · obtain ⟨g, sg, n, rfl, _⟩ := h
    rfl
  obtain ⟨g, sg, n, rfl, hsg, gs, hn, hct, q⟩ := h
  refine ⟨_, (pss_cons (ps_set (i := 3) sc_lst.nd rfl (by first | exact Or.inl rfl | exact Or.inr rfl) (pe_cx x_trs hr (by first | decide | omega) rfl takes0 (pa_cons (pv 0) (pa_cons (pv 1) pa_nil))))
      (pss_cons (ps_if (PW.pt (pw_or (pt_not (pt_val (pe_callB call_isi (by rfl) Z.isinstance (by decide +kernel) (pa_cons (pv 3) (pa_cons (pe_bltn (v := .ty "list") rfl Z.list (by decide +kernel) rfl) pa_nil))))) (pw_or (pt_cmpR op_ne (pe_callB call_len_seq (by rfl) Z.len (by decide +kernel) (pa_cons (pv 3) pa_nil)) (pv 2) (nomark _)) (pw_or1 (pt_not (pt_val (pe_callB (cr_all rfl) (by rfl) Z.all (by decide +kernel) (pa_cons (pe_lc (own := [("tree", 6)]) (g := (gName 6)) (tt := tYes) (te := (tCall (spIst K 60) [] _ (tCons (tVar 0) (tCons (tVar 6) tNil)))) rfl sc_lst.nd (pi_list (pv 3)) (blkOk_by (N := N_lst) (sc := defScope s_lst) (by decide +kernel)) (fun _ _ _ _ _ => by exact (pg_name (i := 6) sc_lst.nd rfl (Or.inl rfl))) (fun _ _ _ _ _ => by exact pts_nil) (fun _ _ _ _ _ => by exact (C8.pe_c c_ist hr (by first | decide | omega) rfl (pa_cons (pv 0) (pa_cons (pv 6) pa_nil))))) pa_nil)))))))) (pss_one (ps_ret pe_bl)) pss_nil)
      (pss_cons (ps_set (i := 4) sc_lst.nd rfl (by first | exact Or.inl rfl | exact Or.inr rfl) (pe_lc (own := [("tree", 6)]) (g := (gName 6)) (tt := tYes) (te := (tCall (spKey K 60) [] _ (tCons (tVar 0) (tCons (tVar 6) tNil)))) rfl sc_lst.nd (pi_list (pv 3)) (blkOk_by (N := N_lst) (sc := defScope s_lst) (by decide +kernel)) (fun _ _ _ _ _ => by exact (pg_name (i := 6) sc_lst.nd rfl (Or.inl rfl))) (fun _ _ _ _ _ => by exact pts_nil) (fun _ _ _ _ _ => by exact (C8.pe_c c_key hr (by first | decide | omega) rfl (pa_cons (pv 0) (pa_cons (pv 6) pa_nil))))))
      (pss_cons (ps_if (PW.pt (pw_or (pt_not (pt_val (pe_callB (cr_all rfl) (by rfl) Z.all (by decide +kernel) (pa_cons (pe_lc (own := [("key", 7)]) (g := (gName 7)) (tt := tYes) (te := (tOp _ (tOp (rIxT K) (tVar 7) _) (tVar 1))) rfl sc_lst.nd (pi_list (pv 4)) (blkOk_by (N := N_lst) (sc := defScope s_lst) (by decide +kernel)) (fun _ _ _ _ _ => by exact (pg_name (i := 7) sc_lst.nd rfl (Or.inl rfl))) (fun _ _ _ _ _ => by exact pts_nil) (fun _ _ _ _ _ => by exact (pe_cmpR op_eq (pe_ix ix_tup (pv 7) pe_int (fun _ _ => rfl)) (pv 1) (nomark _)))) pa_nil)))) (pw_or1 (pt_not (pt_val (pe_callB (cr_all rfl) (by rfl) Z.all (by decide +kernel) (pa_cons (pe_lc (own := [("k", 8)]) (g := (gName 8)) (tt := tYes) (te := (tOp (rLtD K 120) (tOp (rIxL K) (tVar 4) (tVar 8)) (tOp (rIxL K) (tVar 4) (tOp _ (tVar 8) (tC (.int 1)))))) rfl sc_lst.nd (pi_range1 (by rfl) Z.range (pa_cons (pe_op op_sub (pv 2) pe_int) pa_nil)) (blkOk_by (N := N_lst) (sc := defScope s_lst) (by decide +kernel)) (fun _ _ _ _ _ => by exact (pg_name (i := 8) sc_lst.nd rfl (Or.inl rfl))) (fun _ _ _ _ _ => by exact pts_nil) (fun _ _ _ _ _ => by exact (pe_cmpR (op_ltD (n := 120) (hu_n hr (by decide))) (pe_ix ix_list (pv 4) (pv 8) (fun _ _ => rfl)) (pe_ix ix_list (pv 4) (pe_op op_add (pv 8) pe_int) (fun _ _ => rfl)) (nomark _)))) pa_nil))))))) (pss_one (ps_ret pe_bl)) pss_nil)
      (pss_cons (ps_set (i := 5) sc_lst.nd rfl (by first | exact Or.inl rfl | exact Or.inr rfl) (pe_callTy call_list_of (by rfl) Z.list (by decide +kernel) (pa_cons (pv 3) pa_nil)))
      (pss_cons (ps_expr (pe_bm PySem.F.plainAttrs_list PySem.F.slot_list_append PySem.F.type_list_append mt_append (pv 3) (pa_cons pe_str pa_nil)))
      (pss_one (ps_ret (pe_cmpR (op_eqD (hu_n hr (by decide))) (pe_cx x_trs hr (by first | decide | omega) rfl takes0 (pa_cons (pv 0) (pa_cons (pv 1) pa_nil))) (pv 5) (nomark _)))))))))), ?_⟩
  have h060 : (0 : Int) ≤ (n : Int) ∧ (n : Int) ≤ 60 := ⟨by omega, by omega⟩
  refine ⟨_, rfl, _, rfl, g, sg, (n : Int), rfl, hsg, gs, fun _ _ p vs H1 np sm1 hp hk => ?_, fun _ hgt => absurd hgt (by rw [Int.toNat_natCast]; omega), fun z => absurd h060 z⟩
  rw [Int.toNat_natCast] at hk
  have hlen : vs.length = ct sg n := by rw [paired_len hk, ts_len]
  have W : ∀ t ∈ ts sg n, Wf sg [] t := fun t ht => (ts_wf gs n t ht).1
  have WD : ∀ t ∈ ts sg n, t.dep ≤ 60 := fun t ht => by have := (ts_wf gs n t ht).2; have := t.dep_le; omega
  have hks : (ts sg n).length ≤ 100000 := by rw [ts_len]; omega
  refine ⟨_, rfl, _, _, .type "list", .type "list", true, rfl, .ty "list", tyX_lst hp, kit_ty (by decide +kernel), _, rfl, ite2 (fun z => absurd z (by decide)) (fun _ => ?_)⟩
  refine ⟨_, rfl, p, _, rfl, .inl (SqL.mk hp), _, rfl, rfl, _, rfl, ite2 (fun z => ?_) (fun _ => ?_)⟩
  · rw [hlen, decide_eq_true rfl] at z
    cases z
  dsimp only [tNot, tB, tCB, tCons]
  refine rd_kidsL (r := p) (us := vs) (ks := ts sg n) (fun R h => ⟨_, rfl, p, rfl, ⟨_, SqL.mk hp⟩, h⟩) (SqL.mk hp) (fun _ v k => v = .bl true) (fun _ _ _ _ _ _ h => h) hk hks (fun _ => rfl) (fun u k H' hkm sm' hu Q' q' => ?_) (fun D H2 ws nD sm2 hD hr2 => ?_)
  · exact ⟨_, rfl, _, rfl, g, sg, u, k, rfl, hsg.keep (TK.same (sm1.trans sm')), gs, hu, W k hkm, WD k hkm, fun H3 s3 => q' _ H3 s3 rfl⟩
  have hws : ws = ((ts sg n).map fun _ => true).map V.bl := by rw [List.map_map]; exact paired_eq (g := fun _ => V.bl true) hr2
  refine ⟨D, (ts sg n).map fun _ => true, rfl, SqL.mk (by rw [hD, hws]), _, rfl, ?_⟩
  rw [all_true]
  refine ite2 (fun z => absurd z (by decide)) (fun _ => ?_)
  have hp2 := sm2 _ _ hp
  dsimp only [tNext, tSeq, tAsg]
  refine rd_kidsL (r := p) (us := vs) (ks := ts sg n) (fun R h => ⟨_, rfl, p, rfl, ⟨_, SqL.mk hp2⟩, h⟩) (SqL.mk hp2) (fun H v k => Dp K H v (keyD sg k)) (fun _ _ _ k hk tk h => key_keep tk sg k _ (W k hk).pl h) (hk.keep (TK.same sm2)) hks (fun _ => rfl) (fun u k H' hkm sm' hu Q' q' => ?_) (fun D3 H3 kv nD3 sm3 hD3 hr3 => ?_)
  · exact ⟨_, rfl, _, rfl, g, sg, u, k, rfl, hsg.keep (TK.same ((sm1.trans sm2).trans sm')), gs, hu, W k hkm, WD k hkm, fun v' H3 s3 r3 => q' v' H3 s3 r3⟩
  dsimp only [gName, tSeq, tIfS, tOr, tNot, tB, tCB, tCons]
  refine rd_mapL (r := D3) (us := kv) (ks := ts sg n) (fun v k => Dp K H3 v (keyD sg k)) (fun _ => V.bl true) (fun R h => ⟨_, rfl, D3, rfl, ⟨_, SqL.mk hD3⟩, h⟩) (SqL.mk hD3) hr3 hks (fun _ => rfl) (fun u k H' hkm hu s' Q' q' => ?_) (fun D4 H4 nD4 s4 hD4 => ?_)
  · have hsz := (ts_wf gs n k hkm).2
    rw [keyD_eq sg (W k hkm).pl] at hu
    cases hu with
    | tup hs ha =>
      cases ha with
      | cons a b =>
        cases a
        have z := q' H' (Same.refl H')
        refine ⟨_, rfl, _, _, 0, _, rfl, rfl, TK.same s' _ _ hs, at0 _ _, _, rfl, rfl, ?_⟩
        rw [decide_eq_true (by rw [hsz])]
        exact z
  refine ⟨D4, (ts sg n).map fun _ => true, rfl, SqL.mk (by rw [hD4, List.map_map]; rfl), _, rfl, ?_⟩
  rw [all_true]
  refine ite2 (fun z => absurd z (by decide)) (fun _ => ?_)
  have hD34 := s4 _ _ hD3
  refine rd_rng (lo := 0) (n := ct sg n - 1) (fun _ => V.bl true) (fun R h => ?_) (by omega) (fun _ => rfl) (fun i H' hi s' Q' q' => ?_) (fun D5 H5 nD5 s5 hD5 => ?_)
  · refine ⟨_, rfl, _, _, rfl, rfl, _, rfl, by omega, by omega, ?_⟩
    rw [show (((ct sg n : Nat) : Int) - 1).toNat = ct sg n - 1 by omega]
    exact h
  · have hi1 : i + 1 < (ts sg n).length := by rw [ts_len]; omega
    obtain ⟨u1, e1, d1⟩ := Pg.paired_get2 hr3 (List.getElem?_eq_getElem (show i < (ts sg n).length by omega))
    obtain ⟨u2, e2, d2⟩ := Pg.paired_get2 hr3 (List.getElem?_eq_getElem hi1)
    have m1 := List.getElem_mem (show i < (ts sg n).length by omega)
    have m2 := List.getElem_mem hi1
    have sD := SqL.mk (K := K) (s' _ _ hD34)
    have hlt := ts_next gs hi1
    have hdp := key_dep sg _ (W _ m1).pl
    have hdw := WD _ m1
    have z := q' H' (Same.refl H')
    refine ⟨_, rfl, _, rfl, D3, kv, _, u1, rfl, rfl, sD, (by rw [Int.zero_add]; exact atI_nat e1), _, rfl, _, rfl, _, _, rfl, rfl, D3, kv, _, u2, rfl, rfl, sD, ?_, keyD sg _, keyD sg _, dp_same (s4.trans s') _ _ d1, dp_same (s4.trans s') _ _ d2, key_alike sg _ _ (W _ m1).pl (W _ m2).pl, key_non sg (W _ m1).pl, Nat.le_trans (Nat.min_le_left _ _) (by omega), ?_⟩
    · rw [show (0 : Int) + (i : Int) + 1 = ((i + 1 : Nat) : Int) by omega]
      exact atI_nat e2
    · rw [hlt]
      exact z
  refine ⟨D5, (List.range (ct sg n - 1)).map fun _ => true, rfl, SqL.mk (by rw [hD5, List.map_map]; rfl), _, rfl, ?_⟩
  rw [all_true]
  refine ite2 (fun z => absurd z (by decide)) (fun _ => ?_)
  have s15 := sm2.trans (sm3.trans (s4.trans s5))
  have hp5 := s15 _ _ hp
  have hk5 := hk.keep (TK.same s15)
  refine ⟨_, rfl, p, vs, rfl, .inl (SqL.mk hp5), fun l nl => ?_⟩
  have hp6 := (Same.new (o := .lst vs) nl) _ _ hp5
  have nlp : l ≠ p := (ne_of_none hp5 nl).symm
  refine ⟨_, rfl, .inl ⟨rfl, _, SqL.mk hp6⟩, p, _, _, rfl, rfl, hp6, by rw [hlen]; exact smallN (by omega), ?_⟩
  have sK : Same H (upd (upd H5 l (.lst vs)) p (.lst (vs ++ [V.str (PySem.Str.ofString "x")]))) := Same.mut np ((sm1.trans s15).trans (Same.new nl))
  have hl7 : (upd (upd H5 l (.lst vs)) p (.lst (vs ++ [V.str (PySem.Str.ofString "x")]))) l = some (.lst vs) := by rw [upd_ne nlp]; exact upd_same
  have hk7 := hk5.keep ((TK.new (o := .lst vs) nl).trans (TK.put (o := .lst (vs ++ [V.str (PySem.Str.ofString "x")])) hp6))
  refine ⟨_, rfl, _, rfl, g, sg, (n : Int), rfl, hsg.keep (TK.same sK), gs, fun _ _ p2 vs2 H9 np2 sm9 hp9 hk9 => ?_, fun _ hgt => absurd hgt (by rw [Int.toNat_natCast]; omega), fun z => absurd h060 z⟩
  rw [Int.toNat_natCast] at hk9
  refine ⟨_, rfl, .list ((ts sg n).map trD), .list ((ts sg n).map trD), .lst (SqL.mk hp9) (kids_dp hk9), .lst (SqL.mk (sm9 _ _ hl7)) (kids_dp (hk7.keep (TK.same sm9))), trs_shaped gs W WD, trs_shaped gs W WD, ?_⟩
  rw [trs_eqv]
  exact q H9 (sK.trans sm9)
end
end K02

set_option Elab.async false
set_option linter.all false
set_option maxRecDepth 100000
set_option maxHeartbeats 4000000
namespace K02
open PySem PySem.Spec PyProof.Rows L2 Pg
section
variable {P : Program} {w : World} {K : PySem.W.Frag} {mg : Str → Option Value} {base : Heap} {f : Addr} {fd : FuncData} {N T M Pe : Addr}
abbrev s_law : Stmt := top 27
abbrev N_law : List Str := ["script", "state", "signs", "counts", "size", "fit", "at", "many", "bad", "k"]
abbrev P_law : List Str := ["script"]
theorem sc_law : FnScope N_law P_law (defScope s_law) := ⟨rfl, rfl, rfl, by decide +kernel, rfl, by decide +kernel, by decide +kernel⟩

theorem ok_law {fS : Addr} {fdS : FuncData} (F : FnP K "law" s_law f fd) (FS : FnP K "_law_same" s_same fS fdS) (m_same : mg "_law_same" = some (.ref fS)) (Z : Zs mg) (G : Ex2 K mg N T M Pe)
    (c_stream : Cal P w K mg base 1 "_law_stream" (spStream K) []) (c_next : Cal P w K mg base 1 "_law_next" spNext []) (c_signs : Cal P w K mg base 3 "_law_signs" (spSigns K) []) (c_lcs : Cal P w K mg base 1 "_law_counts" (spLcs K) [])
    (x_cnt : CalX P w K mg base 3 "count_trees" (spCnt K N)) (c_lst : Cal P w K mg base 62 "_law_listed" (spLst K) []) (c_lrg : Cal P w K mg base 4 "_law_large" (spLrg K) []) (c_ref : Cal P w K mg base 4 "_law_refused" (spRef K) []) : FnG P w K mg base 70 f fd ["script"] (spLaw K) := by
  have G_same : FnG P w K mg base 1 fS fdS ["told", "due"] spSame1 := ok_same FS Z
  have kp_same := FS.kp
  have b_same : Binds K fdS ["told", "due"] [] := FS.bindsN (fun _ _ _ _ _ _ us hl => match us, hl with | [_, _], _ => rfl)
  refine mk_fng F sc_law (fun vs H Q E h => ?_) (fun cdv A outer s H vs Q hG hr h => ?_)
  · obtain ⟨a, ns, rfl, _⟩ := h
    rfl
  obtain ⟨a0, zs, rfl, hS0, h63, q⟩ := h
  refine ⟨_, (pss_cons (ps_set (i := 1) sc_law.nd rfl (by first | exact Or.inl rfl | exact Or.inr rfl) (pe_lst (pa_cons (C8.pe_c c_stream hr (by first | decide | omega) rfl (pa_cons (pv 0) pa_nil)) (pa_cons pe_int pa_nil))))
      (pss_cons (ps_set (i := 2) sc_law.nd rfl (by first | exact Or.inl rfl | exact Or.inr rfl) (C8.pe_c c_signs hr (by first | decide | omega) rfl (pa_cons (pv 1) (pa_cons (pe_op op_add pe_int (C8.pe_c c_next hr (by first | decide | omega) rfl (pa_cons (pv 1) (pa_cons pe_int pa_nil)))) pa_nil))))
      (pss_cons (ps_set (i := 3) sc_law.nd rfl (by first | exact Or.inl rfl | exact Or.inr rfl) (C8.pe_c c_lcs hr (by first | decide | omega) rfl (pa_cons (pv 2) pa_nil)))
      (pss_cons (ps_set (i := 4) sc_law.nd rfl (by first | exact Or.inl rfl | exact Or.inr rfl) (pe_ix ix_list (pe_lst (pa_cons (C8.pe_c c_next hr (by first | decide | omega) rfl (pa_cons (pv 1) (pa_cons pe_int pa_nil))) (pa_cons (C8.pe_c c_next hr (by first | decide | omega) rfl (pa_cons (pv 1) (pa_cons pe_int pa_nil))) pa_nil))) (pe_callTy call_int1 (by rfl) Z.int (by decide +kernel) (pa_cons (pe_cmpR op_eq (C8.pe_c c_next hr (by first | decide | omega) rfl (pa_cons (pv 1) (pa_cons pe_int pa_nil))) pe_int (nomark _)) pa_nil)) (fun _ _ => rfl)))
      (pss_cons (ps_if (PW.pt (pw_or (pt_not (pt_val (pe_callG G_same hG (hr.mono (by decide)) (by rfl) m_same kp_same b_same (pa_cons (pe_cx x_cnt hr (by first | decide | omega) rfl takes0 (pa_cons (pv 2) (pa_cons (pv 4) pa_nil))) (pa_cons (pe_ix ix_list (pv 3) (pv 4) (fun _ _ => rfl)) pa_nil))))) (pw_or (pt_cmpR op_ne (C8.pe_gc (v := .int 60) (by rfl) G.mc) pe_int (nomark _)) (pw_or1 (pt_cmpR op_ne (C8.pe_gc (v := .int 2000) (by rfl) G.ml) pe_int (nomark _)))))) (pss_one (ps_ret pe_bl)) pss_nil)
      (pss_cons (ps_setLc (i := 5) (own := [("k", 9)]) (g := (gName 9)) (tt := (tTest (tOp _ (tOp (rIxL K) (tVar 3) (tVar 9)) (tOp (rIxL K) _ (tCB _ (tCons (tOp _ (tCall _ [] _ (tCons (tVar 1) (tCons _ tNil))) _) tNil)))))) (te := (tVar 9)) rfl sc_law.nd rfl rfl (sw_true rfl rfl rfl (by decide +kernel)) (pi_range1 (by rfl) Z.range (pa_cons pe_int pa_nil)) (blkOk_by (N := N_law) (sc := defScope s_law) (by decide +kernel)) (fun _ _ _ _ _ => by exact (pg_name (i := 9) sc_law.nd rfl (Or.inl rfl))) (fun _ _ _ _ _ => by exact (pts_one (pt_cmpR op_le (pe_ix ix_list (pv 3) (pv 9) (fun _ _ => rfl)) (pe_ix ix_list (pe_lst (pa_cons pe_int (pa_cons pe_int pa_nil))) (pe_callTy call_int1 (by rfl) Z.int (by decide +kernel) (pa_cons (pe_cmpR op_eq (C8.pe_c c_next hr (by first | decide | omega) rfl (pa_cons (pv 1) (pa_cons pe_int pa_nil))) pe_int (nomark _)) pa_nil)) (fun _ _ => rfl)) (nomark _)))) (fun _ _ _ _ _ => by exact (pv 9)))
      (pss_cons (ps_set (i := 6) sc_law.nd rfl (by first | exact Or.inl rfl | exact Or.inr rfl) (pe_ix ix_list (pv 5) (C8.pe_c c_next hr (by first | decide | omega) rfl (pa_cons (pv 1) (pa_cons (pe_callB call_len_seq (by rfl) Z.len (by decide +kernel) (pa_cons (pv 5) pa_nil)) pa_nil))) (fun _ _ => rfl)))
      (pss_cons (ps_if (pt_not (pt_val (C8.pe_c c_lst hr (by first | decide | omega) rfl (pa_cons (pv 2) (pa_cons (pv 6) (pa_cons (pe_ix ix_list (pv 3) (pv 6) (fun _ _ => rfl)) pa_nil)))))) (pss_one (ps_ret pe_bl)) pss_nil)
      (pss_cons (ps_setLc (i := 7) (own := [("k", 9)]) (g := (gName 9)) (tt := (tTest (tOp _ (tOp (rIxL K) (tVar 3) (tVar 9)) _))) (te := (tVar 9)) rfl sc_law.nd rfl rfl (sw_true rfl rfl rfl (by decide +kernel)) (pi_range1 (by rfl) Z.range (pa_cons pe_int pa_nil)) (blkOk_by (N := N_law) (sc := defScope s_law) (by decide +kernel)) (fun _ _ _ _ _ => by exact (pg_name (i := 9) sc_law.nd rfl (Or.inl rfl))) (fun _ _ _ _ _ => by exact (pts_one (pt_cmpR op_gt (pe_ix ix_list (pv 3) (pv 9) (fun _ _ => rfl)) pe_int (nomark _)))) (fun _ _ _ _ _ => by exact (pv 9)))
      (pss_cons (ps_if (PW.pt (pw_and (pt_cmpR op_gt (pe_callB call_len_seq (by rfl) Z.len (by decide +kernel) (pa_cons (pv 7) pa_nil)) pe_int (nomark _)) (pw_and1 (pt_not (PW.pt (pw_and (pt_val (C8.pe_c c_lrg hr (by first | decide | omega) rfl (pa_cons (pv 2) (pa_cons (pe_ix ix_list (pv 7) pe_int (fun _ _ => rfl)) pa_nil)))) (pw_and1 (pt_val (C8.pe_c c_lrg hr (by first | decide | omega) rfl (pa_cons (pv 2) (pa_cons (pe_ix ix_list (pv 7) (C8.pe_c c_next hr (by first | decide | omega) rfl (pa_cons (pv 1) (pa_cons (pe_callB call_len_seq (by rfl) Z.len (by decide +kernel) (pa_cons (pv 7) pa_nil)) pa_nil))) (fun _ _ => rfl)) pa_nil))))))))))) (pss_one (ps_ret pe_bl)) pss_nil)
      (pss_cons (ps_set (i := 8) sc_law.nd rfl (by first | exact Or.inl rfl | exact Or.inr rfl) (pe_ix ix_list (pe_lst (pa_cons (pe_un un_neg pe_int) (pa_cons pe_int (pa_cons (pe_op op_add pe_int (C8.pe_c c_next hr (by first | decide | omega) rfl (pa_cons (pv 1) (pa_cons pe_int pa_nil)))) (pa_cons (pe_op op_sub (pe_un un_neg pe_int) (C8.pe_c c_next hr (by first | decide | omega) rfl (pa_cons (pv 1) (pa_cons pe_int pa_nil)))) pa_nil))))) (C8.pe_c c_next hr (by first | decide | omega) rfl (pa_cons (pv 1) (pa_cons pe_int pa_nil))) (fun _ _ => rfl)))
      (pss_one (ps_ret (pe_and (C8.pe_c c_ref hr (by first | decide | omega) rfl (pa_cons pe_int (pa_cons (pv 2) (pa_cons (pv 8) pa_nil)))) (pe_one (C8.pe_c c_ref hr (by first | decide | omega) rfl (pa_cons pe_int (pa_cons (pv 2) (pa_cons (pv 8) pa_nil))))))))))))))))))), ?_⟩
  refine ⟨_, rfl, a0, zs, rfl, hS0, h63, fun n ns H1 nn0 sm1 hn hne hlen hin => ?_⟩
  refine ⟨(by show 2 ≤ sizeLine; decide), fun a na => ?_⟩
  have nna : n ≠ a := ne_of_none hn na
  have s0 : StA (upd H1 a (.lst [.ref n, .int 0])) a n 0 := ⟨ns, 0, upd_same, by rw [upd_ne nna]; exact hn, nna, hne, hlen, hin, Int.le_refl _, Int.le_refl _⟩
  generalize upd H1 a (.lst [.ref n, .int 0]) = Ha at s0 ⊢
  refine ⟨_, rfl, _, rfl, a, n, 4, 0, rfl, by decide, s0, by omega, fun r H2 r0 r1 f2 s2 => ?_⟩
  refine ⟨_, _, rfl, rfl, a, n, _, _, rfl, s2, by omega, by omega, by omega, fun g sg H3 hsg gs f3 s3 => ?_⟩
  -- the law's own numbers
  refine ⟨_, rfl, g, sg, rfl, hsg, gs, fun cp H4 ncp sm4 hcp => ?_⟩
  have s4 : StA H4 a n 60 := (s3.same sm4).mono (by omega)
  have hsg4 := hsg.keep (TK.same sm4)
  have nca : cp ≠ a := (s3.ne ncp).1
  clear f2 s2 f3 s3
  -- a size
  refine ⟨_, rfl, a, n, 6, _, rfl, by decide, s4, by omega, fun r1 H5 r10 r11 f5 s5 => ?_⟩
  refine ⟨_, rfl, a, n, 61, _, rfl, by decide, s5, by omega, fun r2 H6 r20 r21 f6 s6 => ?_⟩
  refine ⟨(by show 2 ≤ sizeLine; decide), fun l nl => ?_⟩
  refine ⟨_, rfl, a, n, 4, _, rfl, by decide, s6.new nl, by omega, fun r3 H7 r30 r31 f7 s7 => ?_⟩
  refine ⟨rfl, .inr ⟨_, rfl, ?_⟩⟩
  obtain ⟨sz, hat, z0, z60⟩ : ∃ sz : Nat, atI [V.int r1, V.int r2] (if decide (V.int r3 = V.int 0) = true then 1 else 0) = some (.int (sz : Nat)) ∧ 0 ≤ sz ∧ sz ≤ 60 := by
    by_cases e : decide (V.int r3 = V.int 0) = true
    · rw [if_pos e]; exact ⟨r2.toNat, by rw [Int.toNat_of_nonneg r20]; rfl, by omega, by omega⟩
    · rw [if_neg e]; exact ⟨r1.toNat, by rw [Int.toNat_of_nonneg r10]; rfl, by omega, by omega⟩
  refine ⟨l, _, _, _, rfl, rfl, SqL.mk (f7 _ _ (s6.ne nl).1 upd_same), hat, ?_⟩
  have fr7 : Fr a H4 H7 := f5.trans (f6.trans ((Fr.new nl).trans f7))
  have tk7 := s4.tk (K := K) fr7
  have hsg7 := hsg4.keep tk7
  have hcp7 := fr7 _ _ nca hcp
  have s7' : StA H7 a n 70 := s7.mono (by omega)
  clear f5 s5 f6 s6 nl f7 s7
  have hcz : (ct sg sz : Nat) ≤ 2 ^ 1200 := Nat.le_trans (ct_small gs sz z60) (Nat.pow_le_pow_right (by decide) (by omega))
  have hlz : ((ct sg sz : Nat) : Int).natAbs.log2 < 1920 := by
    rw [Int.natAbs_natCast]
    have := log2_small hcz
    omega
  refine ⟨_, rfl, _, rfl, g, sg, (sz : Int), rfl, hsg7, gs, fun _ H8 sm8 => ?_, fun z => absurd ⟨by omega, by omega⟩ z⟩
  refine ⟨_, rfl, _, rfl, cp, _, _, _, rfl, rfl, SqL.mk (sm8 _ _ hcp7), at_ct (k := sz) rfl z60, ((ct sg sz : Nat) : Int), rfl, hlz, fun H9 sm89 => ⟨true, rfl, ?_⟩⟩
  refine ite2 (fun z => absurd z (by decide)) (fun _ => ?_)
  refine ⟨rfl, _, rfl, ite2 (fun z => absurd z (by decide)) (fun _ => ?_)⟩
  refine ⟨rfl, _, rfl, ite2 (fun z => absurd z (by decide)) (fun _ => ?_)⟩
  have sm9 := sm8.trans sm89
  have s9 := s7'.same sm9
  have hsg9 := hsg7.keep (TK.same sm9)
  have hcp9 := sm9 _ _ hcp7
  -- the sizes to choose from
  dsimp only [tNext, tSeq, tAsg]
  refine ⟨61, rfl, by decide, by decide, fun D nD => lc_range (lo := 0) (n := 61) (fun i H' => ∃ F : List Nat, FitI sg i F ∧ H' D = some (.lst (cv F)) ∧ StA H' a n (70 + (i : Int)) ∧ Fr a H9 H')
    ⟨[], ⟨Nat.le_refl _, fun k hk => absurd hk List.not_mem_nil, fun z => absurd z (by omega)⟩, upd_same, (s9.new nD).mono (by omega), Fr.new nD⟩ (fun i H' hi iv => ?_) (fun H' iv => ?_)⟩
  · obtain ⟨F, fit, hD, sA, fr⟩ := iv
    have hDa := s9.ne nD
    rw [Int.zero_add]
    refine ⟨rfl, ?_⟩
    refine ⟨_, rfl, _, rfl, cp, _, _, _, rfl, rfl, SqL.mk (fr _ _ nca hcp9), at_ct (k := i) rfl (by omega), (by show 2 ≤ sizeLine; decide), fun l nl => ?_⟩
    refine ⟨_, rfl, a, n, 16, _, rfl, by decide, sA.new nl, by omega, fun r H'' r0 r1 f'' s'' => ⟨rfl, .inr ⟨_, rfl, ?_⟩⟩⟩
    obtain ⟨B, hB, b40, b2000⟩ : ∃ B : Int, atI [V.int 40, V.int 2000] (if decide (V.int r = V.int 0) = true then 1 else 0) = some (.int B) ∧ 40 ≤ B ∧ B ≤ 2000 := by
      by_cases e : decide (V.int r = V.int 0) = true
      · rw [if_pos e]; exact ⟨2000, rfl, by omega, by omega⟩
      · rw [if_neg e]; exact ⟨40, rfl, by omega, by omega⟩
    have fr' : Fr a H' H'' := (Fr.new nl).trans f''
    have hD' := fr' _ _ hDa.1 hD
    refine ⟨l, _, _, _, rfl, rfl, SqL.mk (f'' _ _ (sA.ne nl).1 upd_same), hB, _, _, rfl, rfl, _, rfl, if_of (fun e => ?_) (fun e => ?_)⟩
    · have e := of_decide_eq_true e
      refine ⟨_, rfl, _, hD', ?_, F ++ [i], fit.snoc (by omega), ?_, (s''.put hDa).mono (by omega), (fr.trans fr').mut nD⟩
      · show (List.map _ _).length < sizeLine
        have := fit.len
        rw [List.length_map]
        exact smallN (by omega)
      · rw [upd_same]
        show _ = some (HO.lst ((F ++ [i]).map _))
        rw [List.map_append]
        rfl
    · have e := of_decide_eq_false e
      refine ⟨F, fit.skip (fun z => e ?_), hD', s''.mono (by omega), fr.trans fr'⟩
      rw [z, ct0]
      omega
  obtain ⟨F, fit, hD, sA, fr⟩ := iv
  have hF : 0 < F.length := List.length_pos_iff.mpr (fit.ne (by decide))
  have hcF : (cv F).length = F.length := List.length_map _
  have hFl := fit.len
  have hcpA := fr _ _ nca hcp9
  have hsgA := hsg9.keep (s9.tk fr)
  refine ⟨_, rfl, _, rfl, _, rfl, D, _, rfl, .inl (SqL.mk hD), a, n, _, _, rfl, by rw [hcF]; omega, sA, by omega, fun r5 HB r50 r51 fB sB => ?_⟩
  have hDa := (s9.ne nD).1
  rw [hcF] at r51
  obtain ⟨k5, rfl⟩ := Int.eq_ofNat_of_zero_le r50
  have hk5 : k5 < F.length := by omega
  refine ⟨D, _, _, _, rfl, rfl, SqL.mk (fB _ _ hDa hD), at_cv (k := k5) rfl hk5, ?_⟩
  have hkm : F.getD k5 0 ∈ F := List.mem_of_getElem? (getD_at hk5)
  obtain ⟨hk60, hk2000⟩ := fit.ok _ hkm
  generalize F.getD k5 0 = kk at hkm hk60 hk2000 ⊢
  have hcpB := fB _ _ nca hcpA
  have hsgB := hsgA.keep (sA.tk fB)
  refine ⟨_, rfl, _, rfl, _, rfl, _, rfl, cp, _, _, _, rfl, rfl, SqL.mk hcpB, at_ct (k := kk) rfl (by omega), g, sg, kk, rfl, hsgB, gs, by omega, hk2000, fun HC smC => ⟨true, rfl, ?_⟩⟩
  refine ite2 (fun z => absurd z (by decide)) (fun _ => ?_)
  have hcpC := smC _ _ hcpB
  have hsgC := hsgB.keep (TK.same smC)
  have sC : StA HC a n 140 := (sB.same smC).mono (by omega)
  -- the sizes with too many
  dsimp only [tNext, tSeq, tAsg]
  refine rd_rngIf (n := 61) (fun k => decide ((2000 : Int) < ((ct sg k : Nat) : Int))) (fun R h => ⟨61, rfl, by decide, by decide, h⟩) (by decide) (fun _ => rfl) (fun _ => rfl) (fun i H' hi sm Q' q' => ⟨_, rfl, _, rfl, cp, _, _, _, rfl, rfl, SqL.mk (sm _ _ hcpC), at_ct (k := i) rfl (by omega), _, _, rfl, rfl, _, rfl, q'⟩) (fun D2 HE nD2 smE hD2 => ?_)
  have hL : ∀ k ∈ (List.range 61).filter (fun k => decide ((2000 : Int) < ((ct sg k : Nat) : Int))), k ≤ 60 ∧ 2000 < ct sg k := fun k hk => by
    obtain ⟨h1, h2⟩ := List.mem_filter.mp hk
    have h1 := List.mem_range.mp h1
    have h2 := of_decide_eq_true h2
    omega
  generalize (List.range 61).filter (fun k => decide ((2000 : Int) < ((ct sg k : Nat) : Int))) = L at hL hD2
  have hcL : (cv L).length = L.length := List.length_map _
  have hsgE := hsgC.keep (TK.same smE)
  have sE := sC.same smE
  refine ⟨_, rfl, D2, _, rfl, .inl (SqL.mk hD2), _, _, rfl, rfl, _, rfl, ite2 (fun hpos => ?_) (fun _ => ?_)⟩
  · have hpos := of_decide_eq_true hpos
    rw [hcL] at hpos
    have hpos : 0 < L.length := by omega
    obtain ⟨ha1, ha2⟩ := hL _ (List.mem_of_getElem? (getD_at (d := 0) hpos))
    refine ⟨_, rfl, _, rfl, D2, _, _, _, rfl, rfl, SqL.mk hD2, at_cv (k := 0) rfl hpos, _, g, sg, rfl, hsgE, gs, ⟨by omega, by omega⟩, by rw [Int.toNat_natCast]; exact ha2, fun HF smF => ⟨true, rfl, ite2 (fun _ => ?_) (fun z => absurd rfl z)⟩⟩
    have hD2F := smF _ _ hD2
    have sF := sE.same smF
    have hsgF := hsgE.keep (TK.same smF)
    refine ⟨_, rfl, _, rfl, _, rfl, _, rfl, D2, _, rfl, .inl (SqL.mk hD2F), a, n, _, _, rfl, by rw [hcL]; omega, sF, by omega, fun r6 HG r60 r61 fG sG => ?_⟩
    rw [hcL] at r61
    obtain ⟨k6, rfl⟩ := Int.eq_ofNat_of_zero_le r60
    have hk6 : k6 < L.length := by omega
    obtain ⟨hb1, hb2⟩ := hL _ (List.mem_of_getElem? (getD_at (d := 0) hk6))
    have hD2a : D2 ≠ a := (sC.ne nD2).1
    have hsgG := hsgF.keep (sF.tk fG)
    refine ⟨D2, _, _, _, rfl, rfl, SqL.mk (fG _ _ hD2a hD2F), at_cv (k := k6) rfl hk6, _, g, sg, rfl, hsgG, gs, ⟨by omega, by omega⟩, by rw [Int.toNat_natCast]; exact hb2, fun HI smI => ⟨true, rfl, ite2 (fun z => absurd z (by decide)) (fun _ => ?_)⟩⟩
    have hsgI := hsgG.keep (TK.same smI)
    have sI := sG.same smI
    refine ⟨1, rfl, _, rfl, a, n, 1000, _, rfl, by decide, sI, by omega, fun b1 J1 b10 b11 g1 t1 => ?_⟩
    refine ⟨_, _, rfl, rfl, 2, rfl, _, rfl, a, n, 1000, _, rfl, by decide, t1, by omega, fun b2 J2 b20 b21 g2 t2 => ?_⟩
    refine ⟨_, _, rfl, rfl, (by show 4 ≤ sizeLine; decide), fun lb nlb => ?_⟩
    refine ⟨_, rfl, a, n, 4, _, rfl, by decide, t2.new nlb, by omega, fun b3 J3 b30 b31 g3 t3 => ?_⟩
    obtain ⟨bad, hbat, hbad⟩ : ∃ bad : Int, atI [V.int (-1), V.int 61, V.int (62 + b1), V.int (-2 - b2)] b3 = some (.int bad) ∧ ¬ (0 ≤ bad ∧ bad ≤ 60) := by
      rcases (by omega : b3 = 0 ∨ b3 = 1 ∨ b3 = 2 ∨ b3 = 3) with rfl | rfl | rfl | rfl
      · exact ⟨-1, rfl, by omega⟩
      · exact ⟨61, rfl, by omega⟩
      · exact ⟨62 + b1, rfl, by omega⟩
      · exact ⟨-2 - b2, rfl, by omega⟩
    refine ⟨lb, _, _, _, rfl, rfl, SqL.mk (g3 _ _ (t2.ne nlb).1 upd_same), hbat, ?_⟩
    have sgZ := hsgI.keep ((sI).tk (K := K) (g1.trans (g2.trans ((Fr.new (o := .lst [.int (-1), .int 61, .int (62 + b1), .int (-2 - b2)]) nlb).trans g3))))
    refine ⟨_, rfl, _, rfl, 0, bad, g, sg, rfl, sgZ, gs, hbad, fun J4 k4 => ⟨true, rfl, ite2 (fun _ => ?_) (fun z => absurd rfl z)⟩⟩
    exact ⟨_, rfl, _, rfl, 1, bad, g, sg, rfl, sgZ.keep (TK.same k4), gs, hbad, fun J5 k5 => q J5⟩
  · refine ite2 (fun z => absurd z (by decide)) (fun _ => ?_)
    refine ⟨1, rfl, _, rfl, a, n, 1000, _, rfl, by decide, sE, by omega, fun b1 J1 b10 b11 g1 t1 => ?_⟩
    refine ⟨_, _, rfl, rfl, 2, rfl, _, rfl, a, n, 1000, _, rfl, by decide, t1, by omega, fun b2 J2 b20 b21 g2 t2 => ?_⟩
    refine ⟨_, _, rfl, rfl, (by show 4 ≤ sizeLine; decide), fun lb nlb => ?_⟩
    refine ⟨_, rfl, a, n, 4, _, rfl, by decide, t2.new nlb, by omega, fun b3 J3 b30 b31 g3 t3 => ?_⟩
    obtain ⟨bad, hbat, hbad⟩ : ∃ bad : Int, atI [V.int (-1), V.int 61, V.int (62 + b1), V.int (-2 - b2)] b3 = some (.int bad) ∧ ¬ (0 ≤ bad ∧ bad ≤ 60) := by
      rcases (by omega : b3 = 0 ∨ b3 = 1 ∨ b3 = 2 ∨ b3 = 3) with rfl | rfl | rfl | rfl
      · exact ⟨-1, rfl, by omega⟩
      · exact ⟨61, rfl, by omega⟩
      · exact ⟨62 + b1, rfl, by omega⟩
      · exact ⟨-2 - b2, rfl, by omega⟩
    refine ⟨lb, _, _, _, rfl, rfl, SqL.mk (g3 _ _ (t2.ne nlb).1 upd_same), hbat, ?_⟩
    have sgZ := hsgE.keep ((sE).tk (K := K) (g1.trans (g2.trans ((Fr.new (o := .lst [.int (-1), .int 61, .int (62 + b1), .int (-2 - b2)]) nlb).trans g3))))
    refine ⟨_, rfl, _, rfl, 0, bad, g, sg, rfl, sgZ, gs, hbad, fun J4 k4 => ⟨true, rfl, ite2 (fun _ => ?_) (fun z => absurd rfl z)⟩⟩
    exact ⟨_, rfl, _, rfl, 1, bad, g, sg, rfl, sgZ.keep (TK.same k4), gs, hbad, fun J5 k5 => q J5⟩
end
end K02

set_option Elab.async false
set_option linter.all false
set_option maxRecDepth 100000
set_option maxHeartbeats 0
namespace Pg
open PySem PySem.Spec PyProof.Rows L2
/-- the law's def is called from outside, where no repr is under way: its promise over the heap in which the script alone is tracked -/
theorem law_callG {P : Program} {w : World} {K : PySem.W.Frag} {mg mb : Str → Option Value} {k : Nat} {fa a : Addr} {fd : FuncData} {x : Str} {sp : Sp} {s₁ : Shared} {vs : List Value} {ns : List Int}
    (KX : K.In s₁.heap) (hns : s₁.heap.Ns mainGlobals mg) (hb : s₁.heap.Ns builtinsNs mb) (hbb : ∀ x : Str, x ≠ "__name__" → mb x = bootBuiltins x) (hlim : s₁.heap.NoLimit) (hg : s₁.gens = #[])
    (ha : s₁.heap.get? a = some { cls := .type "list", data := .seq vs.toArray }) (hi : IntsAre vs ns) (hl : ns.length ≤ sizeLine) (hr : Room k callerA) (hgd : callerA.guards = some [])
    (F : ∀ base : Heap, K.In base → base.Ns mainGlobals mg → FnG P w K mg base k fa fd [x] sp) (hbind : ∀ (s : Shared) (u : Value), BindsTo s fd ⟨[u], []⟩ [(x, u)])
    (hsp : ∀ H : Hp, SqL K H a (ns.map V.int) → sp [.ref a] H (fun v _ => v = .bl true) E0) :
    codeAny (model P w) callerA (.call (.ref fa) ⟨[.ref a], []⟩) (fun r s' => r = .ok (.ret (.bool true)) ∧ OldK s₁.heap s'.heap ∧ s'.os = s₁.os ∧ AllBare s'.gens) s₁ := by
  have rv := vals_ints hi
  obtain ⟨H, own, hS, hok⟩ : ∃ H : Hp, (∀ b u, H b = some u → b = a ∧ K.lookup a = none ∧ ∃ ob xs, u = .frz ob (.lst xs)) ∧ SqL K H a (ns.map V.int) ∧ HOk P w H s₁.heap := by
    cases hk : K.lookup a with
    | some o =>
      have e := (KX a o hk).symm.trans ha
      cases e
      exact ⟨fun _ => none, fun b u z => (by cases z), .inr ⟨_, vs.toArray, _, hk, rfl, rfl, rfl, by rw [List.size_toArray, hi.length]; exact hl, by simpa using rv⟩, fun b u z => by cases (show (none : Option HO) = some u from z)⟩
    | none =>
      refine ⟨upd (fun _ => none) a (.frz { cls := .type "list", data := .seq vs.toArray } (.lst (ns.map V.int))), fun b u z => ?_, .inl (.inr ⟨_, upd_same⟩), fun b u z => ?_⟩
      · by_cases e : b = a
        · subst e
          rw [upd_same] at z
          exact ⟨rfl, rfl, _, _, (Option.some.inj z).symm⟩
        · rw [upd_ne e] at z
          cases z
      · by_cases e : b = a
        · subst e
          rw [upd_same] at z
          cases z
          exact ⟨ha, by rw [List.length_map]; exact hl, vs, _, rv, ha⟩
        · rw [upd_ne e] at z
          cases z
  have stay : ∀ {b : Addr} {o : Obj}, s₁.heap.get? b = some o → H b = none → (hidT s₁.heap H).get? b = some o := fun e z => hidT_get e z
  have ofK : ∀ {b : Addr} {o : Obj}, K.lookup b = some o → H b = none := fun {b o} e => by
    cases z : H b with
    | none => rfl
    | some u =>
      obtain ⟨rfl, h2, _⟩ := own b u z
      rw [h2] at e
      cases e
  have ofD : ∀ {b : Addr} {o : Obj} {es : Array DictEntry} {ep : Nat}, s₁.heap.get? b = some o → o.data = .dict es ep → H b = none := fun {b o es ep} e d => by
    cases z : H b with
    | none => rfl
    | some u =>
      obtain ⟨rfl, _, _⟩ := own b u z
      rw [ha] at e
      cases e
      cases (show Data.seq vs.toArray _ = Data.dict es ep from d)
  have names : ∀ {b : Addr} {m : Str → Option Value}, s₁.heap.Ns b m → (hidT s₁.heap H).Ns b m := fun ⟨o, es, ep, e, d, r⟩ => ⟨o, es, ep, stay e (ofD e d), d, r⟩
  have inK : K.In (hidT s₁.heap H) := fun b o e => stay (KX b o e) (ofK e)
  have hM : Mod K mg (hidT s₁.heap H) := ⟨inK, names hns, ⟨mb, names hb, hbb⟩, let ⟨mc, h1, h2⟩ := hlim; ⟨mc, names h1, h2⟩⟩
  have e0 : Env0 P w K mg (hidT s₁.heap H) callerA [] s₁ H := ⟨rfl, hM, fun b o e => of_hidT e, Nat.le_of_eq (hidT_size _ _), trivial, fun b hb => absurd (show b ∈ ([] : List Addr) from hb) (by simp), hok, .of_eq hg⟩
  refine codeAny_mono ((F _ inK (names hns)).run callerA [] s₁ H ⟨[.ref a], []⟩ [.ref a] [.ref a] _ hgd hr e0 (hbind s₁ (.ref a)) (.cons rfl .nil) (hsp H hS)) fun r s' h => ?_
  cases r with
  | error e => exact (show False from h).elim
  | ok fl =>
    cases fl with
    | next => exact False.elim h
    | brk => exact False.elim h
    | cont => exact False.elim h
    | ret u =>
      obtain ⟨v, H', os, bare, un, hok', r', q⟩ := h
      obtain rfl : v = .bl true := q
      obtain rfl : u = Value.bool true := r'
      refine ⟨rfl, OldK.of_keep fun b o e => ?_, os, bare⟩
      cases z : H b with
      | none => exact un.keep b o e z (by intro y; exact absurd (show b ∈ ([] : List Addr) from y) (by simp)) (by simp)
      | some u =>
        obtain ⟨_, _, ob, xs, rfl⟩ := own b u z
        have e1 := (hok b _ z).1
        have e2 := (hok' b _ (un.frzs b ob _ z)).1
        rw [e] at e1
        cases e1
        exact e2
end Pg

set_option Elab.async false
set_option linter.all false
set_option maxRecDepth 100000
set_option maxHeartbeats 0
namespace K02
open PySem PySem.Spec PyProof.Rows L2 Pg
def dOf (x : Str) (st : Stmt) : He.DefD := ⟨(x, none), x, x, defArgs st, defBody st, defScope st, [], []⟩
def fn : List He.DefD := [dOf "count_trees" (top 8), dOf "trees_of" (top 9), dOf "check_size" (top 10), dOf "counts_to" (top 11), dOf "count_over" (top 12), dOf "trees_over" (top 13), dOf "pairs_over" (top 14), dOf "_law_same" (top 16), dOf "_law_stream" (top 17), dOf "_law_next" (top 18), dOf "_law_word" (top 19), dOf "_law_signs" (top 20), dOf "_law_counts" (top 21), dOf "_law_is_tree" (top 22), dOf "_law_key" (top 23), dOf "_law_listed" (top 24), dOf "_law_refused" (top 25), dOf "_law_large" (top 26), dOf "law" (top 27)]
def fa : List He.Fa := [.glo "count_trees", .glo "trees_of", .glo "check_size", .glo "counts_to", .glo "count_over", .glo "trees_over", .glo "pairs_over", .glo "_law_same", .glo "_law_stream", .glo "_law_next", .glo "_law_word", .glo "_law_signs", .glo "_law_counts", .glo "_law_is_tree", .glo "_law_key", .glo "_law_listed", .glo "_law_refused", .glo "_law_large", .glo "law", .free "len", .free "abs", .free "int", .free "max", .free "sum", .free "tuple", .free "list", .free "isinstance", .free "repr", .free "range", .free "all", .int "MAX_COUNTED" 60, .int "MAX_LISTED" 2000, .glo "PergolaError", .glo "NotAllowed", .glo "TooLarge", .glo "Missing", .exc "NotAllowed", .exc "TooLarge", .exm "NotAllowed" "NotAllowed" true, .exm "TooLarge" "TooLarge" true]
open PySem.W in
def excB (K : PySem.W.Frag) (D : Addr) : Bool := decide (findIn K (.ref D) "__getattribute__" = some (some (.builtin "BaseException.__getattribute__"))) && (decide (findIn K (.ref D) "__getattr__" = some none) && (decide (subIn K (.ref D) (.type "BaseException") = some true) && (hasDictIn K D && (decide (findIn K (.ref D) "__class__" = some (some (.builtin "object.__class__"))) && (decide (specialIn K (.builtin "object.__class__") "__get__" = some (some (.builtin "getset_descriptor.__get__"))) && (decide (takesIn K (.builtin "object.__class__") = some true) && decide (mroIn K D (.type "object") = some true)))))))
open PySem.W in
def ex (K : PySem.W.Frag) : Bool := excB K (He.ga K "NotAllowed") && (excB K (He.ga K "TooLarge") && (decide (kitOne K (.ref (He.ga K "NotAllowed")) (.ref (He.ga K "PergolaError")) = some true) && (decide (kitOne K (.ref (He.ga K "TooLarge")) (.ref (He.ga K "PergolaError")) = some true) &&
  (decide (kitAny K (.ref (He.ga K "NotAllowed")) [.ref (He.ga K "TooLarge"), .ref (He.ga K "Missing")] = some false) && decide (kitAny K (.ref (He.ga K "TooLarge")) [.ref (He.ga K "NotAllowed"), .ref (He.ga K "Missing")] = some false)))))
abbrev R : PySem.W.OpenRow := PySem.W.OpenLaw.row PySem.Challenge.rw_pergola_k02_trees_listed_and_counted
abbrev hk : PySem.W.Hook := He.hookX 4 fa fn [] [] ex
def ob (s : PySem.W.SharedT) : He.AlX := He.obsX 4 fa fn [] [] ex (HandSHeadRun.getT s)
theorem ob_eq (s : PySem.W.SharedT) : ob s = hk.obs s.abs := He.obsX_eq (HandSHeadRun.getT_eq s)
theorem run (w : World) : HandSHeadRun.RunEq R (PySem.W.view R.prog [27]) hk ob 3000 ["PergolaError", "NotAllowed", "TooLarge", "Missing", "MAX_COUNTED", "MAX_LISTED", "count_trees", "trees_of", "check_size", "counts_to", "count_over", "trees_over", "pairs_over", "_law_same", "_law_stream", "_law_next", "_law_word", "_law_signs", "_law_counts", "_law_is_tree", "_law_key", "_law_listed", "_law_refused", "_law_large"] w := by
  intro os
  kernel_rfl
theorem excB_ok {K : PySem.W.Frag} {D : Addr} (h : excB K D = true) : ExcC K D := by
  obtain ⟨h1, h⟩ := He.ba h
  obtain ⟨h2, h⟩ := He.ba h
  obtain ⟨h3, h⟩ := He.ba h
  obtain ⟨h4, h⟩ := He.ba h
  obtain ⟨h5, h⟩ := He.ba h
  obtain ⟨h6, h⟩ := He.ba h
  obtain ⟨h7, h8⟩ := He.ba h
  exact ⟨of_decide_eq_true h1, of_decide_eq_true h2, of_decide_eq_true h3, h4, of_decide_eq_true h5, of_decide_eq_true h6, of_decide_eq_true h7, of_decide_eq_true h8⟩
theorem facts {P : Program} {w : World} {K : PySem.W.Frag} {h : Heap} {mg : Str → Option Value} {f : Addr} (X : K.In h) (GN : h.Ns mainGlobals mg) (hfa : mg ("law" : Str) = some (.ref f)) (c : He.SaysX fa fn [] [] ex w h K) :
    ∃ fd : FuncData, (∀ (s : Shared) (v : Value), BindsTo s fd ⟨[v], []⟩ [("script", v)]) ∧ ∀ base : Heap, K.In base → base.Ns mainGlobals mg → FnG P w K mg base 70 f fd ["script"] (spLaw K) := by
  have cd := c.t.d
  obtain ⟨d0, F_cnt⟩ := cd.def_ 0 (d := dOf "count_trees" (top 8)) rfl
  obtain ⟨d1, F_trs⟩ := cd.def_ 1 (d := dOf "trees_of" (top 9)) rfl
  obtain ⟨d2, F_chk⟩ := cd.def_ 2 (d := dOf "check_size" (top 10)) rfl
  obtain ⟨d3, F_cto⟩ := cd.def_ 3 (d := dOf "counts_to" (top 11)) rfl
  obtain ⟨d4, F_cov⟩ := cd.def_ 4 (d := dOf "count_over" (top 12)) rfl
  obtain ⟨d5, F_tov⟩ := cd.def_ 5 (d := dOf "trees_over" (top 13)) rfl
  obtain ⟨d6, F_pov⟩ := cd.def_ 6 (d := dOf "pairs_over" (top 14)) rfl
  obtain ⟨d7, F_same⟩ := cd.def_ 7 (d := dOf "_law_same" (top 16)) rfl
  obtain ⟨d8, F_stream⟩ := cd.def_ 8 (d := dOf "_law_stream" (top 17)) rfl
  obtain ⟨d9, F_next⟩ := cd.def_ 9 (d := dOf "_law_next" (top 18)) rfl
  obtain ⟨d10, F_word⟩ := cd.def_ 10 (d := dOf "_law_word" (top 19)) rfl
  obtain ⟨d11, F_signs⟩ := cd.def_ 11 (d := dOf "_law_signs" (top 20)) rfl
  obtain ⟨d12, F_lcs⟩ := cd.def_ 12 (d := dOf "_law_counts" (top 21)) rfl
  obtain ⟨d13, F_ist⟩ := cd.def_ 13 (d := dOf "_law_is_tree" (top 22)) rfl
  obtain ⟨d14, F_key⟩ := cd.def_ 14 (d := dOf "_law_key" (top 23)) rfl
  obtain ⟨d15, F_lst⟩ := cd.def_ 15 (d := dOf "_law_listed" (top 24)) rfl
  obtain ⟨d16, F_ref⟩ := cd.def_ 16 (d := dOf "_law_refused" (top 25)) rfl
  obtain ⟨d17, F_lrg⟩ := cd.def_ 17 (d := dOf "_law_large" (top 26)) rfl
  obtain ⟨d18, F_law⟩ := cd.def_ 18 (d := dOf "law" (top 27)) rfl
  have m_cnt := He.glo_ok X GN (cd.fact 0 (f := .glo "count_trees") rfl)
  have m_trs := He.glo_ok X GN (cd.fact 1 (f := .glo "trees_of") rfl)
  have m_chk := He.glo_ok X GN (cd.fact 2 (f := .glo "check_size") rfl)
  have m_cto := He.glo_ok X GN (cd.fact 3 (f := .glo "counts_to") rfl)
  have m_cov := He.glo_ok X GN (cd.fact 4 (f := .glo "count_over") rfl)
  have m_tov := He.glo_ok X GN (cd.fact 5 (f := .glo "trees_over") rfl)
  have m_pov := He.glo_ok X GN (cd.fact 6 (f := .glo "pairs_over") rfl)
  have m_same := He.glo_ok X GN (cd.fact 7 (f := .glo "_law_same") rfl)
  have m_stream := He.glo_ok X GN (cd.fact 8 (f := .glo "_law_stream") rfl)
  have m_next := He.glo_ok X GN (cd.fact 9 (f := .glo "_law_next") rfl)
  have m_word := He.glo_ok X GN (cd.fact 10 (f := .glo "_law_word") rfl)
  have m_signs := He.glo_ok X GN (cd.fact 11 (f := .glo "_law_signs") rfl)
  have m_lcs := He.glo_ok X GN (cd.fact 12 (f := .glo "_law_counts") rfl)
  have m_ist := He.glo_ok X GN (cd.fact 13 (f := .glo "_law_is_tree") rfl)
  have m_key := He.glo_ok X GN (cd.fact 14 (f := .glo "_law_key") rfl)
  have m_lst := He.glo_ok X GN (cd.fact 15 (f := .glo "_law_listed") rfl)
  have m_ref := He.glo_ok X GN (cd.fact 16 (f := .glo "_law_refused") rfl)
  have m_lrg := He.glo_ok X GN (cd.fact 17 (f := .glo "_law_large") rfl)
  have e := hfa.symm.trans (He.glo_ok X GN (cd.fact 18 (f := .glo "law") rfl))
  cases e
  have b := FunD.bindsA (ps := ["script"]) F_law fun _ _ _ _ _ _ us hl => match us, hl with | [_], _ => rfl
  have Z : Zs mg := ⟨He.free_ok X GN (cd.fact 19 (f := .free "len") rfl), He.free_ok X GN (cd.fact 20 (f := .free "abs") rfl), He.free_ok X GN (cd.fact 21 (f := .free "int") rfl), He.free_ok X GN (cd.fact 22 (f := .free "max") rfl), He.free_ok X GN (cd.fact 23 (f := .free "sum") rfl), He.free_ok X GN (cd.fact 24 (f := .free "tuple") rfl), He.free_ok X GN (cd.fact 25 (f := .free "list") rfl), He.free_ok X GN (cd.fact 26 (f := .free "isinstance") rfl), He.free_ok X GN (cd.fact 27 (f := .free "repr") rfl), He.free_ok X GN (cd.fact 28 (f := .free "range") rfl), He.free_ok X GN (cd.fact 29 (f := .free "all") rfl)⟩
  obtain ⟨tk1, i1⟩ := He.int_ok X GN (cd.fact 30 (f := .int "MAX_COUNTED" 60) rfl)
  obtain ⟨tk2, i2⟩ := He.int_ok X GN (cd.fact 31 (f := .int "MAX_LISTED" 2000) rfl)
  obtain ⟨xN, kN, bN, tN⟩ := He.exc_ok (cd.fact 36 (f := .exc "NotAllowed") rfl)
  obtain ⟨xT, kT, bT, tT⟩ := He.exc_ok (cd.fact 37 (f := .exc "TooLarge") rfl)
  have hex : ex K = true := c.more
  obtain ⟨q1, hex⟩ := He.ba hex
  obtain ⟨q2, hex⟩ := He.ba hex
  obtain ⟨q3, hex⟩ := He.ba hex
  obtain ⟨q4, hex⟩ := He.ba hex
  obtain ⟨q5, q6⟩ := He.ba hex
  have G : Ex2 K mg (He.ga K "NotAllowed") (He.ga K "TooLarge") (He.ga K "Missing") (He.ga K "PergolaError") :=
    { mc := ⟨_, i1, tk1, rfl⟩, ml := ⟨_, i2, tk2, rfl⟩, gN := He.glo_ok X GN (cd.fact 33 (f := .glo "NotAllowed") rfl), gT := He.glo_ok X GN (cd.fact 34 (f := .glo "TooLarge") rfl), gM := He.glo_ok X GN (cd.fact 35 (f := .glo "Missing") rfl), gP := He.glo_ok X GN (cd.fact 32 (f := .glo "PergolaError") rfl),
      xN := xN, xT := xT, kN := kN, kT := kT, bN := bN, bT := bT, tN := tN, tT := tT, eN := He.exm_ok (cd.fact 38 (f := .exm "NotAllowed" "NotAllowed" true) rfl), eT := He.exm_ok (cd.fact 39 (f := .exm "TooLarge" "TooLarge" true) rfl),
      cN := excB_ok q1, cT := excB_ok q2, iN := of_decide_eq_true q3, iT := of_decide_eq_true q4, aN := of_decide_eq_true q5, aT := of_decide_eq_true q6 }
  refine ⟨d18, fun s v => b s [v] rfl, fun base _ _ => ?_⟩
  have c_next : Cal P w K mg base 1 "_law_next" spNext [] := ok_next F_next m_next Z
  have c_word := ok_word F_word m_word Z c_next
  have c_signs := ok_signs F_signs m_signs Z c_next c_word
  have c_stream : Cal P w K mg base 1 "_law_stream" (spStream K) [] := ok_stream F_stream m_stream Z
  have c_cov : Cal P w K mg base 1 "count_over" (spCov K) [] := ok_cov F_cov m_cov Z
  have c_cto := ok_cto F_cto m_cto Z c_cov
  have c_pov : Cal P w K mg base 1 "pairs_over" (spPov K) [] := ok_pov F_pov m_pov Z
  have c_tov := ok_tov F_tov m_tov Z c_pov
  have x_chk : CalX P w K mg base 1 "check_size" (spChk (He.ga K "NotAllowed")) := ok_chk F_chk m_chk Z G
  have x_cnt := ok_cnt F_cnt m_cnt Z x_chk c_cto
  have x_trs := ok_trs F_trs m_trs Z G x_chk c_cto c_tov
  have c_lcs : Cal P w K mg base 1 "_law_counts" (spLcs K) [] := ok_lcs F_lcs m_lcs Z
  have c_ist : Cal P w K mg base 61 "_law_is_tree" (spIst K 60) [] := ok_ist F_ist m_ist Z 60
  have c_key : Cal P w K mg base 61 "_law_key" (spKey K 60) [] := ok_key F_key m_key Z 60
  have c_lst := ok_lst F_lst m_lst Z x_trs c_ist c_key
  have c_ref := ok_ref F_ref m_ref Z G x_cnt x_trs
  have c_lrg := ok_lrg F_lrg m_lrg Z G x_trs
  exact ok_law F_law F_same m_same Z G c_stream c_next c_signs c_lcs x_cnt c_lst c_lrg c_ref
end K02
open PySem PySem.W PySem.Calls PyProof.Rows
theorem PySem.Challenge.cw_pergola_k02_trees_listed_and_counted_holds : PySem.Challenge.rw_pergola_k02_trees_listed_and_counted.Holds := by
  w_on; o_law
  refine HandSHeadRun.head_any (r := OpenLaw.row PySem.Challenge.rw_pergola_k02_trees_listed_and_counted) (q := view (OpenLaw.row PySem.Challenge.rw_pergola_k02_trees_listed_and_counted).prog [27]) (H := K02.hk) (ob := K02.ob) (M := 3000) (loose := ["PergolaError", "NotAllowed", "TooLarge", "Missing", "MAX_COUNTED", "MAX_LISTED", "count_trees", "trees_of", "check_size", "counts_to", "count_over", "trees_over", "pairs_over", "_law_same", "_law_stream", "_law_next", "_law_word", "_law_signs", "_law_counts", "_law_is_tree", "_law_key", "_law_listed", "_law_refused", "_law_large"]) (d := HandSHeadRun.topDef (OpenLaw.row PySem.Challenge.rw_pergola_k02_trees_listed_and_counted).prog 27) (kwd := []) K02.ob_eq
    (by kernel_rfl) (fun s => by kernel_rfl) K02.run (by kernel_rfl) (by kernel_rfl) (by kernel_rfl) (by rfl) (by first | assumption | decide +kernel) (by decide +kernel) ⟨rfl, rfl, rfl, rfl, rfl, by decide +kernel⟩ ?hw ?hc
  case hw => w_witness2
  case hc =>
    refine Att.attach_call (l := PySem.Challenge.rw_pergola_k02_trees_listed_and_counted) (n := 63) rfl (by kernel_rfl) fun w s₀ s₁ mg mb fa o pm cd doc a vs ns G Y ho hd hcd hmg0 hobj hints hlen hg => ?_
    obtain ⟨K, KX, c⟩ := Y
    have hmg : mg ("law" : PySem.Str) = some (.ref fa) := by
      have e : (HandSHeadRun.topDef (OpenLaw.row PySem.Challenge.rw_pergola_k02_trees_listed_and_counted).prog 27).name = ("law" : PySem.Str) := by kernel_rfl
      rw [← e]
      exact hmg0
    obtain ⟨fd, hb, hF⟩ := K02.facts (P := (PySem.Challenge.rw_pergola_k02_trees_listed_and_counted).prog) (w := w) KX G.T.g hmg c
    exact Pg.law_callG KX G.T.g G.T.b G.T.builtins G.T.nolimit hg hobj hints (Nat.le_trans hlen (by decide)) (k := 70) ⟨rfl, by decide, by decide⟩ rfl hF hb (fun H hS => ⟨a, ns, rfl, hS, hlen, fun _ => rfl⟩)

