import PyProof.Rows.All
import Wide.All
import OpenK.AllK
import Wide.FinOn
import PyProof.EqAt
import PyProof.EqKinds
import PyProof.TupleCall
import KE.KIsAll
import KE.KExcIs
import HandS.ForMost
import HandS.Exc
import HandS.ExcInit
import HandS.Defaults
import PyProof.StrLawsRepr
import KE.KStateDown
import Lean
import HandS.Head0
import HandS.Head1
import HandS.Head2
import HandS.HeadEnd
import HandS.HeadHook1
import HandS.HeadHook2
import HandS.TupSets
import HandS.SetKeys
import HandS.SortRule
import HandS.Conv
import KE.KDictPairs
import HandS.Style
import HandS.Text
import PySem.Challenge.RW_oddlamps_k06_whole_settings_and_ready_la
import HandS.Deep
import HandS.IsInst
import HandS.DictComp
import HandS.More
import HandS.WordsDict
import HandS.Zip
import HandS.MakeKw
import HandS.ExcValue
import HandS.WideBits
import HandS.Wide
import PyProof.Rows.RuleB_pow
import HandS.Codes
import HandS.TryOnly
import HandS.DictSub
import HandS.Small
import HandS.Walk
import HandS.HeadHook3
import PyProof.DictUpdate
import HandS.DictEq
import HandS.SlotsOwn
import HandS.Set
import KE.BitLaws
import PyProof.Rows.StrMul
import HandS.ListItems
set_option Elab.async false
set_option linter.all false
set_option maxRecDepth 100000
set_option maxHeartbeats 0
namespace PySem
namespace KWX
open PySem.W PySem.Calls PyProof.Rows PySem.HandSPX
section
variable {M : Model} {A : Around} {E : Value → Shared → Prop} {h : Heap} {g : Array GenState} {d : Drawn} {t : Nat} {os : OsState} {nm q : Str} {C N : Addr} {bs bm bmB : List Value} {hdct : Bool} {sn : List Str} {sub : List Value}
variable {ab : Bool} {col : Option Bool} {dd : Option Addr} {k0 k1 k2 k3 k5 : Option Value} {B newId initId : String}
theorem kw_new_checked (F : ExcBaseFacts B newId initId bmB)
    (hT : ∀ X : String, bm.contains (.type X) = bmB.contains (.type X))
    {rest : List Value} {kn : Str} {kv : Value} {Q : Unit → Shared → Prop}
    (hC : h.get? C = some
      (excClassObj nm q C N bs bm hdct sn sub ab col dd k0 k1 k2 k3 k5 newId))
    (hq : Q () ⟨h, g, d, t, os⟩) :
    wpAny M A (checkBuiltinCall newId ⟨.ref C :: rest, [(kn, kv)]⟩) Q E
      ⟨h, g, d, t, os⟩ := by
  have in1 : (Value.ref C :: bm).contains (.type B) = true := by
    rw [List.contains_cons, hT, F.hasB, Bool.or_true]
  have nostar := F.noStar
  simp only [checkBuiltinCall, F.newKind, F.newSplit, F.newRow]
  repeat (first
    | refine wpAny_loadPart_at hC ?_
    | (refine wpAny_isSubtype_exc hC ?_; rw [in1])
    | refine wpAny_staticBase_exc hC ?_
    | refine wpAny_madeBy_exc hC ?_
    | simp only [bne_self_eq_false, Bool.false_eq_true, if_false]
    | wp_step)
  exact hq
end
section
variable {prog : Program} {w : World} {A : Around} {E : Value → Shared → Prop} {R : Result → Shared → Prop} {h : Heap} {g : Array GenState} {d : Drawn} {t : Nat} {os : OsState} {nm q : Str} {C N : Addr} {bs bm bmB : List Value}
variable {hdct : Bool} {sn : List Str} {sub : List Value} {ab : Bool} {col : Option Bool} {dd : Option Addr} {k0 k1 k2 k3 k5 : Option Value} {B newId initId : String}
theorem kw_new (F : ExcBaseFacts B newId initId bmB)
    (hT : ∀ X : String, bm.contains (.type X) = bmB.contains (.type X))
    {rest : List Value} {kn : Str} {kv : Value}
    (hC : h.get? C = some
      (excClassObj nm q C N bs bm hdct sn sub ab col dd k0 k1 k2 k3 k5 newId))
    (hq : R (.ok (.ret (.ref (h.objs.size + 1))))
      ⟨(h.push (kdv_tup rest)).push (excO C h.objs.size), g, d, t, os⟩)
    (small : rest.length ≤ sizeLine) :
    codeAny (model prog w) A (.builtin newId ⟨.ref C :: rest, [(kn, kv)]⟩) R
      ⟨h, g, d, t, os⟩ := by
  have ends := F.ends
  have in1 : (Value.ref C :: bm).contains (.type B) = true := by
    rw [List.contains_cons, hT, F.hasB, Bool.or_true]
  have in2 : (Value.ref C :: bm).contains (.type "AttributeError") = false := by
    rw [List.contains_cons, hT, F.noAttr]
    rfl
  have in3 : (Value.ref C :: bm).contains (.type "NameError") = false := by
    rw [List.contains_cons, hT, F.noName]
    rfl
  refine codeAny_builtinAt F.entry ?_
  unfold Builtin.«BaseException.__new__»
  refine wpAt_bind ?_
  show wpAt _ _ _ (stack >>= _) _ _ _
  refine wpAt_bind (wpAt_stack fun p below => wpAt_of_wpAny ?_)
  wp_walk
  refine wpAt_of_wpAny ?_
  rw [F.owner]
  repeat (first
    | with_reducible refine wpAny_madeHere_exc F.canon hC ?_
    | with_reducible refine wpAny_loadPart_at hC ?_
    | (with_reducible refine wpAny_isSubtype_exc hC ?_
       first | rw [in1] | rw [in2] | rw [in3])
    | wp_step)
  show R _ _
  rw [Heap.size_push]
  exact hq
theorem kw_type_call (F : ExcBaseFacts B newId initId bmB)
    (hT : ∀ X : String, bm.contains (.type X) = bmB.contains (.type X))
    {rest : List Value} {kn : Str} {kv : Value} {fI : Addr} {Q : Fin → Shared → Prop}
    (hC : h.get? C = some
      (excClassObj nm q C N bs bm hdct sn sub ab col dd k0 k1 k2 k3 k5 newId))
    (hi : W.Looks (model prog w) h (typeLookup (.ref C) "__init__") (some (.ref fI)))
    (hb : ∀ self, W.Looks (model prog w) h (bindSpecial (.ref fI) self) (.ref fI, [self]))
    (small : rest.length ≤ sizeLine)
    (hq : codeAny (model prog w) A (.call (.ref fI) ⟨.ref (h.objs.size + 1) :: rest, [(kn, kv)]⟩)
      (fun r s' => match r with
        | .ok (.ret v) => v = .none ∧ Q (.done (.ret (.ref (h.objs.size + 1)))) s'
        | .ok _ => False
        | .error e => E e s')
      ⟨(h.push (W.kdv_tup rest)).push (excO C h.objs.size), g, d, t, os⟩) :
    wpAny (model prog w) A (Builtin.«type.__call__» ⟨.ref C :: rest, [(kn, kv)]⟩) Q E
      ⟨h, g, d, t, os⟩ := by
  repeat (first
    | with_reducible refine wpAny_loadPart_at hC ?_
    | with_reducible refine wpAny_madeBy_exc hC ?_
    | wp_step)
  refine codeAny_call_builtin_code (Code.quiet_builtin _ F.quiet) (kw_new_checked F hT hC ?_)
  refine kw_new F hT hC ?_ small
  show wpAny _ _ _ _ _ _
  have old : ∀ b o, h.get? b = some o →
      ((h.push (W.kdv_tup rest)).push (excO C h.objs.size)).get? b = some o :=
    fun b o e => Heap.get?_push_of_some _ (Heap.get?_push_of_some _ e)
  have hC2 := old _ _ hC
  have he : ((h.push (W.kdv_tup rest)).push (excO C h.objs.size)).get? (h.objs.size + 1)
      = some (excO C h.objs.size) := by heap_get
  have self1 : (Value.ref C :: bm).contains (.ref C) = true := by simp
  have lookI := hi.keeps old
  have bindI := (hb (.ref (h.objs.size + 1))).keeps old
  unfold isInstance
  repeat (first
    | with_reducible refine wpAny_loadPart_at he ?_
    | (with_reducible refine wpAny_isSubtype_exc hC2 ?_
       rw [self1])
    | wp_step)
  show wpAny _ _ (typeLookup (.ref C) _) _ _ _
  refine lookI.at ?_
  refine wpAny_holding (wpAny_bind (bindI.at ?_))
  refine wpAny_bind (wpAny_call (codeAny_mono hq fun r s' z => ?_))
  rcases r with e | (v | _ | _ | _) <;> first | exact z | exact z.elim | skip
  obtain ⟨rfl, z⟩ := z
  first
    | exact wpAny_pure (wpAny_pure z)
    | (wp_walk; exact z)
theorem kw_call (F : ExcBaseFacts B newId initId bmB)
    (hT : ∀ X : String, bm.contains (.type X) = bmB.contains (.type X))
    {rest : List Value} {kn : Str} {kv : Value} {fI : Addr}
    (hC : h.get? C = some
      (excClassObj nm q C N bs bm hdct sn sub ab col dd k0 k1 k2 k3 k5 newId))
    (hi : W.Looks (model prog w) h (typeLookup (.ref C) "__init__") (some (.ref fI)))
    (hb : ∀ self, W.Looks (model prog w) h (bindSpecial (.ref fI) self) (.ref fI, [self]))
    (small : rest.length ≤ sizeLine)
    (hq : codeAny (model prog w) (A.under (.builtin "type.__call__" ⟨.ref C :: rest, [(kn, kv)]⟩))
      (.call (.ref fI) ⟨.ref (h.objs.size + 1) :: rest, [(kn, kv)]⟩)
      (W.InitBack (h.objs.size + 1) R)
      ⟨(h.push (W.kdv_tup rest)).push (excO C h.objs.size), g, d, t, os⟩) :
    codeAny (model prog w) A (.call (.ref C) ⟨rest, [(kn, kv)]⟩) R ⟨h, g, d, t, os⟩ := by
  have f1 := tc_lookup
  have f2 := tc_bind (.ref C)
  have isT : (⟨h, g, d, t, os⟩ : Shared).TypeIs (.ref C) "type" := ⟨_, hC, rfl⟩
  refine codeAny_of_tree ?_
  show wpAny _ _ (callAny (.ref C) _) _ _ _
  repeat (any_goals (first
    | assumption
    | with_reducible refine wpAny_loadPart_at hC ?_
    | wp_step))
  refine ⟨rfl, ?_⟩
  refine codeAny_call_builtin_at (Code.quiet_builtin _ (by decide +kernel)) entry_typeCall
    (wpAny_check_type_call_sub hC (kw_type_call F hT hC hi hb small ?_))
  refine codeAny_mono hq fun r s' z => ?_
  rcases r with e | (v | _ | _ | _) <;> exact z
end
end KWX
end PySem
/-! errors of the program's own, with a field value, as values -/
namespace K1
open PySem PySem.Spec PyProof.Rows L2
abbrev Frag := PySem.W.Frag
abbrev St := L2.St
/-- what the written part says of an error's class -/
structure EC (K : Frag) (C : Addr) : Prop where
  o : OexC K C
  hg : PySem.W.findIn K (.ref C) "__getattribute__" = some (some (.builtin "BaseException.__getattribute__"))
  hk : PySem.W.findIn K (.ref C) "__getattr__" = some none
  ha : PySem.W.findIn K (.ref C) "__class__" = some (some (.builtin "object.__class__"))
  hn : PySem.W.specialIn K (.builtin "object.__class__") "__get__" = some (some (.builtin "getset_descriptor.__get__"))
  ht : PySem.W.takesIn K (.builtin "object.__class__") = some true
  hm : PySem.W.mroIn K C (.type "object") = some true
  hd : PySem.W.hasDictIn K C = true
  nv : PySem.W.findIn K (.ref C) "value" = some none
theorem EC.cls {K : Frag} {C : Addr} (T : EC K C) : (PySem.W.clsIn K C).isSome = true := by
  obtain ⟨nm, q, N, bs, bm, sn, sub, ab, col, dd, k0, k1, k2, k3, k5, hC, hbm⟩ := T.o.cls
  unfold PySem.W.clsIn
  rw [hC]
  rfl
/-- an error of the class at C stands at a, its dict (where it has one) too -/
def ErrD (H : Hp) (a C : Addr) (d : Option Addr) : Prop := H a = some (exo a C d) ∧ ∀ dx, d = some dx → ∃ fs, H dx = some (exd dx fs)
/-- an error whose field value holds v -/
def ErrAt (H : Hp) (a C : Addr) (v : V) : Prop := ∃ dx, H a = some (exo a C (some dx)) ∧ H dx = some (exd dx [(("value" : Str), v)])
theorem ErrAt.d {H : Hp} {a C : Addr} {v : V} (e : ErrAt H a C v) : ∃ d, ErrD H a C d := by
  obtain ⟨dx, e1, e2⟩ := e
  exact ⟨some dx, e1, fun dy q => by cases q; exact ⟨_, e2⟩⟩
theorem ErrAt.same {H H' : Hp} {a C : Addr} {v : V} (s : Same H H') (e : ErrAt H a C v) : ErrAt H' a C v := by
  obtain ⟨dx, e1, e2⟩ := e
  exact ⟨dx, s _ _ e1, s _ _ e2⟩
theorem ErrD.same {H H' : Hp} {a C : Addr} {d : Option Addr} (s : Same H H') (e : ErrD H a C d) : ErrD H' a C d :=
  ⟨s _ _ e.1, fun dx q => let ⟨fs, h⟩ := e.2 dx q; ⟨fs, s _ _ h⟩⟩
section
variable {X : Cx} {pins : List (Addr × Obj)} {σ : St} {H : Hp} {s : Shared}
theorem err_inst {a C : Addr} {d : Option Addr} (I : Inv X pins σ H s) (e : ErrD H a C d) : ∃ (ox : Obj) (od : Option Obj), PySem.W.InstAt s.heap a ox C od := by
  obtain ⟨t1, ho⟩ := exo_at I.hok e.1
  cases d with
  | none => exact ⟨_, none, ho, rfl, rfl, trivial⟩
  | some dx =>
    obtain ⟨fs, hd⟩ := e.2 dx rfl
    obtain ⟨mA, ⟨oD, es, ep, hoD, _⟩, _⟩ := exd_at I.hok hd
    exact ⟨_, some oD, ho, rfl, rfl, hoD⟩
/-- isinstance(error, class) -/
def rIsX (K : Frag) : List V → Hp → VK → Prop := fun xs H Q => ∃ (a C : Addr) (d : Option Addr) (c : V) (cv : Value) (b : Bool),
  xs = [.ref a, c] ∧ EC K C ∧ ErrD H a C d ∧ (∀ u, RelV c u → u = cv) ∧ PySem.W.kitOne K (.ref C) cv = some b ∧ Q (.bl b) H
theorem call_isX : CallR X (.builtin "isinstance") (rIsX X.K) := by
  intro pins s σ H xs us Q I r h
  obtain ⟨a, C, d, c, cv, b, rfl, T, e, hcv, ek, q⟩ := h
  cases r with
  | cons rx rr =>
    cases rr with
    | cons rt rr =>
      cases rr
      cases rx
      have ec := hcv _ rt
      subst ec
      obtain ⟨ox, od, J⟩ := err_inst I e
      exact PySem.W.kia_one (PySem.W.kitx_exc (ox := ox) (od := od) T.cls T.hg T.hk T.o.exC T.ha T.hn T.ht T.hm) I.kIn J ek (fun z => nomatch z) fun tk => ⟨.bl b, H, I.kept (t' := tk) fun _ _ z => z, rfl, q⟩
/-- error.value -/
def tValOf (K : Frag) (te : TE) : TE := fun σ H Q => te σ H fun x H1 => ∃ (a C : Addr) (v : V), x = .ref a ∧ EC K C ∧ ErrAt H1 a C v ∧ Q v H1
theorem pe_valOf {e : Expr} {te : TE} {pos : Pos} (he : PE X e te) (hb : attributeBase e "value" X.env (eval e X.env) = eval e X.env := by rfl) : PE X (.Attribute e "value" pos) (tValOf X.K te) := by
  refine ⟨fun pins s σ H Q I h => ?_⟩
  refine attr_of hb (thn (he.run pins s σ H _ I h) fun u s1 hh => ?_)
  obtain ⟨x, H1, I1, rx, a, C, v, ex, T, ⟨dx, e1, e2⟩, q⟩ := hh
  subst ex
  obtain rfl : u = Value.ref a := rx
  obtain ⟨t1, ho⟩ := exo_at I1.hok e1
  obtain ⟨mA, hns, hr⟩ := exd_at I1.hok e2
  obtain ⟨od, hod, hl⟩ := lookIn_ns hns
  have l : List.lookup ("value" : Str) [(("value" : Str), v)] = some v := by simp [List.lookup]
  obtain ⟨w, hw, rw'⟩ := RelO.some_of (v := v) (o := mA "value") (by rw [← l]; exact hr "value")
  have J : PySem.W.InstAt s1.heap a { cls := .ref C, dict := some dx, data := .fields #[.ref t1, .none, .none, .none, .bool false, .none] } C (some od) := ⟨ho, rfl, rfl, hod⟩
  exact PySem.HandSPX.exc_get I1.kIn J T.hg T.hk T.o.exC (PySem.W.findObj_own T.hd T.nv rfl (by rw [hl, hw])) (handed_of rw') ⟨v, H1, I1.tok _, rw', q⟩
end
/-! ### the making -/
def spInit (C : Addr) : Sp := fun vs H Q _ => ∃ (a : Addr) (v : V), vs = [.ref a, v] ∧ H a = some (exo a C none) ∧ ∀ dx, H dx = none → dx ≠ a → Q .non (upd (upd H dx (exd dx [(("value" : Str), v)])) a (exo a C (some dx)))
theorem spInit_end {C a : Addr} {v : V} {H : Hp} (n : H a = none) {Q : VK} {E : XK} (h : ∀ H', Same H H' → ErrAt H' a C v → Q .non H') : spInit C [.ref a, v] (upd H a (exo a C none)) Q E := by
  refine ⟨a, v, rfl, upd_same, fun dx hd ne => h _ (fun b o e => ?_) ⟨dx, upd_same, ?_⟩⟩
  · have hdx : H dx = none := by rw [upd_ne ne] at hd; exact hd
    rw [upd_ne (ne_of_none e n), upd_ne (ne_of_none e hdx), upd_ne (ne_of_none e n)]
    exact e
  · rw [upd_ne ne, upd_same]
/-- X(e) -/
def tMkE (C : Addr) (te : TE) : TE := fun σ H Q => te σ H fun v H1 => ∀ a H', Same H1 H' → H1 a = none → ErrAt H' a C v → Q (.ref a) H'
section
variable {X : Cx} {C fI : Addr} {k : Nat} {fd : FuncData}
/-- the value of X(..), its __init__ run -/
theorem made_end {pins : List (Addr × Obj)} {σ : St} {H1 : Hp} {hp : Heap} {g : Array GenState} {dr : Drawn} {tk : Nat} {os : OsState} {us : List Value} (I1 : Inv X pins σ H1 ⟨hp, g, dr, tk, os⟩) :
    H1 (hp.objs.size + 1) = none ∧ Inv X pins σ (upd H1 (hp.objs.size + 1) (exo (hp.objs.size + 1) C none)) ⟨(hp.push (PySem.W.kdv_tup us)).push (PySem.HandSPX.excO C hp.objs.size), g, dr, tk, os⟩ := by
  have hz : hp.objs.size ≤ hp.objs.size + 1 := Nat.le_succ _
  have hget : ((hp.push (PySem.W.kdv_tup us)).push (PySem.HandSPX.excO C hp.objs.size)).get? (hp.objs.size + 1) = some (PySem.HandSPX.excO C hp.objs.size) := by heap_get
  exact ⟨I1.hok.fresh hz, I1.laid (t' := tk) (a := hp.objs.size + 1) (o := exo (hp.objs.size + 1) C none) (h' := (hp.push (PySem.W.kdv_tup us)).push (PySem.HandSPX.excO C hp.objs.size))
    (fun b o e => Heap.get?_push_of_some _ (Heap.get?_push_of_some _ e)) hz (exo_ok hget)⟩
theorem run_mkE {pins : List (Addr × Obj)} {σ : St} {H1 : Hp} {s1 : Shared} {Q : VK} {us ds : List Value} {vs dvs : List V} {v : V} (T : EC X.K C) (iC : PySem.W.findIn X.K (.ref C) "__init__" = some (some (.ref fI))) (tI : PySem.W.typeIn X.K (.ref fI) = some (.type "function"))
    (F1 : FnOk X.prog X.w X.K X.mg X.base CX0 k fI fd ["self", "value"] (spInit C)) (hr : Room (k + 1) X.A) (hb : Binds X.K fd ["self", "value"] ds) (hd : Vals dvs ds) (I1 : Inv X pins σ H1 s1) (r1 : Vals vs us) (hv : vs ++ dvs = [v])
    (q : ∀ a H', Same H1 H' → H1 a = none → ErrAt H' a C v → Q (.ref a) H') : wpAny (model X.prog X.w) X.A (call (.ref C) us) (EP X pins σ Q) X.xe s1 := by
  obtain ⟨nm, qn, N, bs, bm, sn, sub, ab, col, dd, k0, k1, k2, k3, k5, hC, hbm⟩ := T.o.cls
  obtain ⟨hp, g, dr, tk, os⟩ := s1
  obtain ⟨hn, I2⟩ := made_end (C := C) (us := us) I1
  have hq : spInit C (.ref (hp.objs.size + 1) :: (vs ++ dvs)) (upd H1 (hp.objs.size + 1) (exo (hp.objs.size + 1) C none)) (fun v H2 => v = .non ∧ Q (.ref (hp.objs.size + 1)) H2) (fun _ _ _ => False) := by
    rw [hv]
    exact spInit_end hn fun H' sm e => ⟨rfl, q _ H' sm hn e⟩
  have r2 : Vals (V.ref (hp.objs.size + 1) :: (vs ++ dvs)) (Value.ref (hp.objs.size + 1) :: (us ++ ds)) := .cons rfl (r1.append hd)
  have hl : (Value.ref (hp.objs.size + 1) :: us ++ ds).length = (["self", "value"] : List Str).length := by
    have e := r2.length
    rw [F1.len _ _ _ _ hq] at e
    exact e.symm
  have hus : us.length ≤ sizeLine := by
    have e : us.length + ds.length = 1 := by simpa using hl
    rw [sizeLine_eq]
    omega
  refine wpAny_call (PySem.HandSPX.call_own F.excBase_ValueError (fun Y => PySem.HandSPX.refsVE_contains Y bm hbm) (I1.kIn _ _ hC) (PySem.W.looks_findIn I1.kIn iC) (fun self => PySem.W.bind_fn I1.kIn self tI) hus
    (codeAny_mono (F1.run _ X.stack _ _ ⟨Value.ref (hp.objs.size + 1) :: us, []⟩ (Value.ref (hp.objs.size + 1) :: (us ++ ds)) _ _ (fun _ _ _ => False) (hr.make C us []) (I2.env0.make C us []) (hb _ (Value.ref (hp.objs.size + 1) :: us) I2.kIn hl) r2 hq) fun r s' hq' => ?_))
  cases r with
  | error er => exact hq'.elim
  | ok fl =>
    cases fl with
    | ret u =>
      obtain ⟨v', H', I3, rv, ev, q3⟩ := I2.after hq'
      subst ev
      exact ⟨rv, V.ref (hp.objs.size + 1), H', I3, rfl, q3⟩
    | next => exact hq'.elim
    | brk => exact hq'.elim
    | cont => exact hq'.elim
theorem run_mkEK {pins : List (Addr × Obj)} {σ : St} {H1 : Hp} {s1 : Shared} {Q : VK} {u : Value} {v : V} (T : EC X.K C) (iC : PySem.W.findIn X.K (.ref C) "__init__" = some (some (.ref fI))) (tI : PySem.W.typeIn X.K (.ref fI) = some (.type "function"))
    (F1 : FnOk X.prog X.w X.K X.mg X.base CX0 k fI fd ["self", "value"] (spInit C)) (hr : Room (k + 1) X.A) (hb : ∀ (s : Shared) (x y : Value), X.K.In s.heap → BindsTo s fd ⟨[x], [(("value" : Str), y)]⟩ ((["self", "value"] : List Str).zip [x, y])) (I1 : Inv X pins σ H1 s1) (r1 : RelV v u)
    (q : ∀ a H', Same H1 H' → H1 a = none → ErrAt H' a C v → Q (.ref a) H') : wpAny (model X.prog X.w) X.A (call (.ref C) [] [(("value" : Str), u)]) (EP X pins σ Q) X.xe s1 := by
  obtain ⟨nm, qn, N, bs, bm, sn, sub, ab, col, dd, k0, k1, k2, k3, k5, hC, hbm⟩ := T.o.cls
  obtain ⟨hp, g, dr, tk, os⟩ := s1
  obtain ⟨hn, I2⟩ := made_end (C := C) (us := []) I1
  have hq : spInit C [.ref (hp.objs.size + 1), v] (upd H1 (hp.objs.size + 1) (exo (hp.objs.size + 1) C none)) (fun v H2 => v = .non ∧ Q (.ref (hp.objs.size + 1)) H2) (fun _ _ _ => False) :=
    spInit_end hn fun H' sm e => ⟨rfl, q _ H' sm hn e⟩
  have r2 : Vals [V.ref (hp.objs.size + 1), v] [Value.ref (hp.objs.size + 1), u] := .cons rfl (.cons r1 .nil)
  refine wpAny_call (PySem.KWX.kw_call F.excBase_ValueError (fun Y => PySem.HandSPX.refsVE_contains Y bm hbm) (I1.kIn _ _ hC) (PySem.W.looks_findIn I1.kIn iC) (fun self => PySem.W.bind_fn I1.kIn self tI) (Nat.zero_le _)
    (codeAny_mono (F1.run _ X.stack _ _ ⟨[Value.ref (hp.objs.size + 1)], [(("value" : Str), u)]⟩ [Value.ref (hp.objs.size + 1), u] _ _ (fun _ _ _ => False) (hr.make C [] _) (I2.env0.make C [] _) (hb _ _ _ I2.kIn) r2 hq) fun r s' hq' => ?_))
  cases r with
  | error er => exact hq'.elim
  | ok fl =>
    cases fl with
    | ret u =>
      obtain ⟨v', H', I3, rv, ev, q3⟩ := I2.after hq'
      subst ev
      exact ⟨rv, V.ref (hp.objs.size + 1), H', I3, rfl, q3⟩
    | next => exact hq'.elim
    | brk => exact hq'.elim
    | cont => exact hq'.elim
end
/-- all that the three ways of making ask of a class -/
structure Mks (X : Cx) (x : Str) (C : Addr) : Prop where
  ec : EC X.K C
  gC : X.mg x = some (.ref C)
  mks : ∃ (fI : Addr) (fd : FuncData) (k : Nat) (ds : List Value), PySem.W.findIn X.K (.ref C) "__init__" = some (some (.ref fI)) ∧ PySem.W.typeIn X.K (.ref fI) = some (.type "function") ∧ FnOk X.prog X.w X.K X.mg X.base CX0 k fI fd ["self", "value"] (spInit C) ∧ k ≤ 1 ∧
    Binds X.K fd ["self", "value"] [] ∧ Vals [V.non] ds ∧ Binds X.K fd ["self", "value"] ds ∧ ∀ (s : Shared) (x y : Value), X.K.In s.heap → BindsTo s fd ⟨[x], [(("value" : Str), y)]⟩ ((["self", "value"] : List Str).zip [x, y])
section
variable {X : Cx} {C : Addr} {x : Str} {e : Expr} {te : TE} {p pos kp : Pos}
theorem pe_mkE (T : Mks X x C) (hr : Room 2 X.A) (he : PE X e te) (hg : Gl X x := by rfl) (hdb : (x == ("__debug__" : Str)) = false := by decide) (hs : starEach [e] X.env = (false, eval e X.env) :: starEach [] X.env := by rfl)
    (hpl : (backTo pos (starEach [] X.env)).any (·.1) = false := by rfl) : PE X (.Call (.Name x p) [e] [] pos) (tMkE C te) := by
  obtain ⟨fI, fd, k, ds, iC, tI, F1, hk, b1, rd, b0, bk⟩ := T.mks
  refine ⟨fun pins s σ H Q I h => ?_⟩
  refine wpAny_Call_Name_kw (ld_glob I hg T.gC ?_ hdb)
  refine PySem.W.callWith_K (h₀ := X.base) I.ok.mod.kin T.ec.o.kC ?_ hs hpl
  rw [hs]
  refine Calls.spliced_cons (thn (he.run pins s σ H _ I h) fun u s1 hh => ?_)
  obtain ⟨v, H1, I1, r1, q⟩ := hh
  refine Calls.spliced_nil ⟨I1.kIn, ?_⟩
  exact run_mkE T.ec iC tI F1 (hr.mono (by omega)) b1 .nil I1 (.cons r1 .nil) rfl q
/-- X() -/
def tMk0 (C : Addr) : TE := fun _ H Q => ∀ a H', Same H H' → H a = none → ErrAt H' a C .non → Q (.ref a) H'
theorem pe_mk0 (T : Mks X x C) (hr : Room 2 X.A) (hg : Gl X x := by rfl) (hdb : (x == ("__debug__" : Str)) = false := by decide) : PE X (.Call (.Name x p) [] [] pos) (tMk0 C) := by
  obtain ⟨fI, fd, k, ds, iC, tI, F1, hk, b1, rd, b0, bk⟩ := T.mks
  refine ⟨fun pins s σ H Q I h => ?_⟩
  refine wpAny_Call_Name_kw (ld_glob I hg T.gC ?_ hdb)
  exact PySem.W.callWith_K0 I.kIn T.ec.o.kC (run_mkE T.ec iC tI F1 (hr.mono (by omega)) b0 rd I .nil rfl h)
/-- X(value=e) -/
theorem pe_mkEK (T : Mks X x C) (hr : Room 2 X.A) (he : PE X e te) (hg : Gl X x := by rfl) (hdb : (x == ("__debug__" : Str)) = false := by decide) (hks : (backToKw pos (keywordEach [⟨some "value", e, kp⟩] X.env)).filterMap (·.1) = [("value" : Str)] := by rfl)
    (hall : (backToKw pos (keywordEach [⟨some "value", e, kp⟩] X.env)).all (·.1.isSome) = true := by rfl) (hpl : ((backTo pos (starEach [] X.env)).any (·.1) || (backToKw pos (keywordEach [⟨some "value", e, kp⟩] X.env)).any (·.1.isNone)) = false := by rfl) :
    PE X (.Call (.Name x p) [] [⟨some "value", e, kp⟩] pos) (tMkE C te) := by
  obtain ⟨fI, fd, k, ds, iC, tI, F1, hk, b1, rd, b0, bk⟩ := T.mks
  refine ⟨fun pins s σ H Q I h => ?_⟩
  refine wpAny_Call_Name_kw (ld_glob I hg T.gC ?_ hdb)
  refine PySem.W.callWith_KW0 (h₀ := X.base) I.ok.mod.kin T.ec.o.kC hall ?_ hpl
  show wpAny _ _ (evalAll ((do let v ← eval e X.env; standAt pos; pure v) :: [])) _ _ s
  refine wpAny_evalAll_cons (wpAny_bind (thn (he.run pins s σ H _ I h) fun u s1 hh => wpAny_bind (wpAny_standAt (wpAny_pure ?_))))
  obtain ⟨v, H1, I1, r1, q⟩ := hh
  refine wpAny_evalAll_nil ⟨I1.kIn, ?_⟩
  rw [hks]
  exact run_mkEK T.ec iC tI F1 (hr.mono (by omega)) bk I1 r1 q
end
/-! ### __init__ -/
section
variable {P : Program} {w : World} {K : Frag} {mg : Str → Option Value} {base : Heap}
theorem ok_init {qual : Str} {params : Arguments} {scope : Scope} {q1 q2 q3 q4 : Pos} {dvs : List V} {kws : List (Str × V)} {f C : Addr} {fd : FuncData}
    (F : FunD K "__init__" qual params [.Assign [.Attribute (.Name "self" q1) "value" q2] (.Name "value" q3) q4] scope dvs kws f fd) (S : FnScope ["self", "value"] ["self", "value"] scope) (T : EC K C)
    (hv1 : scope.names.lookup ("self" : Str) = some .local) (hv2 : scope.names.lookup ("value" : Str) = some .local) : FnOk P w K mg base CX0 1 f fd ["self", "value"] (spInit C) := by
  refine F.ok S (fun vs H Q E h => ?_) (fun cdv A outer s H vs Q E hr h => ?_)
  · obtain ⟨a, v, rfl, _⟩ := h
    rfl
  · obtain ⟨a, v, rfl, ha, k⟩ := h
    refine ⟨_, pss_one (ps_ost (pe_var (i := 0) rfl (.inl hv1)) (pe_var (i := 1) rfl (.inl hv2))), ?_⟩
    exact ⟨v, rfl, .ref a, rfl, a, C, rfl, T.o, T.nv, .inl ⟨ha, fun dx hd ne => k dx hd ne⟩⟩
end
end K1
/-! data at any depth, with dicts by texts; what repr tells of it -/
namespace K1
open PySem PySem.Spec PyProof.Rows L2
mutual
/-- v stands for the data d -/
inductive Dq (K : Frag) (H : Hp) : V → PyData → Prop
  | non : Dq K H .non .none
  | bl (b : Bool) : Dq K H (.bl b) (.bool b)
  | int (i : Int) : Dq K H (.int i) (.int i)
  | str (x : Str) : Dq K H (.str x) (.str x)
  | lst {a : Addr} {xs : List V} {ds : List PyData} : a ≠ sysModules → SqL K H a xs → DqAll K H xs ds → Dq K H (.ref a) (.list ds)
  | tup {a : Addr} {xs : List V} {ds : List PyData} : SqT K H a xs → DqAll K H xs ds → Dq K H (.ref a) (.tuple ds)
  | dic {a : Addr} {kvs : List (Str × V)} {ds : List (PyData × PyData)} : H a = some (.dK (kvs.map fun p => ((Sum.inr p.1 : Key), p.2))) → DqKv K H kvs ds → Dq K H (.ref a) (.dict ds)
inductive DqAll (K : Frag) (H : Hp) : List V → List PyData → Prop
  | nil : DqAll K H [] []
  | cons {v : V} {vs : List V} {d : PyData} {ds : List PyData} : Dq K H v d → DqAll K H vs ds → DqAll K H (v :: vs) (d :: ds)
inductive DqKv (K : Frag) (H : Hp) : List (Str × V) → List (PyData × PyData) → Prop
  | nil : DqKv K H [] []
  | cons {x : Str} {v : V} {kvs : List (Str × V)} {d : PyData} {ds : List (PyData × PyData)} : Dq K H v d → DqKv K H kvs ds → DqKv K H ((x, v) :: kvs) ((.str x, d) :: ds)
end
mutual
theorem Dq.same {K : Frag} {H H' : Hp} (s : Same H H') : ∀ {v : V} {d : PyData}, Dq K H v d → Dq K H' v d
  | _, _, .non => .non
  | _, _, .bl b => .bl b
  | _, _, .int i => .int i
  | _, _, .str x => .str x
  | _, _, .lst n h t => .lst n (s.seq h) (DqAll.same s t)
  | _, _, .tup h t => .tup (by
      rcases h with (h | ⟨o, h⟩) | h
      · exact .inl (.inl (s _ _ h))
      · exact .inl (.inr ⟨o, s _ _ h⟩)
      · exact .inr h) (DqAll.same s t)
  | _, _, .dic h t => .dic (s _ _ h) (DqKv.same s t)
theorem DqAll.same {K : Frag} {H H' : Hp} (s : Same H H') : ∀ {vs : List V} {ds : List PyData}, DqAll K H vs ds → DqAll K H' vs ds
  | _, _, .nil => .nil
  | _, _, .cons h t => .cons (Dq.same s h) (DqAll.same s t)
theorem DqKv.same {K : Frag} {H H' : Hp} (s : Same H H') : ∀ {vs : List (Str × V)} {ds : List (PyData × PyData)}, DqKv K H vs ds → DqKv K H' vs ds
  | _, _, .nil => .nil
  | _, _, .cons h t => .cons (Dq.same s h) (DqKv.same s t)
end
section
variable {X : Cx} {pins : List (Addr × Obj)} {σ : St} {H : Hp} {s : Shared}
/-- the keys of such a dict -/
theorem keys_read {h : Heap} {P : Program} {w : World} : ∀ {es : List DictEntry} {kvs : List (Str × Value)} , Pairs (mixKind P w) es (kvs.map fun p => ((Sum.inr p.1 : Key), p.2)) → ∃ as, sysModules ∉ as ∧ ReadsAll h (es.map (·.key)) (kvs.map fun p => PyData.str p.1) as
  | [], [], _ => ⟨[], by simp, .nil⟩
  | [], _ :: _, q => by cases q
  | _ :: _, [], q => by cases q
  | e :: es, (x, u) :: kvs, q => by
    cases q with
    | cons h1 h2 h3 =>
      obtain ⟨as, n, r⟩ := keys_read (h := h) (kvs := kvs) h3
      have h1' : keyIs (Sum.inr x) e.key = true := h1
      rcases keyIs_shape h1' with ⟨i, t, z, _⟩ | ⟨y, t, z, ek⟩
      · cases z
      · cases z
        refine ⟨[] ++ as, by simpa using n, ?_⟩
        show ReadsAll h (e.key :: es.map (·.key)) (PyData.str x :: _) _
        rw [ek]
        exact .cons (.str x t) r
theorem vals_pairs {P : Program} {w : World} : ∀ {es : List DictEntry} {kvs : List (Key × Value)}, Pairs (mixKind P w) es kvs → es.map (·.val) = kvs.map (·.2)
  | [], [], _ => rfl
  | [], _ :: _, q => by cases q
  | _ :: _, [], q => by cases q
  | e :: es, kv :: kvs, q => by
    cases q with
    | cons h1 h2 h3 =>
      show e.val :: es.map (·.val) = kv.2 :: kvs.map (·.2)
      rw [h2, vals_pairs h3]
theorem kv_split : ∀ {kvs : List (Str × V)} {vs : List (Key × Value)}, KV (kvs.map fun p => ((Sum.inr p.1 : Key), p.2)) vs → ∃ ws : List (Str × Value), vs = ws.map (fun p => ((Sum.inr p.1 : Key), p.2)) ∧ ws.map (·.1) = kvs.map (·.1) ∧ Vals (kvs.map (·.2)) (ws.map (·.2))
  | [], [], _ => ⟨[], rfl, rfl, .nil⟩
  | [], _ :: _, q => by cases q
  | _ :: _, [], q => by cases q
  | (x, v) :: kvs, (k, u) :: vs, q => by
    cases q with
    | cons h t =>
      obtain ⟨ws, e1, e2, r⟩ := kv_split (kvs := kvs) t
      obtain ⟨ek, rv⟩ := h
      have ek' : (Sum.inr x : Key) = k := ek
      refine ⟨(x, u) :: ws, ?_, ?_, .cons rv r⟩
      · rw [e1, ← ek']
        rfl
      · show x :: ws.map (·.1) = x :: kvs.map (·.1)
        rw [e2]
mutual
theorem Dq.reads (I : Inv X pins σ H s) : ∀ {v : V} {d : PyData}, Dq X.K H v d → ∀ u, RelV v u → ∃ as, sysModules ∉ as ∧ Reads s.heap u d as
  | _, _, .non, _, r => by cases r; exact ⟨[], by simp, .none⟩
  | _, _, .bl b, _, r => by cases r; exact ⟨[], by simp, .bool b⟩
  | _, _, .int i, _, r => by obtain ⟨t, rfl⟩ := r; exact ⟨[], by simp, .int i t⟩
  | _, _, .str x, _, r => by obtain ⟨t, rfl⟩ := r; exact ⟨[], by simp, .str x t⟩
  | _, _, .lst n h t, _, r => by
    cases r
    obtain ⟨its, rv, ⟨o, m, ho, hc, _, hd⟩, _⟩ := I.list h
    obtain ⟨as, na, hr⟩ := DqAll.reads I t its rv
    refine ⟨_ :: as, ?_, Reads.list ho hc hd hr⟩
    simp only [List.mem_cons, not_or]
    exact ⟨Ne.symm n, na⟩
  | _, _, .tup h t, _, r => by
    cases r
    obtain ⟨its, rv, ⟨o, ho, hc, m, hd⟩, _⟩ := I.tuple h
    obtain ⟨as, na, hr⟩ := DqAll.reads I t its rv
    exact ⟨as, na, Reads.tuple ho hc hd hr⟩
  | _, _, .dic (a := a) (kvs := kvs) h t, _, r => by
    cases r
    obtain ⟨hz, hm, vs, rel, o, es, ep, ho, hx, hd, hk, hp, hnd⟩ := dk_of I.hok h
    obtain ⟨ws, e1, e2, rv⟩ := kv_split rel
    subst e1
    obtain ⟨as, na, rk⟩ := keys_read (h := s.heap) hp
    obtain ⟨bs, nb, r1, r2⟩ := DqKv.reads I t (ws.map (·.2)) rv
    have ek : (ws.map fun p => PyData.str p.1) = kvs.map fun p => PyData.str p.1 := by
      have := congrArg (List.map PyData.str) e2
      rw [List.map_map, List.map_map] at this
      exact this
    refine ⟨a :: as ++ bs, ?_, Reads.dict ho hx.1 hd ?_ ?_⟩
    · simp only [List.cons_append, List.mem_cons, List.mem_append, not_or]
      exact ⟨fun e => by rw [← e] at hm; exact absurd hm (by decide), na, nb⟩
    · rw [r1, ← ek]
      exact rk
    · rw [vals_pairs hp, List.map_map]
      exact r2
theorem DqAll.reads (I : Inv X pins σ H s) : ∀ {vs : List V} {ds : List PyData}, DqAll X.K H vs ds → ∀ us, Vals vs us → ∃ as, sysModules ∉ as ∧ ReadsAll s.heap us ds as
  | _, _, .nil, _, r => by cases r; exact ⟨[], by simp, .nil⟩
  | _, _, .cons h t, _, r => by
    cases r with
    | cons r1 r2 =>
      obtain ⟨as, na, q1⟩ := Dq.reads I h _ r1
      obtain ⟨bs, nb, q2⟩ := DqAll.reads I t _ r2
      refine ⟨as ++ bs, ?_, .cons q1 q2⟩
      simp only [List.mem_append, not_or]
      exact ⟨na, nb⟩
theorem DqKv.reads (I : Inv X pins σ H s) : ∀ {kvs : List (Str × V)} {ds : List (PyData × PyData)}, DqKv X.K H kvs ds → ∀ us, Vals (kvs.map (·.2)) us → ∃ as, sysModules ∉ as ∧ ds.map (·.1) = kvs.map (fun p => PyData.str p.1) ∧ ReadsAll s.heap us (ds.map (·.2)) as
  | _, _, .nil, _, r => by cases r; exact ⟨[], by simp, rfl, .nil⟩
  | _, _, .cons (x := x) h t, _, r => by
    cases r with
    | cons r1 r2 =>
      obtain ⟨as, na, q1⟩ := Dq.reads I h _ r1
      obtain ⟨bs, nb, e, q2⟩ := DqKv.reads I t _ r2
      refine ⟨as ++ bs, ?_, ?_, .cons q1 q2⟩
      · simp only [List.mem_append, not_or]
        exact ⟨na, nb⟩
      · simp only [List.map_cons, e]
end
/-- repr(v) -/
def rRepr (K : Frag) : List V → Hp → VK → Prop := fun xs H Q => ∃ v d, xs = [v] ∧ Dq K H v d ∧ d.showable = true ∧ d.depth ≤ 60 ∧ d.shown.length ≤ sizeLine ∧ Q (.str d.shown) H
theorem call_repr (hg : X.A.guards = some []) (hu : X.A.units + 64 < cLine) : CallR X (.builtin "repr") (rRepr X.K) := by
  intro pins s σ H xs us Q I r h
  obtain ⟨v, d, rfl, hd, hs, hdp, hz, q⟩ := h
  cases r with
  | cons rx rr =>
    cases rr
    have big : ∀ (a : Addr) (u : Value), u = Value.ref a → RelV v u → wpAny (model X.prog X.w) X.A (call (.builtin "repr") [u]) (EP X pins σ Q) X.xe s := fun a u eu ru => by
      obtain ⟨as, na, rd⟩ := Dq.reads I hd u ru
      subst eu
      exact repr_of_reads' rd hs (fun _ => na) hg (by omega) (fun _ _ e => e) (fun h' t tk hk => ⟨.str d.shown, H, I.kept (t' := tk) hk, ⟨t, rfl⟩, q⟩) hz
    cases hd with
    | non => cases rx; exact PySem.P.repr_of_none ⟨.str _, H, I.tok _, ⟨_, rfl⟩, q⟩
    | bl b =>
      cases rx
      refine PySem.P.repr_of_bool ⟨.str (PyData.shown (.bool b)), H, I.tok _, ⟨s.toks, ?_⟩, q⟩
      cases b <;> rfl
    | int i =>
      obtain ⟨t, rfl⟩ := rx
      exact PySem.P.repr_of_int (by simpa [PyData.showable] using hs) ⟨.str _, H, I.tok _, ⟨_, rfl⟩, q⟩
    | str x =>
      obtain ⟨t, rfl⟩ := rx
      exact PySem.P.repr_of_str ⟨.str _, H, I.tok _, ⟨_, rfl⟩, q⟩ hz
    | lst n h t => exact big _ _ rx rx
    | tup h t => exact big _ _ rx rx
    | dic h t => exact big _ _ rx rx
end
/-! ### how long a shown thing is -/
def LenLe (n : Nat) (ts : List Str) : Prop := ∀ t ∈ ts, t.length ≤ n
theorem textFrom_le (n : Nat) : ∀ (ts : List Str) (k : Nat) (acc : Str), LenLe n ts → (textFrom k acc ts).length ≤ acc.length + ts.length * (n + 2)
  | [], k, acc, _ => by
    show acc.length ≤ acc.length + 0 * (n + 2)
    omega
  | t :: ts, k, acc, h => by
    have h1 := h t (List.mem_cons_self ..)
    have ih := textFrom_le n ts (k + 1) (acc ++ (if k > 0 then ", " else "" : String) ++ t) fun u hu => h u (List.mem_cons_of_mem _ hu)
    show (textFrom (k + 1) (acc ++ (if k > 0 then ", " else "" : String) ++ t) ts).length ≤ _
    have e : (acc ++ (if k > 0 then ", " else "" : String) ++ t).length ≤ acc.length + 2 + t.length := by
      rw [strLen_append, strLen_append]
      have : ((if k > 0 then ", " else "" : String) : Str).length ≤ 2 := by split <;> decide
      omega
    have e2 : (t :: ts).length * (n + 2) = ts.length * (n + 2) + (n + 2) := by
      rw [List.length_cons, Nat.succ_mul]
    omega
theorem listText_le {n : Nat} {ts : List Str} (h : LenLe n ts) : (listText ts).length ≤ 2 + ts.length * (n + 2) := by
  unfold listText
  rw [strLen_append]
  have := textFrom_le n ts 0 "[" h
  have e1 : ((("[" : String) : Str)).length = 1 := rfl
  have e2 : ((("]" : String) : Str)).length = 1 := rfl
  omega
theorem joined_le (n : Nat) : ∀ ts : List Str, LenLe n ts → (Str.join ", " ts).length ≤ ts.length * (n + 2)
  | [], _ => Nat.zero_le _
  | [t], h => by
    have h1 := h t (List.mem_cons_self ..)
    show t.length ≤ 1 * (n + 2)
    omega
  | t :: u :: ts, h => by
    have h1 := h t (List.mem_cons_self ..)
    have ih := joined_le n (u :: ts) fun v hv => h v (List.mem_cons_of_mem _ hv)
    show (t ++ ", " ++ Str.join ", " (u :: ts)).length ≤ _
    rw [strLen_append, strLen_append]
    have e1 : (((", " : String) : Str)).length = 2 := rfl
    have e2 : (t :: u :: ts).length * (n + 2) = (u :: ts).length * (n + 2) + (n + 2) := by
      rw [List.length_cons, Nat.succ_mul]
    omega
theorem tupleText_le {n : Nat} {ts : List Str} (h : LenLe n ts) : (tupleText ts).length ≤ 3 + ts.length * (n + 2) := by
  unfold tupleText
  rw [strLen_append, strLen_append]
  have := joined_le n ts h
  have e1 : ((("(" : String) : Str)).length = 1 := rfl
  have e2 : ((if ts.length == 1 then ",)" else ")" : String) : Str).length ≤ 2 := by split <;> decide
  omega
theorem dictText_le {n : Nat} {ts : List Str} (h : LenLe n ts) : (dictText ts).length ≤ 2 + ts.length * (n + 2) := by
  unfold dictText
  rw [strLen_append, strLen_append]
  have := joined_le n ts h
  have e1 : ((("{" : String) : Str)).length = 1 := rfl
  have e2 : ((("}" : String) : Str)).length = 1 := rfl
  omega
end K1
/-! defs that are called where no guard of repr stands: repr of lists, tuples, dicts is what it says there -/
namespace K1
open PySem PySem.Spec PyProof.Rows L2
/-- a def's promise, kept where no guard stands -/
structure FnG (P : Program) (w : World) (K : Frag) (mg : Str → Option Value) (base : Heap) (k : Nat) (f : Addr) (fd : FuncData) (ps : List Str) (sp : Sp) : Prop where
  len : ∀ vs H Q E, sp vs H Q E → vs.length = ps.length
  run : ∀ (A : Around) (outer : List Env) (s : Shared) (H : Hp) (args : Args) (us : List Value) (vs : List V) (Q : VK) (E : XK), A.guards = some [] → Room k A → Env0 P w K mg base A outer s H → BindsTo s fd args (ps.zip us) → Vals vs us → sp vs H Q E →
    codeAny (model P w) A (.call (.ref f) args) (CR CX0 outer P w H s Q E) s
section
variable {X : Cx} {k : Nat} {f : Addr} {fd : FuncData} {ps : List Str} {sp : Sp} {x : Str} {p pos : Pos} {e : Expr} {es : List Expr} {t : TA}
theorem pe_callG (F : FnG X.prog X.w X.K X.mg X.base k f fd ps sp) (hgd : X.A.guards = some []) (hr : Room k X.A) (hg : Gl X x) (hm : X.mg x = some (.ref f)) (hk : PySem.W.keepIn X.K (.ref f) = true) (hb : L2.Binds X.K fd ps [])
    (ha : PA X (e :: es) t) (hdb : (x == ("__debug__" : Str)) = false := by decide) (he : starEach (e :: es) X.env = (false, eval e X.env) :: starEach es X.env := by rfl) (hpl : (backTo pos (starEach es X.env)).any (·.1) = false := by rfl) :
    PE X (.Call (.Name x p) (e :: es) [] pos) (tCall sp [] E0 t) := by
  constructor
  intro pins s σ H Q I h
  apply wpAny_Call_Name_kw
  apply ld_glob I hg hm _ hdb
  apply PySem.W.callWith_K (h₀ := X.base) I.ok.mod.kin hk _ he hpl
  refine thn (ha.run pos pins s σ H _ I h) ?_
  rintro us s1 ⟨vs, H1, I1, r, q⟩
  refine ⟨I1.kIn, wpAny_call ?_⟩
  have r2 : Vals (vs ++ []) (us ++ []) := r.append .nil
  have hl : (us ++ []).length = ps.length := by
    rw [← r2.length]
    exact F.len _ _ _ _ q
  refine codeAny_mono (F.run X.A X.stack s1 H1 ⟨us, []⟩ (us ++ []) (vs ++ []) Q E0 hgd hr I1.env0 (hb s1 us I1.kIn hl) r2 q) ?_
  intro r s' hq
  match r, hq with
  | .ok (.ret u), hq => exact I1.after hq
end
section
variable {P : Program} {w : World} {K : Frag} {mg : Str → Option Value} {base : Heap}
theorem fun_okG {x qual : Str} {st : Stmt} {f : Addr} {fd : FuncData} {N ps : List Str} {k : Nat} {sp : Sp} {dvs : List V} {kws : List (Str × V)} (F : FunD K x qual (defArgs st) (defBody st) (defScope st) dvs kws f fd) (S : FnScope N ps (defScope st)) (len : ∀ vs H Q E, sp vs H Q E → vs.length = ps.length)
    (hbody : ∀ (cdv : Value) (A : Around) (outer : List Env) (s : Shared) (H : Hp) (vs : List V) (Q : VK) (E : XK), (A.deeper (envOfC qual (defScope st) s.heap.objs.size f cdv)).guards = some [] → Room k (A.deeper (envOfC qual (defScope st) s.heap.objs.size f cdv)) → sp vs H Q E →
      ∃ t, PSs (cxOf CX0 P w K mg base N qual (defScope st) f cdv A outer s H E).nox (defBody st) t ∧ t { nx := fun _ H' => Q .non H', rt := Q } (start N vs) H) : FnG P w K mg base (k + 1) f fd ps sp := by
  obtain ⟨oc, od, dV, kV, doc, pm, an, cdv, ct, osl, rfl, lk, hcd, _, _⟩ := F.ex
  constructor
  · exact len
  intro A outer s H args us vs Q E hgd hr e0 hb r hsp
  have hl := len _ _ _ _ hsp
  have up : ∀ b o, base.get? b = some o → s.heap.get? b = some o := fun b o e => (e0.bs b o e).1
  have KX := e0.mod.kin.keeps up
  have lim := e0.mod.nolimit.keeps up
  apply codeAny_call_function hr.depth (KX _ _ lk) rfl S.co S.gen rfl
    (PySem.W.codeRec_of KX hcd)
  apply hb
  refine wpAny_newFunctionEnv_cells S.kind ?_ ?_
  · rintro ⟨n, v⟩ hy
    have := S.par n (List.of_mem_zip hy).1
    rcases this with q | q
    · left
      exact q
    · right
      exact ⟨q, PySem.W.cellsFrom_some _ _ _ (.inl q)⟩
  rintro env rfl s1 x
  refine ⟨lim.keeps x.toInCall.keep, codeAny_func ?_⟩
  obtain ⟨t, ht, hq⟩ := hbody cdv A outer s H vs Q E hgd (hr.deeper _) hsp
  have I := inv_start (CX := CX0) (E := E) S hr.hd e0 hl r x
  have fin : ∀ {σ' : L2.St} {H' : Hp} {v : V} {u : Value} {s' : Shared}, Inv (cxOf CX0 P w K mg base N qual (defScope st) f cdv A outer s H E) [] σ' H' s' → RelV v u → Q v H' → CE outer P w H s Q u s' := by
    intro σ' H' v u s' J rv q
    exact ⟨v, H', J.os, J.bare, J.base, J.hok, rv, q⟩
  refine wpAny_mono (ht.nox.run [] s1 (start N vs) H _ I hq) ?_ ?_
  · intro fl s' hs
    match fl, hs with
    | .ret u, ⟨v, σ', H', J, rv, q⟩ => exact fin J rv q
    | .next, ⟨σ', H', J, q⟩ => exact fin (v := V.non) (u := Value.none) J rfl q
    | .brk, ⟨_, _, _, q⟩ => exact q.elim
    | .cont, ⟨_, _, _, q⟩ => exact q.elim
  · intro e s' hs
    exact hs
end
/-! ### the law's own call -/
section
variable {P : Program} {w : World} {K : Frag} {mg mb : Str → Option Value} {k : Nat} {fa a : Addr} {fd : FuncData} {x : Str} {sp : Sp} {s1 : Shared} {vs : List Value} {ns : List Int}
theorem law_core (KX : K.In s1.heap) (hns : s1.heap.Ns mainGlobals mg) (hb : s1.heap.Ns builtinsNs mb) (hbb : ∀ x : Str, x ≠ "__name__" → mb x = bootBuiltins x) (hlim : s1.heap.NoLimit) (hg : s1.gens = #[])
    (hobj : s1.heap.get? a = some { cls := .type "list", data := .seq vs.toArray }) (hr : Room k callerA) (F : ∀ base : Heap, K.In base → base.Ns mainGlobals mg → FnG P w K mg base k fa fd [x] sp)
    (hbind : ∀ (s : Shared) (u : Value), BindsTo s fd ⟨[u], []⟩ [(x, u)]) (H : Hp) (hO : Only H) (hok : HOk P w H s1.heap) (hA : ∀ b, H b ≠ none → b = a) (hK : H a ≠ none → K.lookup a = none)
    (hsp : sp [.ref a] H (fun v _ => v = .bl true) fun _ _ _ => False) :
    codeAny (model P w) callerA (.call (.ref fa) ⟨[.ref a], []⟩) (fun r s' => r = .ok (.ret (.bool true)) ∧ OldK s1.heap s'.heap ∧ s'.os = s1.os ∧ AllBare s'.gens) s1 := by
  have dictFree : ∀ {b : Addr} {o : Obj} {es : Array DictEntry} {ep : Nat}, s1.heap.get? b = some o → o.data = .dict es ep → H b = none := by
    intro b o es ep e d
    by_cases q : H b = none
    · exact q
    · have e' := hA b q
      subst e'
      rw [hobj] at e
      cases e
      cases d
  have nsB : ∀ {b : Addr} {m : Str → Option Value}, s1.heap.Ns b m → (hidT s1.heap H).Ns b m := by
    rintro b m ⟨o, es, ep, e, d, r⟩
    exact ⟨o, es, ep, hidT_get e (dictFree e d), d, r⟩
  have kB : K.In (hidT s1.heap H) := by
    intro b o e
    refine hidT_get (KX b o e) ?_
    by_cases q : H b = none
    · exact q
    · have e' := hA b q
      subst e'
      rw [hK q] at e
      cases e
  have hM : Mod K mg (hidT s1.heap H) := by
    obtain ⟨mc, h1, h2⟩ := hlim
    exact ⟨kB, nsB hns, ⟨mb, nsB hb, hbb⟩, mc, nsB h1, h2⟩
  have e0 : Env0 P w K mg (hidT s1.heap H) callerA [] s1 H := by
    refine ⟨rfl, hM, fun b o e => of_hidT e, Nat.le_of_eq (hidT_size _ _), trivial, ?_, hok, .of_eq hg⟩
    intro b hb
    exact absurd hb (by simp [frs])
  have run := (F _ kB (nsB hns)).run callerA [] s1 H ⟨[.ref a], []⟩ [.ref a] [.ref a] _ _ rfl hr e0 (hbind s1 (.ref a)) (.cons rfl .nil) hsp
  refine codeAny_mono run ?_
  intro r s' h
  match r, h with
  | .ok (.ret u), ⟨v, H', os, bare, un, hok', rv, q⟩ =>
    have q' : v = .bl true := q
    subst q'
    have rv' : u = Value.bool true := rv
    subst rv'
    refine ⟨rfl, OldK.of_keep ?_, os, bare⟩
    intro b o e
    cases hb : H b with
    | none => exact un.keep b o e hb (by simp [frs]) (by simp)
    | some u =>
      rcases hO b with z | ⟨ob, xs, z⟩
      · rw [hb] at z
        cases z
      · have z1 := (hok b _ z).1
        have z2 := (hok' b _ (un.frzs b ob _ z)).1
        rw [e] at z1
        cases z1
        exact z2
theorem law_callG (KX : K.In s1.heap) (hns : s1.heap.Ns mainGlobals mg) (hb : s1.heap.Ns builtinsNs mb) (hbb : ∀ x : Str, x ≠ "__name__" → mb x = bootBuiltins x) (hlim : s1.heap.NoLimit) (hg : s1.gens = #[])
    (hobj : s1.heap.get? a = some { cls := .type "list", data := .seq vs.toArray }) (hi : IntsAre vs ns) (hl : ns.length ≤ sizeLine) (hr : Room k callerA) (F : ∀ base : Heap, K.In base → base.Ns mainGlobals mg → FnG P w K mg base k fa fd [x] sp)
    (hbind : ∀ (s : Shared) (u : Value), BindsTo s fd ⟨[u], []⟩ [(x, u)])
    (hsp : ∀ H : Hp, Only H → SqL K H a (ns.map V.int) → sp [.ref a] H (fun v _ => v = .bl true) fun _ _ _ => False) :
    codeAny (model P w) callerA (.call (.ref fa) ⟨[.ref a], []⟩) (fun r s' => r = .ok (.ret (.bool true)) ∧ OldK s1.heap s'.heap ∧ s'.os = s1.os ∧ AllBare s'.gens) s1 := by
  have rv := vals_ints hi
  have lenV := hi.length
  cases hk : K.lookup a with
  | some o =>
    have e := KX a o hk
    rw [hobj] at e
    cases e
    have hO : Only (fun _ => none) := fun _ => .inl rfl
    refine law_core KX hns hb hbb hlim hg hobj hr F hbind (fun _ => none) hO (fun b u z => by cases z) (fun b z => absurd rfl z) (fun z => absurd rfl z) (hsp _ hO (.inr ⟨_, vs.toArray, _, hk, rfl, rfl, rfl, ?_, by simpa using rv⟩))
    rw [List.size_toArray, lenV]
    exact hl
  | none =>
    have hat : ∀ {b u}, (if b = a then some (HO.frz { cls := .type "list", data := .seq vs.toArray } (.lst (ns.map V.int))) else none) = some u → b = a ∧ u = HO.frz { cls := .type "list", data := .seq vs.toArray } (.lst (ns.map V.int)) := by
      intro b u z
      by_cases e : b = a
      · rw [if_pos e] at z
        exact ⟨e, (Option.some.inj z).symm⟩
      · rw [if_neg e] at z
        cases z
    have hO : Only (fun b => if b = a then some (HO.frz { cls := .type "list", data := .seq vs.toArray } (.lst (ns.map V.int))) else none) := by
      intro b
      by_cases e : b = a
      · exact .inr ⟨_, _, if_pos e⟩
      · exact .inl (if_neg e)
    refine law_core KX hns hb hbb hlim hg hobj hr F hbind _ hO ?_ ?_ (fun _ => hk) (hsp _ hO (.inl (.inr ⟨_, if_pos rfl⟩)))
    · intro b u z
      obtain ⟨rfl, rfl⟩ := hat z
      exact ⟨hobj, by rw [List.length_map]; exact hl, vs, _, rv, hobj⟩
    · intro b z
      by_cases e : b = a
      · exact e
      · exact absurd (if_neg e) z
end
theorem walkG {l : PySem.W.OpenLaw} {n k : Nat} {q : Program} {loose : List Str} {XP : (Str → Option Value) → Heap → Prop} {YP : World → Heap → Prop} {d : DefRec} {K : Params → Frag} {sp : World → Sp} {x : Str}
    (hn : l.most = some n) (hn2 : n ≤ sizeLine) (hdf : d.params.defaults = []) (hr : Room k callerA) (hY : ∀ (w : World) (h : Heap), YP w h → (K w.params).In h)
    (F : ∀ (w : World) (mg : Str → Option Value) (fa : Addr) (h : Heap), (K w.params).In h → h.Ns mainGlobals mg → mg d.name = some (.ref fa) →
      ∃ fd : FuncData, (∀ (s : Shared) (u : Value), BindsTo s fd ⟨[u], []⟩ [(x, u)]) ∧ ∀ base : Heap, (K w.params).In base → base.Ns mainGlobals mg → FnG l.prog w (K w.params) mg base k fa fd [x] (sp w))
    (hsp : ∀ (w : World) (H : Hp) (a : Addr) (ns : List Int), ns.length ≤ n → Only H → SqL (K w.params) H a (ns.map V.int) → sp w [.ref a] H (fun v _ => v = .bl true) fun _ _ _ => False) :
    PySem.W.WalkO q loose XP YP l.row.toRowW d [] (fun f vs => PySem.call f vs) := by
  apply Att.attach_call hn hdf
  intro w s0 s1 mg mb fa o pm cd doc a vs ns G Y ho hd hcd hmg hobj hints hlen hg
  obtain ⟨fd, hb, hF⟩ := F w mg fa _ (hY w _ Y) G.T.g hmg
  exact law_callG (hY w _ Y) G.T.g G.T.b G.T.builtins G.T.nolimit hg hobj hints (Nat.le_trans hlen hn2) hr hF hb (fun H hO hS => hsp w H a ns hlen hO hS)
end K1
/-! the head's facts of errors' classes -/
namespace K1
open PySem PySem.Spec PyProof.Rows L2 He
def clsB (K : Frag) (C : Addr) : Bool := match K.lookup C with
  | some ⟨.type "type", _, .cls cd, sl⟩ => (match cd.mro, sl.toList with
    | .ref C' :: bm, [_, _, _, _, some (.builtin n), _] => decide (C' = C) && (decide (n = "ValueError.__new__") && (!cd.hasDel && (cd.hasDict && PySem.HandSPX.refsVE bm)))
    | _, _ => false)
  | _ => false
theorem clsB_ok {K : Frag} {C : Addr} (q : clsB K C = true) : ∃ nm qn N bs bm sn sub ab col dd k0 k1 k2 k3 k5, K.lookup C = some (excClassObj nm qn C N bs bm true sn sub ab col dd k0 k1 k2 k3 k5 "ValueError.__new__") ∧ PySem.HandSPX.refsVE bm = true := by
  unfold clsB at q
  split at q
  · rename_i dd cd sl ho
    split at q
    · rename_i C' bm k0 k1 k2 k3 n k5 hm hs
      obtain ⟨q1, q⟩ := ba q
      obtain ⟨q2, q⟩ := ba q
      obtain ⟨q3, q⟩ := ba q
      obtain ⟨q4, q5⟩ := ba q
      have e1 := of_decide_eq_true q1
      have e2 := of_decide_eq_true q2
      subst e1
      subst e2
      obtain ⟨nm, bs, mro, ns, qn, hd, sn, sub, ab, col, del⟩ := cd
      dsimp only at hm q3 q4
      subst hm
      subst q4
      have e3 : del = false := by simpa using q3
      subst e3
      have e4 : sl = #[k0, k1, k2, k3, some (.builtin "ValueError.__new__"), k5] := by
        obtain ⟨l⟩ := sl
        simp only at hs
        rw [hs]
      subst e4
      exact ⟨nm, qn, ns, bs, bm, sn, sub, ab, col, dd, k0, k1, k2, k3, k5, ho, q5⟩
    · cases q
  · cases q
def eqB (a b : Option Bool) : Bool := decide (a = b)
def eqV (a b : Option Value) : Bool := decide (a = b)
/-- a class of errors, by its global name -/
def errB (K : Frag) (x : Str) : Bool := clsB K (ga K x) && (PySem.W.keepIn K (.ref (ga K x)) && (eqB (PySem.W.subIn K (.ref (ga K x)) (.type "BaseException")) (some true) && (eqV (PySem.W.typeIn K (.ref (ga K x))) (some (.type "type")) &&
  (eqO (PySem.W.findIn K (.ref (ga K x)) "__setattr__") (some (some (.builtin "object.__setattr__"))) && (eqO (PySem.W.findIn K (.ref (ga K x)) "__getattribute__") (some (some (.builtin "BaseException.__getattribute__"))) &&
  (eqO (PySem.W.findIn K (.ref (ga K x)) "__getattr__") (some none) && (eqO (PySem.W.findIn K (.ref (ga K x)) "__class__") (some (some (.builtin "object.__class__"))) && (eqB (PySem.W.mroIn K (ga K x) (.type "object")) (some true) &&
  (PySem.W.hasDictIn K (ga K x) && (eqO (PySem.W.findIn K (.ref (ga K x)) "value") (some none) && (eqO (PySem.W.specialIn K (.builtin "object.__class__") "__get__") (some (some (.builtin "getset_descriptor.__get__"))) && eqB (PySem.W.takesIn K (.builtin "object.__class__")) (some true))))))))))))
theorem errB_ok {K : Frag} {x : Str} (q : errB K x = true) : EC K (ga K x) := by
  obtain ⟨q1, q⟩ := ba q
  obtain ⟨q2, q⟩ := ba q
  obtain ⟨q3, q⟩ := ba q
  obtain ⟨q4, q⟩ := ba q
  obtain ⟨q5, q⟩ := ba q
  obtain ⟨q6, q⟩ := ba q
  obtain ⟨q7, q⟩ := ba q
  obtain ⟨q8, q⟩ := ba q
  obtain ⟨q9, q⟩ := ba q
  obtain ⟨q10, q⟩ := ba q
  obtain ⟨q11, q⟩ := ba q
  obtain ⟨q12, q13⟩ := ba q
  exact ⟨⟨clsB_ok q1, eqO_ok q5, of_decide_eq_true q3, of_decide_eq_true q4, q2⟩, eqO_ok q6, eqO_ok q7, eqO_ok q8, eqO_ok q12, of_decide_eq_true q13, of_decide_eq_true q9, q10, eqO_ok q11⟩
def initB (K : Frag) (x : Str) : Bool := eqO (PySem.W.findIn K (.ref (ga K x)) "__init__") (some (some (.ref (ma K (ga K x) "__init__")))) && eqV (PySem.W.typeIn K (.ref (ma K (ga K x) "__init__"))) (some (.type "function"))
def bareB (K : Frag) (x : Str) : Bool := PySem.W.excIn K (ga K x) veBase "ValueError.__new__"
/-- isinstance of the classes, one of another -/
def kitB (K : Frag) (xs : List Str) (top : Str) : Bool := (xs.all fun x => xs.all fun y => eqB (PySem.W.kitOne K (.ref (ga K x)) (.ref (ga K y))) (some (decide (x = y)))) && ((top :: xs).all fun x =>
  eqB (PySem.W.kitOne K (.ref (ga K x)) (.ref (ga K top))) (some true) && eqB (PySem.W.kitOne K (.ref (ga K x)) (.type "ValueError")) (some true)) && (xs.all fun y => eqB (PySem.W.kitOne K (.ref (ga K top)) (.ref (ga K y))) (some false))
/-- errs: with own __init__; bares: without; top: the base -/
def moreB (errs bares : List Str) (top : Str) (K : Frag) : Bool := (errs.all fun x => errB K x && initB K x) && (((top :: bares).all fun x => errB K x && bareB K x) && kitB K (errs ++ bares) top)
abbrev AlX : Type := AlD × Bool
/-- the head's Hook -/
def hookX (n : Nat) (fa : List Fa) (fn : List DefD) (more : Frag → Bool) : PySem.W.Hook where
  α := AlX
  obs := fun s => (obsD fa fn (frG s.heap.get? (asD s.heap.get? n)), more (frG s.heap.get? (asD s.heap.get? n)))
  val := fun _ => (valD fn, true)
  says := fun _ h => ∃ K : Frag, K.In h ∧ SaysD fa fn K ∧ more K = true
  of := fun _ _ e => ⟨_, frG_in, congrArg Prod.fst e, congrArg Prod.snd e⟩
  keeps := fun _ _ _ ⟨K, hK, c⟩ k => ⟨K, PySem.W.Frag.In.keeps hK k, c⟩
def obX (n : Nat) (fa : List Fa) (fn : List DefD) (more : Frag → Bool) (s : PySem.W.SharedT) : AlX := (obsD fa fn (frG (HandSHeadRun.getT s) (asD (HandSHeadRun.getT s) n)), more (frG (HandSHeadRun.getT s) (asD (HandSHeadRun.getT s) n)))
theorem obX_eq {n : Nat} {fa : List Fa} {fn : List DefD} {more : Frag → Bool} (s : PySem.W.SharedT) : obX n fa fn more s = (hookX n fa fn more).obs s.abs := by
  have e : HandSHeadRun.getT s = s.abs.heap.get? := funext (HandSHeadRun.getT_eq s)
  unfold obX
  rw [e]
  rfl
/-- a law whose def is promised where no guard stands, over such a head -/
theorem walkX {l : PySem.W.OpenLaw} {n k : Nat} {q : Program} {loose : List Str} {XP : (Str → Option Value) → Heap → Prop} {YP : World → Heap → Prop} {d : DefRec} {x : Str}
    (hn : l.most = some n) (hn2 : n ≤ sizeLine) (hdf : d.params.defaults = []) (hr : Room k callerA)
    (F : ∀ (w : World) (mg : Str → Option Value) (fa : Addr) (h : Heap), YP w h → h.Ns mainGlobals mg → mg d.name = some (.ref fa) →
      ∃ (K : Frag) (fd : FuncData) (sp : Sp), K.In h ∧ (∀ (s : Shared) (u : Value), BindsTo s fd ⟨[u], []⟩ [(x, u)]) ∧
        (∀ (H : Hp) (a : Addr) (ns : List Int), ns.length ≤ n → Only H → SqL K H a (ns.map V.int) → sp [.ref a] H (fun v _ => v = .bl true) fun _ _ _ => False) ∧
        ∀ base : Heap, K.In base → base.Ns mainGlobals mg → FnG l.prog w K mg base k fa fd [x] sp) :
    PySem.W.WalkO q loose XP YP l.row.toRowW d [] (fun f vs => PySem.call f vs) := by
  apply Att.attach_call hn hdf
  intro w s0 s1 mg mb fa o pm cd doc a vs ns G Y ho hd hcd hmg hobj hints hlen hg
  obtain ⟨K, fd, sp, KX, hb, hsp, hF⟩ := F w mg fa _ Y G.T.g hmg
  exact law_callG KX G.T.g G.T.b G.T.builtins G.T.nolimit hg hobj hints (Nat.le_trans hlen hn2) hr hF hb (fun H hO hS => hsp H a ns hlen hO hS)
end K1
/-! a set made of a list's items, whatever they are: what is known of it while it is filled -/
namespace NK
open PySem PySem.Spec PyProof.Rows L2
/-- each object of the first heap stands in the second -/
def Stands (h h' : Heap) : Prop := ∀ b o, h.get? b = some o → h'.get? b = some o
/-- J i: what is known of the set at S behind i of the items us -/
structure Fills (P : Program) (w : World) (h0 : Heap) (S : Addr) (us : List Value) (J : Nat → Heap → Prop) : Prop where
  stays : ∀ i h h', J i h → (∀ o, h.get? S = some o → h'.get? S = some o) → Stands h0 h' → J i h'
  puts : ∀ (A : Around) (E : Value → Shared → Prop) i u (s : Shared) (Q : Bool → Shared → Prop), A.units < cLine → us[i]? = some u → J i s.heap → Stands h0 s.heap →
    (∀ c h' tk, s.toks ≤ tk → Heap.SameBut S s.heap h' → J (i + 1) h' → Q c { s with heap := h', toks := tk }) → wpAny (model P w) A (setAdd S u) Q E s
section
variable {P : Program} {w : World} {A : Around} {h0 : Heap} {S I : Addr} {us : List Value} {J : Nat → Heap → Prop} {fp wr : List Addr} {G : Array GenState → Array GenState → Prop} {n : Nat} {Pv : Nat → Value → Prop}
  {St : Nat → Shared → Prop} {R : Result → Shared → Prop}
/-- the loop of set.update, from the i-th item on -/
theorem fill_from (W : WalksS P w A.in1 I fp wr G n Pv St) (F : Fills P w h0 S us J) (out : S ∉ fp) (its : ∀ i v, Pv i v → us[i]? = some v) (newS : h0.get? S = none) (neww : ∀ b ∈ wr, h0.get? b = none) (few : A.in1.units < cLine) :
    ∀ (left i : Nat) (s : Shared), i + left = n → St i s → Stands h0 s.heap → J i s.heap → (∀ s', Moved (S :: wr) G s s' → Stands h0 s'.heap → J n s'.heap → R (.ok (.ret .none)) s') →
      codeAny (model P w) A (.builtin "set.update.loop" ⟨[.ref S, .ref I], []⟩) R s := by
  have more : ∀ b, b ∈ wr → b ∈ S :: wr := fun b hb => .tail _ hb
  have nSw : S ∉ wr := fun hb => out (W.sub S hb)
  have carry : ∀ {s s' : Shared}, Moved wr G s s' → Stands h0 s.heap → Stands h0 s'.heap := by
    intro s s' mv st b o e
    refine mv.heap b o (fun hb => ?_) (st b o e)
    have z := neww b hb
    rw [z] at e
    cases e
  intro left
  induction left with
  | zero =>
    intro i s hi hst st j k
    obtain rfl : i = n := hi
    refine codeAny_builtin PyProof.Rows.F.entry_set_update_loop ?_
    rw [Around.under_plainId PyProof.Rows.F.plain_set_update_loop _]
    refine wpAny_bind (m := pyNext (.ref I)) (W.done s _ _ hst fun s' mv => ?_)
    have st' := carry mv st
    exact wpAny_pure (k s' (mv.mono more) st' (F.stays _ _ _ j (fun o e => mv.heap S o nSw e) st'))
  | succ left ih =>
    intro i s hi hst st j k
    refine codeAny_builtin PyProof.Rows.F.entry_set_update_loop ?_
    rw [Around.under_plainId PyProof.Rows.F.plain_set_update_loop _]
    refine wpAny_bind (m := pyNext (.ref I)) (W.item i s _ _ (by omega) hst fun v s' pv hst' mv => ?_)
    have st' := carry mv st
    have j' := F.stays _ _ _ j (fun o e => mv.heap S o nSw e) st'
    refine wpAny_bind (m := holding [v] (setAdd S v)) (wpAny_holding (F.puts A.in1 _ i v s' _ few (its i v pv) j' st' fun c h' tk tl sb j2 => ?_))
    have unS : ∀ b, b ≠ S → h'.get? b = s'.heap.get? b := fun b ne => sb.2 b ne
    refine wpAny_pure ⟨plainId_quiet PyProof.Rows.F.plain_set_update_loop _, ih (i + 1) _ (by omega) (W.frame _ s' _ _ hst' tl ?_) ?_ j2 fun s2 mv2 => ?_⟩
    · intro b hb o e
      rw [unS b (by rintro rfl; exact out hb)]
      exact e
    · intro b o e
      show h'.get? b = some o
      rw [unS b (by rintro rfl; rw [newS] at e; cases e)]
      exact st' b o e
    · refine k s2 (Moved.trans W.gtrans (Moved.then_heap (mv.mono more) tl fun b o hb e => ?_) mv2)
      rw [unS b (by rintro rfl; exact hb List.mem_cons_self)]
      exact e
end
end NK
/-! set(xs) of a list, by what fills it -/
namespace NK
open PySem PySem.Spec PyProof.Rows L2
/-- a set that has just been made -/
def bareSet (w : World) : Obj := { cls := .type "set", dict := none, data := .set #[] 0 (.fresh 0 0 (!w.params.followText "set-order")) }
section
variable {P : Program} {w : World} {A : Around} {E : Value → Shared → Prop} {s : Shared} {J : Nat → Heap → Prop}
theorem gone_at {h : Heap} {b : Addr} (z : h.objs.size ≤ b) : h.get? b = none := by
  cases q : h.get? b with
  | none => rfl
  | some o => exact absurd (Heap.lt_size q) (Nat.not_lt.mpr z)
theorem set_call {l : Addr} {items : Array Value} {Q : Value → Shared → Prop} (calm : A.handled = none) (few : A.units + 3 < cLine) (hl : s.heap.IsList l items) (F : Fills P w s.heap s.heap.objs.size items.toList J)
    (start : ∀ h, h.get? s.heap.objs.size = some (bareSet w) → Stands s.heap h → J 0 h) (fin : ∀ h' tk, Stands s.heap h' → J items.size h' → Q (.ref s.heap.objs.size) { s with heap := h', toks := tk }) :
    wpAny (model P w) A (call (.type "set") [.ref l]) Q E s := by
  obtain ⟨c0, tl0, mro0⟩ := PySem.F.called_set.mro
  have fMade := PySem.F.called_set.made
  have fSub := PySem.F.called_set.sub
  have fNo := PySem.F.called_set.notType
  have fCan := PySem.F.called_set.canCreate
  have fTy := PySem.F.typeCall_set_1 (.ref l)
  refine wpAny_call (codeAny_of_tree (show wpAny _ _ (callAny (.type "set") _) _ _ _ from wpAny_pure ⟨Code.quiet_builtin _ (by decide +kernel), codeAny_builtin PySem.F.entry_type_call ?_⟩))
  rw [Around.under_plain (weight_type_call_type "set" [.ref l] []) rfl]
  repeat (any_goals (first | assumption | wp_step))
  have made := code_set_led1 (P := P) (.ref l) (A := A.in1) (E := E) (s := s) (Q₁ := fun x s1 => x = .ref s.heap.objs.size ∧ s1 = { s with heap := s.heap.push (bareSet w) }) ⟨rfl, rfl⟩
  refine codeAny_mono made fun r s1 z => ?_
  rcases r with er | (x | _ | _ | _) <;> first | exact z | exact z.elim | skip
  obtain ⟨rfl, rfl⟩ := z
  have hS : (s.heap.push (bareSet w)).get? s.heap.objs.size = some (bareSet w) := Heap.get?_push_size _ rfl
  have hT : Shared.TypeIs { s with heap := s.heap.push (bareSet w) } (.ref s.heap.objs.size) "set" := ⟨_, hS, rfl⟩
  have fLook := PySem.F.called_set.init.lookup
  have fBind := PySem.F.called_set.init.bind (.ref s.heap.objs.size)
  repeat (any_goals (first | assumption | wp_step))
  refine codeAny_mono (codeAny_call_builtin (R := wants (fun r s2 => r = .none ∧ ∃ h' tk, s2 = { s with heap := h', toks := tk } ∧ Stands s.heap h' ∧ J items.size h') E) PySem.F.called_set.init.plain PySem.F.entry_set_init (check_set_init_1 hT ?_)) fun r2 s2 z2 => ?_
  · obtain ⟨⟨cl, dd, dat, sl⟩, hol, ecl, nl, edat⟩ := hl
    simp only at ecl edat
    subst ecl edat
    have lS : l < s.heap.objs.size := Heap.lt_size hol
    have hol2 : (s.heap.push (bareSet w)).get? l = some { cls := .type "list", dict := dd, data := .seq items nl, slots := sl } := Heap.get?_push_of_some _ hol
    have isL : (s.heap.push (bareSet w)).IsList l items := ⟨_, hol2, rfl, nl, rfl⟩
    have sub1 := PySem.F.sub_list_set
    have sub2 := PySem.F.sub_list_frozenset
    have noD : (Value.type "list" == Value.type "dict") = false := by decide
    unfold Builtin.«set.__init__» noKeywords Builtin.Frozenset.updateFrom
    generalize eIt : pyIter = It0
    wp_walk
    subst eIt
    refine wpAny_pyIter_list isL (wpAny_bind (wpAny_runValue ?_))
    have calm3 : A.in1.in1.in1.handled = none := by simp [calm]
    have sz1 : (s.heap.push (bareSet w)).objs.size = s.heap.objs.size + 1 := Heap.size_push ..
    have nI : l ≠ (s.heap.push (bareSet w)).objs.size := by
      rw [sz1]
      exact Nat.ne_of_lt (Nat.lt_succ_of_lt lS)
    have out : s.heap.objs.size ∉ [(s.heap.push (bareSet w)).objs.size, l] := by
      simp only [List.mem_cons, List.not_mem_nil, or_false, not_or]
      rw [sz1]
      exact ⟨Nat.ne_of_lt (Nat.lt_succ_self _), Nat.ne_of_gt lS⟩
    have W := (Walks.list (prog := P) (w := w) calm3 _ l nI items).toS
    refine fill_from W F out (fun i v q => by rw [Array.getElem?_toList]; exact q) (gone_at (Nat.le_refl _)) (fun b hb => ?_) few (items.size - 0) 0 _ (by omega) ⟨⟨_, Heap.get?_push_size _ rfl, rfl, rfl⟩, isL.push _⟩
      (fun b o e => Heap.get?_push_of_some _ (Heap.get?_push_of_some _ e)) (start _ (Heap.get?_push_of_some _ hS) fun b o e => Heap.get?_push_of_some _ (Heap.get?_push_of_some _ e)) fun s3 mv st j => ?_
    · rw [List.mem_singleton.mp hb]
      refine gone_at (Nat.le_trans (Nat.le_succ _) (Nat.le_of_eq sz1.symm))
    · obtain ⟨h3, g3, d3, t3, os3⟩ := s3
      have e1 : g3 = s.gens := mv.gens
      have e2 : d3 = s.drawn := mv.drawn
      have e3 : os3 = s.os := mv.os
      subst e1 e2 e3
      exact wpAny_pure (wpAny_pure ⟨rfl, h3, t3, rfl, st, j⟩)
  · rcases r2 with er | (x | _ | _ | _) <;> first | exact z2 | exact z2.elim | skip
    obtain ⟨rfl, h', tk, rfl, st, j⟩ := z2
    repeat (any_goals (first | assumption | wp_step))
    exact fin h' tk st j
end
end NK
/-! sets whose members are tuples of things that are known by value (texts, ints): the search of a place -/
namespace NK
open PySem PySem.Spec PyProof.Rows L2
/-- what a kind's items are asked beside equality and hash -/
structure Plain {P : Program} {w : World} {κ : Type} [DecidableEq κ] (kn : KeyKind P w κ) : Prop where
  cls : ∀ k v n, kn.is k v = true → ofAClassStatement n v = pure false
  byv : ∀ k v n, kn.is k v = true → ∃ b, hashByValue n v = pure b
theorem plain_mix (P : Program) (w : World) : Plain (mixKind P w) := by
  constructor
  · intro k v n e
    have e' : keyIs k v = true := e
    rcases keyIs_shape e' with ⟨i, t, rfl, rfl⟩ | ⟨x, t, rfl, rfl⟩ <;> cases n <;> rfl
  · intro k v n e
    have e' : keyIs k v = true := e
    rcases keyIs_shape e' with ⟨i, t, rfl, rfl⟩ | ⟨x, t, rfl, rfl⟩
    · exact ⟨true, by cases n <;> rfl⟩
    · exact ⟨false, by cases n <;> rfl⟩
section
variable {P : Program} {w : World} {κ : Type} [DecidableEq κ] {kn : KeyKind P w κ} {A : Around} {E : Value → Shared → Prop} {s : Shared}
theorem each_is {ks : List κ} {vs : List Value} (h : ItemsAre kn ks vs) : ∀ v ∈ vs, ∃ k, kn.is k v = true := by
  induction h with
  | nil => exact fun v hv => nomatch hv
  | cons h1 _ ih =>
    intro v hv
    cases hv with
    | head => exact ⟨_, h1⟩
    | tail _ hv => exact ih v hv
/-- the items of such a tuple are gone through -/
theorem items_for {σ : Type} {items : Array Value} {f : Value → Option Bool × σ → Sem (ForInStep (Option Bool × σ))} {b0 : Option Bool × σ} {D : Option Bool × σ → Shared → Prop} (J : Option Bool × σ → Prop) (h0 : J b0)
    (all : ∀ v ∈ items.toList, ∃ k, kn.is k v = true) (step : ∀ v b k, kn.is k v = true → J b → wpAny (model P w) A (f v b) (fun r s' => s' = s ∧ (match r with | .yield b' => J b' | .done b' => D b' s)) E s)
    (fin : ∀ b, J b → D b s) : wpAny (model P w) A (forIn items b0 f) D E s := by
  rw [← Array.forIn_toList]
  generalize items.toList = l at all
  induction l generalizing b0 with
  | nil =>
    rw [List.forIn_nil]
    exact wpAny_pure (fin b0 h0)
  | cons v r ih =>
    rw [List.forIn_cons]
    obtain ⟨k, hk⟩ := all v List.mem_cons_self
    refine wpAny_bind (wpAny_mono (step v b0 k hk h0) (fun q s' z => ?_) fun _ _ z => z)
    obtain ⟨rfl, z⟩ := z
    cases q with
    | done b' => exact wpAny_pure z
    | yield b' => exact ih z fun u hu => all u (List.mem_cons_of_mem _ hu)
theorem no_class (pl : Plain kn) {ks : List κ} {b : Addr} {Q : Bool → Shared → Prop} (hk : IsTupleKey kn s.heap ks b) (q : Q false s) : wpAny (model P w) A (ofAClassStatement 8 (.ref b)) Q E s := by
  have isT := hk.typeIs
  obtain ⟨o, items, n, ho, _, hd, hi⟩ := hk
  unfold ofAClassStatement
  refine wpAny_bind (wpAny_typeOf isT ?_)
  dsimp only
  simp only [show (("tuple" : String) == "tuple") = true from by decide, if_true, Bool.not_true, Bool.false_eq_true, if_false]
  try refine wpAny_bind (wpAny_pure ?_)
  try simp only [Bool.not_true, Bool.false_eq_true, if_false]
  refine wpAny_bind (m := seqItems? (.ref b)) (wpAny_seqItems ho hd ?_)
  dsimp only
  refine wpAny_bind (items_for (kn := kn) (fun r => r.1 = none) rfl (each_is hi) (fun v r k hv hr => ?_) fun r hr => ?_)
  · rw [pl.cls k v 7 hv]
    refine wpAny_bind (wpAny_pure ?_)
    simp only [Bool.false_eq_true, if_false]
    exact wpAny_pure ⟨rfl, rfl⟩
  · obtain ⟨r1, r2⟩ := r
    simp only at hr
    subst hr
    exact wpAny_pure q
theorem hash_by (pl : Plain kn) {ks : List κ} {b : Addr} {Q : Bool → Shared → Prop} (hk : IsTupleKey kn s.heap ks b) (q : ∀ c, Q c s) : wpAny (model P w) A (hashByValue 8 (.ref b)) Q E s := by
  have isT := hk.typeIs
  obtain ⟨o, items, n, ho, _, hd, hi⟩ := hk
  unfold hashByValue
  refine wpAny_bind (wpAny_specialOf isT PySem.F.slot_tuple_hash.lookup ?_)
  refine wpAny_bind (m := seqItems? (.ref b)) (wpAny_seqItems ho hd ?_)
  refine wpAny_bind (items_for (kn := kn) (fun r => r.1 = none) rfl (each_is hi) (fun v r k hv hr => ?_) fun r hr => ?_)
  · obtain ⟨c, ec⟩ := pl.byv k v 7 hv
    rw [ec]
    refine wpAny_bind (wpAny_pure ?_)
    cases c with
    | true =>
      simp only [Bool.not_true, Bool.false_eq_true, if_false]
      exact wpAny_pure ⟨rfl, rfl⟩
    | false =>
      simp only [Bool.not_false, if_true]
      exact wpAny_pure ⟨rfl, wpAny_pure (q false)⟩
  · obtain ⟨r1, r2⟩ := r
    simp only at hr
    subst hr
    exact wpAny_pure (q true)
end
end NK
/-! such a set: its members, the search of a place -/
namespace NK
open PySem PySem.Spec PyProof.Rows L2
section
variable {P : Program} {w : World} {κ : Type} [DecidableEq κ]
/-- the members L (where each stands, what it says) of the set at S -/
structure TT (kn : KeyKind P w κ) (h : Heap) (S : Addr) (L : List (Addr × List κ)) (es : Array (Int × Value)) (ep : Nat) (t : SetTable) : Prop where
  obj : ∃ o, h.get? S = some o ∧ o.ExactSet ∧ o.data = .set es ep t
  row : es.toList = L.map fun p => (tupleKeyHash kn p.2, Value.ref p.1)
  tab : TabOk t (L.map fun p => tupleKeyHash kn p.2)
  one : (L.map (·.2)).Nodup
  key : ∀ p ∈ L, IsTupleKey kn h p.2 p.1
  room : L.length * 5 < t.mask * 3
  few : L.length < 64
variable {kn : KeyKind P w κ} {A : Around} {E : Value → Shared → Prop} {s : Shared} {S : Addr} {L : List (Addr × List κ)} {es : Array (Int × Value)} {ep : Nat} {t : SetTable}
theorem TT.many (T : TT kn s.heap S L es ep t) : es.size = L.length := by
  have z := congrArg List.length T.row
  rwa [Array.length_toList, List.length_map] at z
theorem TT.fits (T : TT kn s.heap S L es ep t) : t.fits es.size = true := by
  have z := T.tab.sz
  rw [List.length_map, ← T.many] at z
  have r := T.room
  rw [← T.many] at r
  unfold SetTable.fits SetTable.fill
  rw [T.tab.dm, z, beq_self_eq_true, Bool.true_and, decide_eq_true_eq]
  exact (by omega : es.size + 0 ≤ t.mask)
theorem TT.at_ (T : TT kn s.heap S L es ep t) {i : Nat} {p : Addr × List κ} (e : L[i]? = some p) : es[i]? = some (tupleKeyHash kn p.2, Value.ref p.1) := by
  have z : es.toList[i]? = some (tupleKeyHash kn p.2, Value.ref p.1) := by
    rw [T.row, List.getElem?_map, e]
    rfl
  rwa [Array.getElem?_toList] at z
theorem not_gave {t : SetTable} (m : MaskOk t.mask) : ¬ t.gaveWay = true := by
  have z := mask_odd m
  simp [SetTable.gaveWay, z]
/-- the c-th step on the way of a hash -/
def trip (m : Nat) (x : Int) (c : Nat) : SetTable.Probe := nth m (runAt m (SetTable.bits x % (m + 1)) (SetTable.bits x)) c
theorem trip_on (m : Nat) (x : Int) (c q : Nat) : nth m (trip m x c) q = trip m x (c + q) := (nth_add m c _ q).symm
theorem trip_j (m : Nat) (x : Int) (c : Nat) : (trip m x c).j = way m x c := rfl
theorem trip_clean (m : Nat) (x : Int) : ∀ c, (trip m x c).dummy = none
  | 0 => rfl
  | c + 1 => by
    have z : trip m x (c + 1) = adv m (trip m x c) := nth_succ m _ c
    rw [z]
    have ih := trip_clean m x c
    unfold adv
    split <;> exact ih
/-- nothing of such a search is seen -/
theorem unseen (pl : Plain kn) {ks : List κ} {x : Addr} {Q : Bool → Shared → Prop} (hx : IsTupleKey kn s.heap ks x) {ys : List Value} (hy : ∀ y ∈ ys, ∃ k c, y = Value.ref c ∧ IsTupleKey kn s.heap k c) (q : Q false s) :
    wpAny (model P w) A (searchCouldBeSeen (.ref x) ys) Q E s := by
  unfold searchCouldBeSeen
  refine wpAny_bind ?_
  have go : ∀ (l : List Value) (D : Option Bool × PUnit → Shared → Prop) (f : Value → Option Bool × PUnit → Sem (ForInStep (Option Bool × PUnit))), (∀ y ∈ l, ∃ k c, y = Value.ref c ∧ IsTupleKey kn s.heap k c) →
      (∀ y k c, y = Value.ref c → IsTupleKey kn s.heap k c → wpAny (model P w) A (f y (none, ⟨⟩)) (fun r s' => r = .yield (none, ⟨⟩) ∧ s' = s) E s) → D (none, ⟨⟩) s → wpAny (model P w) A (forIn l (none, ⟨⟩) f) D E s := by
    intro l
    induction l with
    | nil =>
      intro D f _ _ d
      rw [List.forIn_nil]
      exact wpAny_pure d
    | cons y l ih =>
      intro D f ha hf d
      rw [List.forIn_cons]
      obtain ⟨k, c, e, hc⟩ := ha y List.mem_cons_self
      refine wpAny_bind (wpAny_mono (hf y k c e hc) (fun r s' z => ?_) fun _ _ z => z)
      obtain ⟨rfl, rfl⟩ := z
      exact ih D f (fun u hu => ha u (List.mem_cons_of_mem _ hu)) hf d
  refine go ys _ _ hy (fun y k c e hc => ?_) (wpAny_pure q)
  subst e
  dsimp only
  by_cases same : (x == c || (carriedByValue (.ref x) && carriedByValue (.ref c))) = true
  · exact wp_if_pos same (wpAny_pure ⟨rfl, rfl⟩)
  · refine wp_if_neg same (wpAny_bind (wpAny_eqIsQuiet_tuple hx ?_))
    simp only [Bool.not_true, Bool.false_eq_true, if_false]
    refine wpAny_bind (wpAny_eqIsQuiet_tuple hc ?_)
    simp only [Bool.not_true, Bool.false_eq_true, if_false]
    refine wpAny_bind (no_class pl hx ?_)
    simp only [Bool.false_eq_true, if_false]
    refine wpAny_bind (no_class pl hc ?_)
    simp only [Bool.false_eq_true, if_false]
    exact wpAny_pure ⟨rfl, rfl⟩
/-- what is looked for stands further on the way, if it stands -/
def Ahead (kn : KeyKind P w κ) (L : List (Addr × List κ)) (t : SetTable) (k : List κ) (c K : Nat) : Prop :=
  ∀ (i : Nat) p, L[i]? = some p → p.2 = k → ∃ d, c ≤ d ∧ d < K ∧ t.place.toList[i]? = some (way t.mask (tupleKeyHash kn k) d)
theorem seek (pl : Plain kn) (T : TT kn s.heap S L es ep t) {x : Addr} {k : List κ} (hx : IsTupleKey kn s.heap k x) (low : A.units < cLine) {K : Nat} (hK : K < 10 * SetTable.turns t.mask) (free : way t.mask (tupleKeyHash kn k) K ∉ t.place.toList)
    (full : ∀ c, c < K → way t.mask (tupleKeyHash kn k) c ∈ t.place.toList) {Q : SetFound → Shared → Prop} (yes : k ∈ L.map (·.2) → Q (.there none) s) (no : k ∉ L.map (·.2) → Q (.free (way t.mask (tupleKeyHash kn k) K) false) s) :
    ∀ (f c : Nat) (stand : Option SetTable.Probe), stand.getD (t.probeStart (tupleKeyHash kn k)) = trip t.mask (tupleKeyHash kn k) c → c ≤ K → K < c + f → Ahead kn L t k c K →
      wpAny (model P w) A (setSearchFrom S (.ref x) (tupleKeyHash kn k) true f stand) Q E s := by
  intro f
  induction f with
  | zero => exact fun c st _ h1 h2 => absurd h2 (by omega)
  | succ f ih =>
    intro c st hst hc hf hd
    generalize hz : tupleKeyHash kn k = z at *
    obtain ⟨o, ho, ex, dat⟩ := T.obj
    rw [setSearchFrom_succ]
    refine wpAny_bind (wpAny_setState_of ho dat T.fits ?_)
    dsimp only
    refine wp_if_neg (not_gave T.tab.mok) ?_
    try refine wpAny_bind (wpAny_pure ?_)
    have hashAt : ∀ (i : Nat) p, L[i]? = some p → (es[i]?.map (·.1)).getD 0 = tupleKeyHash kn p.2 := fun i p e => by
      rw [T.at_ e]
      rfl
    have probed := go_spec t T.tab.ris T.tab.dm (fun i => (es[i]?.map (·.1)).getD 0) z (10 * SetTable.turns t.mask) (K - c) (trip t.mask z c) (trip_clean _ _ c) (by omega)
      (fun q hq => by rw [trip_on, trip_j]; exact full _ (by omega)) (by rw [trip_on, trip_j, Nat.add_sub_cancel' hc]; exact free)
    have ask : t.probe (fun i => (es[i]?.map (·.1)).getD 0) z (st.getD (t.probeStart z)) = SetTable.probe.go t (fun i => (es[i]?.map (·.1)).getD 0) z (10 * SetTable.turns t.mask) (trip t.mask z c) := by
      rw [hst]
      rfl
    rw [ask]
    rcases probed with ⟨q, i, hq, hi, hh, first, e⟩ | ⟨none_, e⟩
    · rw [e]
      dsimp only
      rw [trip_on, trip_j] at hi ⊢
      rw [trip_on]
      have hil : i < L.length := by
        have h1 := (List.getElem?_eq_some_iff.mp hi).1
        rw [Array.length_toList, T.tab.sz, List.length_map] at h1
        exact h1
      obtain ⟨p, hp⟩ : ∃ p, L[i]? = some p := ⟨_, List.getElem?_eq_getElem hil⟩
      have pin : p ∈ L := List.mem_of_getElem? hp
      have live : t.slot (way t.mask z (c + q)) = .live i := slot_live T.tab.ris hi
      have behind : wpAny (model P w) A (searchRest S (.ref x) z true f es t (way t.mask z (c + q)) i (trip t.mask z (c + (q + 1)))) Q E s := by
        unfold searchRest
        rw [T.at_ hp]
        dsimp only
        refine wpAny_bind (wpAny_holding (wpAny_eqBool_tuple low (T.key p pin) hx (wpAny_bind (wpAny_setState_of ho dat T.fits ?_))))
        dsimp only
        by_cases same : p.2 = k
        · refine wp_if_pos (by simp [same]) (wpAny_pure (yes ?_))
          exact same ▸ List.mem_map_of_mem pin
        · refine wp_if_neg (by simp [same]) ?_
          try refine wpAny_bind (wpAny_pure ?_)
          rw [sameMem]
          dsimp only
          simp only [if_true, live, T.at_ hp]
          refine wpAny_bind (wpAny_isSame_ref_self (wpAny_bind (wpAny_pure ?_)))
          simp only [if_true]
          refine wp_if_neg (by simp [same]) (ih (c + (q + 1)) _ rfl (by omega) (by omega) fun i2 p2 e2 k2 => ?_)
          obtain ⟨d, d1, d2, d3⟩ := hd i2 p2 e2 k2
          rw [hz] at d3
          refine ⟨d, ?_, d2, by rw [hz]; exact d3⟩
          rcases Nat.lt_trichotomy d (c + q) with lt | eq | gt
          · refine absurd ((hashAt i2 p2 e2).trans ((congrArg (tupleKeyHash kn) k2).trans hz)) (first (d - c) i2 (by omega) ?_)
            rw [trip_on, trip_j, Nat.add_sub_cancel' d1]
            exact d3
          · exfalso
            rw [eq] at d3
            have l2 := slot_live T.tab.ris d3
            rw [live] at l2
            cases l2
            rw [hp] at e2
            cases e2
            exact same k2
          · omega
      by_cases led : t.led = true
      · refine wp_if_neg (by simp [led]) ?_
        try refine wpAny_bind (wpAny_pure ?_)
        exact behind
      · refine wp_if_pos (by simp [led]) (wpAny_bind (unseen pl hx (fun y hy => ?_) ?_))
        · obtain ⟨e3, h3, rfl⟩ := List.mem_map.mp hy
          have h4 : e3 ∈ es.toList := by simpa using (show e3 ∈ es ∧ e3.1 = z by simpa using h3).1
          rw [T.row] at h4
          obtain ⟨p3, h5, rfl⟩ := List.mem_map.mp h4
          exact ⟨p3.2, p3.1, rfl, T.key p3 h5⟩
        · refine wp_if_neg Bool.false_ne_true ?_
          try refine wpAny_bind (wpAny_pure ?_)
          exact behind
    · rw [e]
      dsimp only
      rw [trip_on, trip_j, Nat.add_sub_cancel' hc]
      refine wpAny_pure (no fun hm => ?_)
      obtain ⟨p, pin, pk⟩ := List.mem_map.mp hm
      obtain ⟨i, hi, e1⟩ := List.getElem_of_mem pin
      have e2 : L[i]? = some p := by rw [List.getElem?_eq_getElem hi, e1]
      obtain ⟨d, d1, d2, d3⟩ := hd i p e2 pk
      rw [hz] at d3
      refine none_ (d - c) i (by omega) ?_ ((hashAt i p e2).trans ((congrArg (tupleKeyHash kn) pk).trans hz))
      rw [trip_on, trip_j, Nat.add_sub_cancel' d1]
      exact d3
end
end NK
/-! such a set: a tuple is added -/
namespace NK
open PySem PySem.Spec PyProof.Rows L2
section
variable {P : Program} {w : World} {κ : Type} [DecidableEq κ]
variable {kn : KeyKind P w κ} {A : Around} {E : Value → Shared → Prop} {s : Shared} {S : Addr} {L : List (Addr × List κ)} {es : Array (Int × Value)} {ep : Nat} {t : SetTable}
theorem sought (pl : Plain kn) (T : TT kn s.heap S L es ep t) {x : Addr} {k : List κ} (hx : IsTupleKey kn s.heap k x) (low : A.units < cLine) {Q : SetFound → Shared → Prop} (yes : k ∈ L.map (·.2) → Q (.there none) s)
    (no : ∀ K, k ∉ L.map (·.2) → way t.mask (tupleKeyHash kn k) K ∉ t.place.toList → (∀ c, c < K → way t.mask (tupleKeyHash kn k) c ∈ t.place.toList) → Q (.free (way t.mask (tupleKeyHash kn k) K) false) s) :
    wpAny (model P w) A (setSearch S (.ref x) (tupleKeyHash kn k) true) Q E s := by
  have r := T.room
  obtain ⟨K, k1, k2, k3⟩ := T.tab.first (by rw [List.length_map]; omega) (tupleKeyHash kn k)
  have k4 : K < 100000 := by
    unfold SetTable.turns at k1
    rcases T.tab.mok with e | e | e <;> rw [e] at k1 <;> omega
  unfold setSearch
  refine seek pl T hx low k1 k2 k3 yes (fun z => no K z k2 k3) 100000 0 none rfl (Nat.zero_le _) (by omega) fun i p e1 e2 => ?_
  have len : i < t.place.toList.length := by
    rw [Array.length_toList, T.tab.sz, List.length_map]
    exact (List.getElem?_eq_some_iff.mp e1).1
  have e3 : (L.map fun (p : Addr × List κ) => tupleKeyHash kn p.2)[i]? = some (tupleKeyHash kn k) := by
    rw [List.getElem?_map, e1, ← e2]
    rfl
  obtain ⟨d, d1, d2⟩ := T.tab.before k2 e3 (List.getElem?_eq_getElem len)
  exact ⟨d, Nat.zero_le _, d1, by rw [d2]; exact List.getElem?_eq_getElem len⟩
/-- a tuple stays where only the set is changed -/
theorem key_stays {h h' : Heap} {k : List κ} {b : Addr} {o : Obj} (hb : IsTupleKey kn h k b) (ho : h.get? S = some o) (hd : o.data = .set es ep t) (sb : Heap.SameBut S h h') : IsTupleKey kn h' k b := by
  obtain ⟨o2, its, n, h1, h2, h3, h4⟩ := hb
  refine ⟨o2, its, n, (sb.2 b ?_).trans h1, h2, h3, h4⟩
  rintro rfl
  rw [ho] at h1
  cases h1
  rw [hd] at h3
  cases h3
/-- the rows in another order -/
theorem rows_order (row : es.toList = L.map fun (p : Addr × List κ) => (tupleKeyHash kn p.2, Value.ref p.1)) (ord : Array Nat) (pm : ord.toList.Perm (List.range L.length)) :
    ∃ M : List (Addr × List κ), (ord.filterMap (es[·]?)).toList = (M.map fun (p : Addr × List κ) => (tupleKeyHash kn p.2, Value.ref p.1)) ∧ M.Perm L ∧ (ord.toList.map fun i => (es.map (·.1)).getD i 0) = M.map fun (p : Addr × List κ) => tupleKeyHash kn p.2 := by
  have at_ : ∀ (i : Nat) (p : Addr × List κ), L[i]? = some p → es[i]? = some (tupleKeyHash kn p.2, Value.ref p.1) := fun i p e => by
    rw [← Array.getElem?_toList, row, List.getElem?_map, e]
    rfl
  have go : ∀ l : List Nat, (∀ i ∈ l, i < L.length) → (l.filterMap fun i => es[i]?) = ((l.filterMap fun i => L[i]?).map fun (p : Addr × List κ) => (tupleKeyHash kn p.2, Value.ref p.1)) ∧
      (l.map fun i => (es.map (·.1)).getD i 0) = (l.filterMap fun i => L[i]?).map fun (p : Addr × List κ) => tupleKeyHash kn p.2 := by
    intro l
    induction l with
    | nil => exact fun _ => ⟨rfl, rfl⟩
    | cons i l ih =>
      intro hl
      obtain ⟨a, b⟩ := ih fun j hj => hl j (List.mem_cons_of_mem _ hj)
      have e1 := List.getElem?_eq_getElem (hl i List.mem_cons_self)
      have e2 := at_ i _ e1
      have e3 : (es.map (·.1)).getD i 0 = tupleKeyHash kn (L[i]'(hl i List.mem_cons_self)).2 := by
        rw [Array.getD_eq_getD_getElem?, Array.getElem?_map, e2]
        rfl
      rw [List.filterMap_cons_some e2, List.filterMap_cons_some e1, List.map_cons, List.map_cons, List.map_cons, a, b, e3]
      exact ⟨rfl, rfl⟩
  obtain ⟨a, b⟩ := go ord.toList fun i hi => List.mem_range.mp (pm.mem_iff.mp hi)
  refine ⟨ord.toList.filterMap fun i => L[i]?, by rw [Array.toList_filterMap]; exact a, ?_, b⟩
  have all : ∀ M : List (Addr × List κ), ((List.range M.length).filterMap fun i => M[i]?) = M := by
    intro M
    induction M with
    | nil => rfl
    | cons m M ih =>
      rw [List.length_cons, List.range_succ_eq_map, List.filterMap_cons_some (show (m :: M)[0]? = some m from rfl), List.filterMap_map]
      exact congrArg (m :: ·) ih
  have z := pm.filterMap fun i => L[i]?
  rwa [all L] at z
theorem relaid {o : Obj} (ho : s.heap.get? S = some o) (ex : o.ExactSet) (dat : o.data = .set es ep t) (row : es.toList = L.map fun (p : Addr × List κ) => (tupleKeyHash kn p.2, Value.ref p.1)) (psz : t.place.size = es.size) (dum : t.dummies = #[]) (fit : es.size ≤ t.mask)
    (one : (L.map (·.2)).Nodup) (key : ∀ p ∈ L, IsTupleKey kn s.heap p.2 p.1) (few : L.length < 64) {g M : Nat} (gM : SetTable.sizeAbove g = M + 1) (ok : MaskOk M) (roomy : L.length * 5 < M * 3) {Q : Unit → Shared → Prop}
    (q : ∀ h' L' es' ep' t', Heap.SameBut S s.heap h' → TT kn h' S L' es' ep' t' → L'.Perm L → Q () { s with heap := h' }) : wpAny (model P w) A (setRelay S g) Q E s := by
  have many : es.size = L.length := by
    have z := congrArg List.length row
    rwa [Array.length_toList, List.length_map] at z
  have fits : t.fits es.size = true := by
    unfold SetTable.fits SetTable.fill
    rw [dum, psz, beq_self_eq_true, Bool.true_and, decide_eq_true_eq]
    exact fit
  have big : M + 1 ≤ 128 := by
    rcases ok with e | e | e <;> omega
  obtain ⟨t2, ord, e, pm, T2, m2, _, _, d2⟩ := relaid_ok t (hs := es.map (·.1)) (wanted := g) (M := M) (by omega) ok (by rw [Array.size_map, many]; omega)
  rw [Array.size_map, many] at pm
  obtain ⟨L2, r1, r2, r3⟩ := rows_order row ord pm
  rw [r3] at T2
  have many2 : (ord.filterMap (es[·]?)).size = es.size := by
    have z := congrArg List.length r1
    rwa [Array.length_toList, List.length_map, r2.length_eq, ← many] at z
  rw [setRelay_eq]
  refine wpAny_bind (wpAny_setState_of ho dat fits ?_)
  dsimp only
  refine wp_if_neg (by rw [sizeLine_eq]; omega) ?_
  try refine wpAny_bind (wpAny_pure ?_)
  rw [e]
  dsimp only
  refine wpAny_bind (wp_if_neg (by rw [many2]; simp) ?_)
  try refine wpAny_bind (wpAny_pure ?_)
  refine wpAny_pure ?_
  dsimp only
  refine wpAny_storeSet_of ho dat ?_ (by rw [many2, many, sizeLine_eq]; omega)
  have sb : Heap.SameBut S s.heap (s.heap.update S (Obj.putSet (ord.filterMap (es[·]?)) t2)) := Heap.SameBut.update ..
  refine q _ L2 _ (ep + 1) t2 sb ⟨⟨_, store_at ho dat, ⟨ex.1, ex.2.1, ex.2.2⟩, rfl⟩, r1, T2, (r2.map (·.2)).nodup_iff.mpr one, fun p hp => key_stays (key p (r2.mem_iff.mp hp)) ho dat sb, ?_, by rw [r2.length_eq]; exact few⟩ r2
  rw [r2.length_eq, m2]
  exact roomy
/-- the table does not tell whether all is by value -/
theorem tab_same {t t' : SetTable} {hs : List Int} (T : TabOk t hs) (e1 : t'.place = t.place) (e2 : t'.dummies = t.dummies) (e3 : t'.mask = t.mask) : TabOk t' hs := by
  refine ⟨?_, ?_, ?_, ?_, ?_, ?_⟩
  · rw [e1]; exact T.ris
  · rw [e2]; exact T.dm
  · rw [e1]; exact T.sz
  · rw [e3]; exact T.mok
  · rw [e1, e3]; exact T.bd
  · intro i x j a b
    rw [e1] at b
    obtain ⟨k, a1, a2⟩ := T.reach i x j a b
    rw [e1, e3]
    exact ⟨k, a1, a2⟩
theorem added (pl : Plain kn) (T : TT kn s.heap S L es ep t) {x : Addr} {k : List κ} (hx : IsTupleKey kn s.heap k x) (low : A.units < cLine) (few : L.length + 1 < 64) {Q : Bool → Shared → Prop}
    (q : ∀ c h' L' es' ep' t', Heap.SameBut S s.heap h' → TT kn h' S L' es' ep' t' → (if k ∈ L.map (·.2) then L' = L else L'.Perm ((x, k) :: L)) → Q c { s with heap := h' }) :
    wpAny (model P w) A (setAddHashed S (.ref x) (tupleKeyHash kn k)) Q E s := by
  obtain ⟨o, ho, ex, dat⟩ := T.obj
  have many := T.many
  have room := T.room
  unfold setAddHashed
  refine wpAny_holding ?_
  rw [show (100000 : Nat) = 99999 + 1 from rfl, setAddHashedIn_succ]
  refine wpAny_bind (wpAny_setState_of ho dat T.fits ?_)
  dsimp only
  refine wp_if_neg (by simp [byScan, Value.scannable]) ?_
  try refine wpAny_bind (wpAny_pure ?_)
  refine wpAny_bind (sought pl T hx low (fun hm => ?_) fun K hm free full => ?_)
  · exact wpAny_pure (q false s.heap L es ep t (Heap.SameBut.refl S s.heap) T (by rw [if_pos hm]))
  · dsimp only
    refine wpAny_bind (wpAny_setState_of ho dat T.fits ?_)
    dsimp only
    obtain ⟨a1, a2, a3, a4, _, _, _, _, a9⟩ := T.tab.put free full
    generalize ept : t.put (way t.mask (tupleKeyHash kn k) K) = pt at a1 a3 a4 a9 ⊢
    obtain ⟨t1, pl1⟩ := pt
    dsimp only at a1 a3 a4 a9 ⊢
    subst a1
    generalize SetTable.below t.place (way t.mask (tupleKeyHash kn k) K) = pl1 at a2 a3 ⊢
    -- behind the store
    have behind : ∀ t2 : SetTable, t2.place = t1.place → t2.dummies = t1.dummies → t2.mask = t1.mask → wpAny (model P w) A (do
        storeSet S (SetTable.insertAt es pl1 (tupleKeyHash kn k, Value.ref x)) t2
        if !false && t2.tooFull then setRelay S (SetTable.grown (es.size + 1))
        return true) Q E s := by
      intro t2 p1 p2 p3
      have a3' := tab_same a3 p1 p2 p3
      have fill2 : t2.fill = L.length + 1 := by
        have z : t2.fill = t1.fill := by unfold SetTable.fill; rw [p1, p2]
        rw [z, a9, List.length_map]
      rw [← List.map_take, ← List.map_drop, show tupleKeyHash kn k :: (L.drop pl1).map (fun (p : Addr × List κ) => tupleKeyHash kn p.2) = (((x, k) :: L.drop pl1).map fun (p : Addr × List κ) => tupleKeyHash kn p.2) from rfl, ← List.map_append] at a3'
      have row : (SetTable.insertAt es pl1 (tupleKeyHash kn k, Value.ref x)).toList = (L.take pl1 ++ (x, k) :: L.drop pl1).map fun (p : Addr × List κ) => (tupleKeyHash kn p.2, Value.ref p.1) := by
        rw [SetTable.toList_insertAt, T.row, List.map_append, List.map_cons, List.map_take, List.map_drop]
      have pm : (L.take pl1 ++ (x, k) :: L.drop pl1).Perm ((x, k) :: L) := by
        have z : (L.take pl1 ++ (x, k) :: L.drop pl1).Perm ((x, k) :: (L.take pl1 ++ L.drop pl1)) := List.perm_middle
        rwa [List.take_append_drop] at z
      have one : ((L.take pl1 ++ (x, k) :: L.drop pl1).map (·.2)).Nodup := (pm.map (·.2)).nodup_iff.mpr (List.nodup_cons.mpr ⟨hm, T.one⟩)
      have len : (L.take pl1 ++ (x, k) :: L.drop pl1).length = L.length + 1 := pm.length_eq
      have esz : (SetTable.insertAt es pl1 (tupleKeyHash kn k, Value.ref x)).size = L.length + 1 := by
        have z := congrArg List.length row
        rwa [Array.length_toList, List.length_map, len] at z
      generalize SetTable.insertAt es pl1 (tupleKeyHash kn k, Value.ref x) = es1 at row esz ⊢
      generalize L.take pl1 ++ (x, k) :: L.drop pl1 = L1 at a3' row pm one len
      refine wpAny_bind (wpAny_storeSet_of ho dat ?_ (by rw [esz, sizeLine_eq]; omega))
      have sb : Heap.SameBut S s.heap (s.heap.update S (Obj.putSet es1 t2)) := Heap.SameBut.update ..
      have ho1 := store_at (es' := es1) (t' := t2) ho dat
      generalize s.heap.update S (Obj.putSet es1 t2) = h1 at sb ho1 ⊢
      have key1 : ∀ p ∈ L1, IsTupleKey kn h1 p.2 p.1 := fun p hp => by
        rcases List.mem_cons.mp (pm.mem_iff.mp hp) with rfl | hp
        · exact key_stays hx ho dat sb
        · exact key_stays (T.key p hp) ho dat sb
      by_cases full2 : t2.tooFull = true
      · have ge : (L.length + 1) * 5 ≥ t2.mask * 3 := by
          unfold SetTable.tooFull at full2
          rwa [decide_eq_true_eq, fill2] at full2
        rw [p3, a4] at ge
        have big : (t.mask = 7 ∧ L.length = 4) ∨ (t.mask = 31 ∧ L.length = 18) := by
          rcases T.tab.mok with e | e | e <;> rw [e] at ge room
          · exact .inl ⟨e, by omega⟩
          · exact .inr ⟨e, by omega⟩
          · exact absurd ge (by omega)
        have anew : ∀ M, SetTable.sizeAbove (SetTable.grown (L.length + 1)) = M + 1 → MaskOk M → (L.length + 1) * 5 < M * 3 → wpAny (model P w) A (setRelay S (SetTable.grown (es.size + 1)) >>= fun _ => pure true) Q E { s with heap := h1 } := by
          intro M m1 m2 m3
          rw [many]
          have pz : t2.place.size = es1.size := by rw [a3'.sz, List.length_map, len, esz]
          refine wpAny_bind (relaid (s := { s with heap := h1 }) (L := L1) ho1 ⟨ex.1, ex.2.1, ex.2.2⟩ rfl row pz a3'.dm (by rw [esz, p3, a4]; rcases big with ⟨e, f⟩ | ⟨e, f⟩ <;> omega) one key1 (by rw [len]; exact few) m1 m2 (by rw [len]; exact m3) ?_)
          intro h2 L2 es2 ep2 t3 sb2 T2 pm2
          exact wpAny_pure (q true h2 L2 es2 ep2 t3 (sb.trans sb2) T2 (by rw [if_neg hm]; exact pm2.trans pm))
        rw [full2]
        simp only [Bool.not_false, Bool.and_self, if_true]
        rcases big with ⟨_, f⟩ | ⟨_, f⟩
        · exact anew 31 (by rw [f]; exact size_20) (.inr (.inl rfl)) (by omega)
        · exact anew 127 (by rw [f]; exact size_76) (.inr (.inr rfl)) (by omega)
      · simp only [Bool.not_false, Bool.true_and, full2, Bool.false_eq_true, if_false]
        have lt : (L.length + 1) * 5 < t2.mask * 3 := by
          unfold SetTable.tooFull at full2
          rw [decide_eq_true_eq, fill2] at full2
          omega
        exact wpAny_pure (q true h1 L1 es1 (ep + 1) t2 sb ⟨⟨_, ho1, ⟨ex.1, ex.2.1, ex.2.2⟩, rfl⟩, row, a3', one, key1, by rw [len]; exact lt, by rw [len]; exact few⟩ (by rw [if_neg hm]; exact pm))
    cases hp : t1.plain with
    | true =>
      simp only [hp, if_true]
      refine wpAny_bind (hash_by pl hx fun c => ?_)
      cases c with
      | true => exact behind t1 rfl rfl rfl
      | false => exact behind { t1 with plain := false } rfl rfl rfl
    | false =>
      simp only [hp, Bool.false_eq_true, if_false]
      refine wpAny_bind (wpAny_pure ?_)
      exact behind t1 rfl rfl rfl
end
end NK
/-! set(xs) of texts, of tuples of texts and ints; its len -/
namespace NK
open PySem PySem.Spec PyProof.Rows L2
/-- how many unlike ones there are among the first i -/
def un {α : Type} [DecidableEq α] (xs : List α) (i : Nat) : Nat := (List.range i).countP fun j => match xs[j]? with
  | some x => !decide (x ∈ xs.take j)
  | none => false
section
variable {α : Type} [DecidableEq α]
theorem un_zero (xs : List α) : un xs 0 = 0 := rfl
theorem un_succ {xs : List α} {i : Nat} {x : α} (h : xs[i]? = some x) : un xs (i + 1) = if x ∈ xs.take i then un xs i else un xs i + 1 := by
  unfold un
  rw [List.range_succ, List.countP_append, List.countP_singleton, h]
  by_cases m : x ∈ xs.take i <;> simp [m]
theorem un_le (xs : List α) (i : Nat) : un xs i ≤ i := by
  unfold un
  exact Nat.le_trans List.countP_le_length (Nat.le_of_eq List.length_range)
theorem take_snoc {xs : List α} {i : Nat} {x : α} (h : xs[i]? = some x) : xs.take (i + 1) = xs.take i ++ [x] := by
  rw [List.take_add_one, h]
  rfl
theorem un_nodup {xs : List α} (h : xs.Nodup) : ∀ i, i ≤ xs.length → un xs i = i
  | 0, _ => rfl
  | i + 1, hi => by
    have e := List.getElem?_eq_getElem hi
    rw [un_succ e, un_nodup h i (Nat.le_of_succ_le hi), if_neg]
    intro m
    have z : (xs.take (i + 1)).Nodup := h.sublist (List.take_sublist _ _)
    rw [take_snoc e] at z
    exact (List.nodup_append.mp z).2.2 _ m _ (List.mem_singleton.mpr rfl) rfl
end
section
variable {P : Program} {w : World} {κ : Type} [DecidableEq κ] {kn : KeyKind P w κ} {h0 : Heap} {S : Addr}
/-- what is known behind i of the tuples ks -/
def JT (kn : KeyKind P w κ) (S : Addr) (ks : List (Addr × List κ)) (i : Nat) (h : Heap) : Prop := ∃ L es ep t, TT kn h S L es ep t ∧ L.length = un (ks.map (·.2)) i ∧ (∀ k, k ∈ L.map (·.2) ↔ k ∈ (ks.map (·.2)).take i) ∧ ∀ p ∈ L, p ∈ ks
theorem fills_tups (pl : Plain kn) {ks : List (Addr × List κ)} (hk : ∀ p ∈ ks, IsTupleKey kn h0 p.2 p.1) (few : ks.length < 64) (newS : h0.get? S = none) : Fills P w h0 S (ks.map fun p => Value.ref p.1) (JT kn S ks) := by
  have key_on : ∀ {h : Heap}, Stands h0 h → ∀ p ∈ ks, IsTupleKey kn h p.2 p.1 := fun st p hp => by
    obtain ⟨o, its, n, ho, r⟩ := hk p hp
    exact ⟨o, its, n, st _ _ ho, r⟩
  constructor
  · rintro i h h' ⟨L, es, ep, t, T, l, m, sub⟩ hS st
    obtain ⟨o, ho, r⟩ := T.obj
    exact ⟨L, es, ep, t, ⟨⟨o, hS o ho, r⟩, T.row, T.tab, T.one, fun p hp => key_on st p (sub p hp), T.room, T.few⟩, l, m, sub⟩
  · rintro A E i u s Q low hu ⟨L, es, ep, t, T, l, m, sub⟩ st q
    rw [List.getElem?_map] at hu
    cases e : ks[i]? with
    | none =>
      rw [e] at hu
      cases hu
    | some p =>
      rw [e] at hu
      cases hu
      have pin : p ∈ ks := List.mem_of_getElem? e
      have e2 : (ks.map (·.2))[i]? = some p.2 := by rw [List.getElem?_map, e]; rfl
      have hi : i < ks.length := (List.getElem?_eq_some_iff.mp e).1
      have le := un_le (ks.map (·.2)) i
      unfold setAdd
      refine wpAny_holding (wpAny_bind (wpAny_pyHash_tuple low (key_on st p pin) ?_))
      refine added (s := { s with toks := s.toks + (p.2.length + 1) }) pl T (key_on st p pin) low (by omega) fun c h' L' es' ep' t' sb T' w' => ?_
      refine q c h' _ (Nat.le_add_right _ _) sb ⟨L', es', ep', t', T', ?_⟩
      rw [un_succ e2, take_snoc e2]
      by_cases hm : p.2 ∈ L.map (·.2)
      · rw [if_pos hm] at w'
        subst w'
        rw [if_pos ((m _).mp hm)]
        refine ⟨l, fun k => ?_, sub⟩
        rw [m k, List.mem_append, List.mem_singleton]
        exact ⟨.inl, fun z => z.elim id fun z => z ▸ (m _).mp hm⟩
      · rw [if_neg hm] at w'
        rw [if_neg fun z => hm ((m _).mpr z)]
        refine ⟨by rw [w'.length_eq, List.length_cons, l], fun k => ?_, fun r hr => ?_⟩
        · rw [(w'.map (·.2)).mem_iff, List.map_cons, List.mem_cons, m k, List.mem_append, List.mem_singleton]
          exact or_comm
        · rcases List.mem_cons.mp (w'.mem_iff.mp hr) with rfl | hr
          · exact pin
          · exact sub r hr
theorem start_tups {ks : List (Addr × List κ)} {h : Heap} (e : h.get? S = some (bareSet w)) : JT kn S ks 0 h :=
  ⟨[], #[], 0, _, ⟨⟨_, e, ⟨rfl, rfl, rfl⟩, rfl⟩, rfl, ⟨List.Pairwise.nil, rfl, rfl, .inl rfl, fun x hx => (nomatch hx), fun i x j hi => by simp at hi⟩, List.nodup_nil, fun p hp => (nomatch hp), by show 0 * 5 < 7 * 3; decide, by show 0 < 64; decide⟩, rfl, fun k => by simp, fun p hp => (nomatch hp)⟩
/-- the same of keys that are known by value themselves -/
def JK (kn : KeyKind P w κ) (S : Addr) (ks : List κ) (i : Nat) (h : Heap) : Prop := h.SetOf kn S (fun k => decide (k ∈ ks.take i)) (un ks i)
theorem setOf_ext {h : Heap} {S : Addr} {F G : κ → Bool} {n m : Nat} (R : h.SetOf kn S F n) (e : ∀ k, F k = G k) (en : n = m) : h.SetOf kn S G m := by
  obtain ⟨o, es, ep, t, a, b, c, d, f, r⟩ := R
  subst en
  exact ⟨o, es, ep, t, a, b, c, d, fun k => by rw [← e k]; exact f k, r⟩
theorem fills_keys {ks : List κ} {us : List Value} (hu : ∀ (i : Nat) (u : Value), us[i]? = some u → ∃ k, ks[i]? = some k ∧ kn.is k u = true ∧ u.scannable = true) (few : ks.length + 1 < scanBound) : Fills P w h0 S us (JK kn S ks) := by
  constructor
  · rintro i h h' ⟨o, es, ep, t, ho, r⟩ hS _
    exact ⟨o, es, ep, t, hS o ho, r⟩
  · intro A E i u s Q low hi j st q
    obtain ⟨k, e, is, sc⟩ := hu i u hi
    have il : i < ks.length := (List.getElem?_eq_some_iff.mp e).1
    have le := un_le ks i
    unfold setAdd
    refine wpAny_holding (wpAny_bind (kn.pyHash is ?_))
    refine wpAny_setAddHashed_of (s := { s with toks := s.toks + 1 }) is sc j (by omega) fun h' sb j' => ?_
    refine q _ h' _ (Nat.le_succ _) sb (setOf_ext j' (fun k' => ?_) ?_)
    · rw [take_snoc e]
      simp [List.mem_append]
    · rw [un_succ e]
      by_cases m : k ∈ ks.take i <;> simp [m]
theorem start_keys {ks : List κ} {h : Heap} (e : h.get? S = some (bareSet w)) : JK kn S ks 0 h :=
  ⟨_, #[], 0, _, e, ⟨rfl, rfl, rfl⟩, rfl, fun x hx => by simp at hx, fun k => by simp, by decide, rfl, rfl⟩
end
/-- a set of n members stands there; which they are is not told -/
def SzO (a : Addr) (n : Nat) : HO := .ext fun h => ∃ o es ep t, h.get? a = some o ∧ o.ExactSet ∧ o.data = .set es ep t ∧ t.fits es.size = true ∧ es.size = n
theorem szO_ok {P : Program} {w : World} {H : Hp} {h : Heap} {a : Addr} {n : Nat} (z : ∃ o es ep t, h.get? a = some o ∧ o.ExactSet ∧ o.data = .set es ep t ∧ t.fits es.size = true ∧ es.size = n) : ObjOk P w H h a (SzO a n) := by
  refine ⟨z, let ⟨o, _, _, _, e, _⟩ := z; ⟨o, e⟩, ?_⟩
  rintro h1 h2 ⟨o, es, ep, t, e, r⟩ k
  exact ⟨o, es, ep, t, k o e, r⟩
/-- the items of a list, told apart: texts, or tuples of texts and ints -/
inductive Told (K : PySem.W.Frag) (H : Hp) : List V → Nat → Prop
  | keys (ks : List Key) : ks.length < 1000 → Told K H (ks.map kV) (un ks ks.length)
  | tups (ks : List (Addr × List Key)) : (∀ p ∈ ks, SqT K H p.1 (p.2.map kV)) → ks.length < 64 → Told K H (ks.map fun p => V.ref p.1) (un (ks.map (·.2)) ks.length)
/-- set(xs) -/
def rSetU (K : PySem.W.Frag) : List V → Hp → VK → Prop := fun xs H Q => ∃ (l : Addr) (vs : List V) (n : Nat), xs = [V.ref l] ∧ SqL K H l vs ∧ Told K H vs n ∧ ∀ a, H a = none → Q (.ref a) (upd H a (SzO a n))
section
variable {X : Cx}
theorem vals_keys {ks : List Key} {us : List Value} (r : Vals (ks.map kV) us) : ∀ (i : Nat) (u : Value), us[i]? = some u → ∃ k, ks[i]? = some k ∧ keyIs k u = true ∧ u.scannable = true := by
  induction ks generalizing us with
  | nil =>
    cases r
    intro i u e
    cases e
  | cons k ks ih =>
    cases r with
    | cons rk rr =>
      intro i u e
      cases i with
      | zero =>
        cases e
        refine ⟨k, rfl, ?_, key_scan rk⟩
        cases k with
        | inl n =>
          obtain ⟨t, rfl⟩ := rk
          exact keyIs_int n t
        | inr x =>
          obtain ⟨t, rfl⟩ := rk
          exact keyIs_str x t
      | succ i => exact ih rr i u e
theorem vals_refs {ks : List (Addr × List Key)} {us : List Value} (r : Vals (ks.map fun p => V.ref p.1) us) : us = ks.map fun p => Value.ref p.1 := by
  induction ks generalizing us with
  | nil =>
    cases r
    rfl
  | cons p ks ih =>
    cases r with
    | cons rk rr =>
      rw [List.map_cons, ← ih rr]
      exact congrArg (· :: _) rk
theorem items_keys {P : Program} {w : World} {ks : List Key} {us : List Value} (r : Vals (ks.map kV) us) : ItemsAre (mixKind P w) ks us := by
  induction ks generalizing us with
  | nil =>
    cases r
    exact .nil
  | cons k ks ih =>
    cases r with
    | cons rk rr =>
      refine .cons ?_ (ih rr)
      cases k with
      | inl n =>
        obtain ⟨t, rfl⟩ := rk
        exact keyIs_int n t
      | inr x =>
        obtain ⟨t, rfl⟩ := rk
        exact keyIs_str x t
theorem tupKey_of {pins : List (Addr × Obj)} {σ : L2.St} {H : Hp} {s : Shared} {b : Addr} {k : List Key} (I : Inv X pins σ H s) (h : SqT X.K H b (k.map kV)) : IsTupleKey (mixKind X.prog X.w) s.heap k b := by
  obtain ⟨its, r, ⟨o, ho, hc, n, hd⟩, _⟩ := I.tuple h
  exact ⟨o, its.toArray, n, ho, hc, hd, items_keys r⟩
theorem cr_setU (hc : X.calm = true) (hu : X.A.units + 64 < cLine) : CallR X (.type "set") (rSetU X.K) := by
  intro pins s σ H xs us Q I r h
  obtain ⟨l, vs, n, rfl, hl, told, q⟩ := h
  obtain ⟨u, rfl, ru⟩ := r.one
  obtain rfl : u = Value.ref l := ru
  obtain ⟨its, rv, pl, hz⟩ := I.list hl
  have hn : H s.heap.objs.size = none := I.hok.fresh (Nat.le_refl _)
  have fin : ∀ (h' : Heap) (tk : Nat), Stands s.heap h' → (∃ o es ep t, h'.get? s.heap.objs.size = some o ∧ o.ExactSet ∧ o.data = .set es ep t ∧ t.fits es.size = true ∧ es.size = n) → EP X pins σ Q (.ref s.heap.objs.size) { s with heap := h', toks := tk } := fun h' tk st z =>
    ⟨.ref s.heap.objs.size, upd H s.heap.objs.size (SzO s.heap.objs.size n), I.laid (t' := tk) st (Nat.le_refl _) (szO_ok z), rfl, q _ hn⟩
  cases told with
  | keys ks few =>
    have lk : its.toArray.size = ks.length := by rw [List.size_toArray, ← rv.length, List.length_map]
    refine set_call (J := JK (mixKind X.prog X.w) s.heap.objs.size ks) (I.ok.hd hc) (by omega) pl.isList (fills_keys (fun i u e => ?_) (by unfold scanBound; omega)) (fun h e _ => start_keys e) fun h' tk st j => fin h' tk st ?_
    · exact vals_keys rv i u (by simpa using e)
    · rw [lk] at j
      obtain ⟨o, es, ep, t, a, b, c, _, _, _, f, g⟩ := j
      exact ⟨o, es, ep, t, a, b, c, f, g⟩
  | tups ks hk few =>
    have lk : its.toArray.size = ks.length := by rw [List.size_toArray, ← rv.length, List.length_map]
    refine set_call (J := JT (mixKind X.prog X.w) s.heap.objs.size ks) (I.ok.hd hc) (by omega) pl.isList ?_ (fun h e _ => start_tups e) fun h' tk st j => fin h' tk st ?_
    · rw [List.toList_toArray, vals_refs rv]
      exact fills_tups (plain_mix _ _) (fun p hp => tupKey_of I (hk p hp)) few (gone_at (Nat.le_refl _))
    · rw [lk] at j
      obtain ⟨L, es, ep, t, T, l1, _, _⟩ := j
      obtain ⟨o, a, b, c⟩ := T.obj
      have sz : es.size = L.length := by
        have z := congrArg List.length T.row
        rwa [Array.length_toList, List.length_map] at z
      exact ⟨o, es, ep, t, a, b, c, TT.fits (s := { s with heap := h' }) T, by rw [sz, l1]⟩
/-- len of such a set -/
theorem call_lenSz : CallR X (.builtin "len") (fun xs H Q => ∃ (a : Addr) (n : Nat), xs = [V.ref a] ∧ H a = some (SzO a n) ∧ n < 1000000 ∧ Q (.int (n : Nat)) H) := by
  intro pins s σ H xs us Q I r h
  obtain ⟨a, n, rfl, e, few, q⟩ := h
  obtain ⟨u, rfl, ru⟩ := r.one
  obtain rfl : u = Value.ref a := ru
  obtain ⟨o, es, ep, t, ho, ex, hd, hf, rfl⟩ := (I.hok a _ e).1
  exact call_len_set ho ex hd hf (by omega) ⟨.int es.size, H, I.tok _, ⟨_, rfl⟩, q⟩
end
end NK
/-! texts in order, pairs of texts in order -/
namespace NK
open PySem PySem.Spec PyProof.Rows L2
/-- x ahead of y, as texts are ordered -/
def sl (x y : Str) : Bool := decide (x.cps.toList < y.cps.toList)
theorem str_eq {x y : Str} (h : x.cps.toList = y.cps.toList) : x = y := by
  obtain ⟨⟨x⟩⟩ := x
  obtain ⟨⟨y⟩⟩ := y
  have h' : x = y := h
  rw [h']
theorem sl_irr (x : Str) : sl x x = false := decide_eq_false (List.lt_irrefl _)
theorem sl_tr {x y z : Str} (a : sl x y = true) (b : sl y z = true) : sl x z = true := decide_eq_true (List.lt_trans (of_decide_eq_true a) (of_decide_eq_true b))
theorem sl_tot (x y : Str) : sl x y = true ∨ x = y ∨ sl y x = true := by
  rcases List.le_total x.cps.toList y.cps.toList with h | h
  · by_cases q : y.cps.toList ≤ x.cps.toList
    · exact .inr (.inl (str_eq (List.le_antisymm h q)))
    · exact .inl (decide_eq_true (List.not_le.mp q))
  · by_cases q : x.cps.toList ≤ y.cps.toList
    · exact .inr (.inl (str_eq (List.le_antisymm q h)))
    · exact .inr (.inr (decide_eq_true (List.not_le.mp q)))
/-- an order that is strict and total -/
structure Ord {α : Type} (lt : α → α → Bool) : Prop where
  irr : ∀ x, lt x x = false
  tr : ∀ x y z, lt x y = true → lt y z = true → lt x z = true
  tot : ∀ x y, lt x y = true ∨ x = y ∨ lt y x = true
section
variable {α : Type} {lt : α → α → Bool}
theorem Ord.asym (O : Ord lt) {x y : α} (h : lt x y = true) : lt y x = false := by
  cases q : lt y x with
  | false => rfl
  | true =>
    have z := O.tr x y x h q
    rw [O.irr] at z
    cases z
theorem Ord.swo (O : Ord lt) : SrtO.Swo lt := by
  refine ⟨fun x y h => O.asym h, fun x y z a b => ?_⟩
  cases q : lt z x with
  | false => rfl
  | true =>
    rcases O.tot z y with h | h | h
    · rw [b] at h
      cases h
    · subst h
      rw [a] at q
      cases q
    · have r := O.tr y z x h q
      rw [a] at r
      cases r
/-- rising, no two alike -/
def Asc (lt : α → α → Bool) (l : List α) : Prop := l.Pairwise fun a b => lt a b = true
theorem asc_nodup (O : Ord lt) {l : List α} (h : Asc lt l) : l.Nodup := List.Pairwise.imp (fun {a b} q e => by
  subst e
  rw [O.irr] at q
  cases q) h
theorem asc_of (O : Ord lt) {l : List α} (nd : l.Nodup) (h : l.Pairwise fun a b => lt b a = false) : Asc lt l := by
  refine List.Pairwise.imp₂ (fun {a b} ne q => ?_) nd h
  rcases O.tot a b with z | z | z
  · exact z
  · exact absurd z ne
  · rw [q] at z
    cases z
/-- two rising lists of the same things are one -/
theorem asc_uniq (O : Ord lt) : ∀ {l m : List α}, Asc lt l → Asc lt m → (∀ x, x ∈ l ↔ x ∈ m) → l = m
  | [], [], _, _, _ => rfl
  | [], y :: m, _, _, h => absurd ((h y).mpr List.mem_cons_self) List.not_mem_nil
  | x :: l, [], _, _, h => absurd ((h x).mp List.mem_cons_self) List.not_mem_nil
  | x :: l, y :: m, hl, hm, h => by
    obtain ⟨l1, l2⟩ := List.pairwise_cons.mp hl
    obtain ⟨m1, m2⟩ := List.pairwise_cons.mp hm
    have e : x = y := by
      rcases List.mem_cons.mp ((h x).mp List.mem_cons_self) with e | a
      · exact e
      · rcases List.mem_cons.mp ((h y).mpr List.mem_cons_self) with e | b
        · exact e.symm
        · have z := O.tr _ _ _ (m1 x a) (l1 y b)
          rw [O.irr] at z
          cases z
    subst e
    refine congrArg (x :: ·) (asc_uniq O l2 m2 fun z => ⟨fun a => ?_, fun a => ?_⟩)
    · rcases List.mem_cons.mp ((h z).mp (List.mem_cons_of_mem _ a)) with e | b
      · subst e
        have q := l1 z a
        rw [O.irr] at q
        cases q
      · exact b
    · rcases List.mem_cons.mp ((h z).mpr (List.mem_cons_of_mem _ a)) with e | b
      · subst e
        have q := m1 z a
        rw [O.irr] at q
        cases q
      · exact b
end
theorem ord_sl : Ord sl := ⟨sl_irr, fun _ _ _ => sl_tr, sl_tot⟩
abbrev Pr := Str × Str
/-- pairs of texts, by the first, then by the second -/
def pl (p q : Pr) : Bool := if p.1 = q.1 then sl p.2 q.2 else sl p.1 q.1
theorem pl_same {x y z : Str} : pl (x, y) (x, z) = sl y z := if_pos rfl
theorem pl_ne {p q : Pr} (h : p.1 ≠ q.1) : pl p q = sl p.1 q.1 := if_neg h
theorem ord_pl : Ord pl := by
  refine ⟨fun p => ?_, fun p q r a b => ?_, fun p q => ?_⟩
  · obtain ⟨x, y⟩ := p
    rw [pl_same]
    exact sl_irr y
  · obtain ⟨x, y⟩ := p
    obtain ⟨x2, y2⟩ := q
    obtain ⟨x3, y3⟩ := r
    by_cases e1 : x = x2
    · subst e1
      by_cases e2 : x = x3
      · subst e2
        rw [pl_same] at a b ⊢
        exact sl_tr a b
      · rw [pl_ne (show (x, y2).1 ≠ (x3, y3).1 from e2)] at b
        rw [pl_ne (show (x, y).1 ≠ (x3, y3).1 from e2)]
        exact b
    · rw [pl_ne (show (x, y).1 ≠ (x2, y2).1 from e1)] at a
      by_cases e2 : x2 = x3
      · subst e2
        rw [pl_ne (show (x, y).1 ≠ (x2, y3).1 from e1)]
        exact a
      · rw [pl_ne (show (x2, y2).1 ≠ (x3, y3).1 from e2)] at b
        have c := sl_tr a b
        have ne : x ≠ x3 := fun e => by
          subst e
          have z := sl_tr b a
          rw [sl_irr] at z
          cases z
        rw [pl_ne (show (x, y).1 ≠ (x3, y3).1 from ne)]
        exact c
  · obtain ⟨x, y⟩ := p
    obtain ⟨x2, y2⟩ := q
    by_cases e1 : x = x2
    · subst e1
      rw [pl_same, pl_same]
      rcases sl_tot y y2 with h | h | h
      · exact .inl h
      · exact .inr (.inl (by rw [h]))
      · exact .inr (.inr h)
    · rw [pl_ne (show (x, y).1 ≠ (x2, y2).1 from e1), pl_ne (show (x2, y2).1 ≠ (x, y).1 from fun e => e1 e.symm)]
      rcases sl_tot x x2 with h | h | h
      · exact .inl h
      · exact absurd h e1
      · exact .inr (.inr h)
/-- sorted texts, by the library's word -/
theorem asc_sortedS {l : List Str} (nd : l.Nodup) (h : sortedS l = true) : Asc sl l := by
  have up : ∀ (r : List Str) (p : Str), risingS p r = true → (p :: r).Pairwise fun a b => sl b a = false := by
    intro r
    induction r with
    | nil => exact fun p _ => List.pairwise_singleton _ _
    | cons x r ih =>
      intro p q
      have q' : (!ltCps x.cps.toList p.cps.toList && risingS x r) = true := q
      rw [Bool.and_eq_true, Bool.not_eq_true'] at q'
      have hx := ih x q'.2
      have e0 : sl x p = false := by
        have z := q'.1
        unfold sl
        first
          | (rw [ltCps_eq] at z; exact z)
          | simpa [ltCps] using z
          | exact z
      refine List.pairwise_cons.mpr ⟨fun y hy => ?_, hx⟩
      rcases List.mem_cons.mp hy with rfl | hy
      · exact e0
      · exact ord_sl.swo.tr p x y e0 ((List.pairwise_cons.mp hx).1 y hy)
  cases l with
  | nil => exact List.Pairwise.nil
  | cons x r => exact asc_of ord_sl nd (up r x h)
end NK
/-! sorted of pairs of texts; a dict whose keys are such -/
namespace NK
open PySem PySem.Spec PyProof.Rows L2
/-- v is the tuple of these two texts -/
def IsPT (h : Heap) (v : Value) (p : Pr) : Prop := ∃ a o t u n, v = .ref a ∧ h.get? a = some o ∧ o.cls = .type "tuple" ∧ o.data = .seq #[.str p.1 t, .str p.2 u] n
theorem IsPT.on {h h' : Heap} {v : Value} {p : Pr} (x : IsPT h v p) (k : ∀ b o, h.get? b = some o → o.cls = .type "tuple" → h'.get? b = some o) : IsPT h' v p := by
  obtain ⟨a, o, t, u, n, e, ho, hc, hd⟩ := x
  exact ⟨a, o, t, u, n, e, k a o ho hc, hc, hd⟩
theorem IsPT.one {h : Heap} {v : Value} {p q : Pr} (x : IsPT h v p) (y : IsPT h v q) : p = q := by
  obtain ⟨a, o, t, u, n, e, ho, hc, hd⟩ := x
  obtain ⟨a2, o2, t2, u2, n2, e2, ho2, hc2, hd2⟩ := y
  rw [e] at e2
  cases e2
  rw [ho] at ho2
  cases ho2
  rw [hd] at hd2
  injection hd2 with z _
  obtain ⟨p1, p2⟩ := p
  obtain ⟨q1, q2⟩ := q
  simp only [Array.mk.injEq, List.cons.injEq, Value.str.injEq, and_true] at z
  rw [z.1.1, z.2.1]
section
variable {P : Program} {w : World} {A : Around} {E : Value → Shared → Prop} {s : Shared}
theorem cmp_pt {vs : List Value} {k : Value → Pr} (hp : ∀ v ∈ vs, IsPT s.heap v (k v)) : SrtO.Cmp P w A s (tuples' true) (fun p => p.1 ∈ vs) (SrtO.lt2 fun v u => pl (k v) (k u)) := by
  intro p q mp mq
  obtain ⟨a, o, t, u, n, e, ho, _, hd⟩ := hp _ mp
  obtain ⟨a2, o2, t2, u2, n2, e2, ho2, _, hd2⟩ := hp _ mq
  show wpAny (model P w) A (keyLt' (tuples' true) p.1 q.1) (fun r s' => s' = s ∧ r = pl (k p.1) (k q.1)) (fun _ _ => False) s
  generalize k p.1 = x at hd ⊢
  generalize k q.1 = y at hd2 ⊢
  obtain ⟨x1, x2⟩ := x
  obtain ⟨y1, y2⟩ := y
  rw [e, e2]
  refine PySem.W.kat_lt ho hd ho2 hd2 ?_
  show PySem.W.KatLex P w A true (decide (2 < 2)) _ [(.str x1 t, .str y1 t2), (.str x2 u, .str y2 u2)] 0 s
  refine PySem.W.kat_cons (SeqAt.EqAt.str_str x1 t y1 t2 P w _ _ (PySem.W.kat_go (fun f1 => ?_) fun f1 => ?_))
  · have g1 : x1 = y1 := by simpa using f1
    subst g1
    refine PySem.W.kat_yes (PySem.W.kat_cons (SeqAt.EqAt.str_str x2 u y2 u2 P w _ _ (PySem.W.kat_go (fun f2 => ?_) fun f2 => ?_)))
    · have g2 : x2 = y2 := by simpa using f2
      subst g2
      exact PySem.W.kat_yes (PySem.W.kat_nil ⟨rfl, (ord_pl.irr (x1, x2)).symm⟩)
    · refine PySem.W.kat_no (PySem.W.kat_one _ _ (PyProof.Rows.lt_str ?_))
      exact (show s = s ∧ decide (x2.cps.toList < y2.cps.toList) = pl (x1, x2) (x1, y2) from ⟨rfl, pl_same.symm⟩)
  · have g1 : x1 ≠ y1 := by simpa using f1
    exact PySem.W.kat_no (oneLt_str ⟨rfl, (pl_ne (show (x1, x2).1 ≠ (y1, y2).1 from g1)).symm⟩)
theorem firsts_pt {h : Heap} {k : Value → Pr} : ∀ {vs : List Value}, (∀ v ∈ vs, IsPT h v (k v)) → ∃ fs : List Value, PySem.W.KatTups h vs fs ∧ fs.length = vs.length ∧ ∀ f ∈ fs, ∃ x t, f = Value.str x t
  | [], _ => ⟨[], .nil, rfl, fun f hf => (nomatch hf)⟩
  | v :: vs, hp => by
    obtain ⟨fs, a, b, c⟩ := firsts_pt (vs := vs) fun u hu => hp u (List.mem_cons_of_mem _ hu)
    obtain ⟨d, o, t, u, n, e, ho, hc, hd⟩ := hp v List.mem_cons_self
    refine ⟨.str (k v).1 t :: fs, ?_, by rw [List.length_cons, List.length_cons, b], fun f hf => ?_⟩
    · subst e
      exact .cons ho hc hd rfl a
    · rcases List.mem_cons.mp hf with rfl | hf
      · exact ⟨_, _, rfl⟩
      · exact c f hf
theorem sortable_pt {l : Addr} {vs : List Value} {k : Value → Pr} (some1 : 0 < vs.length) (hp : ∀ v ∈ vs, IsPT s.heap v (k v)) (nt : ∀ o, s.heap.get? l = some o → o.cls ≠ .type "tuple") : SrtO.SortableO P w A s l vs fun v u => pl (k v) (k u) := by
  intro h' kp
  have hp' : ∀ v ∈ vs, IsPT h' v (k v) := fun v hv => (hp v hv).on fun b o e c => kp b o (fun z => by subst z; exact nt o e c) e
  obtain ⟨fs, a, b, c⟩ := firsts_pt hp'
  refine ⟨tuples' true, fun Q E q => PySem.W.kat_kind (T := .type "str") a (by omega) (fun f hf => ?_) (by rfl) ?_, cmp_pt (s := { s with heap := h' }) hp'⟩
  · obtain ⟨x, t, rfl⟩ := c f hf
    exact PySem.W.Looks.now
  · rw [show (Value.type "str" != Value.type "tuple") = true from by first | decide +kernel | rfl | decide]
    exact q
end
/-- where tuples stand, and what they say -/
abbrev Qs := List (Addr × Pr)
def refsOf (qs : Qs) : List Value := qs.map fun q => Value.ref q.1
def sayOf (qs : Qs) (v : Value) : Pr := ((qs.find? fun q => match v with
  | .ref a => decide (q.1 = a)
  | _ => false).map (·.2)).getD (Str.empty, Str.empty)
theorem say_at {h : Heap} {qs : Qs} (hp : ∀ q ∈ qs, IsPT h (.ref q.1) q.2) {q : Addr × Pr} (m : q ∈ qs) : sayOf qs (.ref q.1) = q.2 := by
  unfold sayOf
  cases e : qs.find? fun r => decide (r.1 = q.1) with
  | none =>
    have z := List.find?_eq_none.mp e q m
    simp at z
  | some r =>
    have z := List.find?_some e
    have z' : r.1 = q.1 := of_decide_eq_true z
    have m' := List.mem_of_find?_eq_some e
    have y := hp r m'
    rw [z'] at y
    exact y.one (hp q m)
/-- a stable arrangement of the tuples, said again with what they say -/
theorem told_out {h : Heap} {qs : Qs} (hp : ∀ q ∈ qs, IsPT h (.ref q.1) q.2) {out : List Value} (srt : SrtO.Srtd (fun v u => pl (sayOf qs v) (sayOf qs u)) out) (stb : SrtO.Stb (fun v u => pl (sayOf qs v) (sayOf qs u)) out (refsOf qs)) :
    ∃ rs : Qs, out = refsOf rs ∧ rs.Perm qs ∧ rs.Pairwise fun a b => pl b.2 a.2 = false := by
  have pm : out.Perm (refsOf qs) := stb.perm
  let f : Value → Addr × Pr := fun v => (match v with
    | .ref a => a
    | _ => 0, sayOf qs v)
  have back : (refsOf qs).map f = qs := by
    unfold refsOf
    rw [List.map_map]
    conv => rhs; rw [← List.map_id qs]
    refine List.map_congr_left fun q m => ?_
    show (q.1, sayOf qs (.ref q.1)) = q
    rw [say_at hp m]
  refine ⟨out.map f, ?_, ?_, ?_⟩
  · unfold refsOf
    rw [List.map_map]
    conv => lhs; rw [← List.map_id out]
    refine List.map_congr_left fun v m => ?_
    obtain ⟨q, _, rfl⟩ := List.mem_map.mp (pm.mem_iff.mp m)
    rfl
  · have z := pm.map f
    rwa [back] at z
  · rw [List.pairwise_map]
    exact srt
theorem vals_qs : ∀ (qs : Qs), Vals (qs.map fun q => V.ref q.1) (refsOf qs)
  | [] => .nil
  | q :: qs => .cons rfl (vals_qs qs)
theorem qs_vals {qs : Qs} {us : List Value} (r : Vals (qs.map fun q => V.ref q.1) us) : us = refsOf qs := by
  induction qs generalizing us with
  | nil =>
    cases r
    rfl
  | cons q qs ih =>
    cases r with
    | cons a b =>
      rw [ih b]
      exact congrArg (· :: _) a
section
variable {X : Cx} {pins : List (Addr × Obj)} {σ : L2.St} {H : Hp} {s : Shared}
theorem pt_of (I : Inv X pins σ H s) {a : Addr} {p : Pr} (h : SqT X.K H a [.str p.1, .str p.2]) : IsPT s.heap (.ref a) p := by
  obtain ⟨its, r, ⟨o, ho, hc, n, hd⟩, _⟩ := I.tuple h
  cases r with
  | cons r1 r =>
    cases r with
    | cons r2 r =>
      cases r
      obtain ⟨t, rfl⟩ := r1
      obtain ⟨u, rfl⟩ := r2
      exact ⟨a, o, t, u, n, rfl, ho, hc, hd⟩
/-- sorted(xs) of a list of pairs of texts -/
def rSortPT (K : PySem.W.Frag) : List V → Hp → VK → Prop := fun xs H Q => ∃ (a : Addr) (qs : Qs), xs = [V.ref a] ∧ SqL K H a (qs.map fun q => V.ref q.1) ∧ (∀ q ∈ qs, SqT K H q.1 [.str q.2.1, .str q.2.2]) ∧
  ∀ (rs : Qs) (p : Addr), rs.Perm qs → (rs.Pairwise fun a b => pl b.2 a.2 = false) → H p = none → Q (.ref p) (upd H p (.lst (rs.map fun q => V.ref q.1)))
theorem cr_sortPT : CallR X (.builtin "sorted") (rSortPT X.K) := by
  intro pins s σ H xs us Q I r h
  obtain ⟨a, qs, rfl, hl, hq, q⟩ := h
  obtain ⟨u, rfl, ru⟩ := r.one
  obtain rfl : u = Value.ref a := ru
  obtain ⟨its, rv, pl0, hz⟩ := I.list hl
  have ei := qs_vals rv
  subst ei
  have hp : ∀ q ∈ qs, IsPT s.heap (.ref q.1) q.2 := fun q m => pt_of I (hq q m)
  have hp2 : ∀ v ∈ refsOf qs, IsPT s.heap v (sayOf qs v) := fun v m => by
    obtain ⟨q, m2, rfl⟩ := List.mem_map.mp m
    rw [say_at hp m2]
    exact hp q m2
  refine SrtO.sorted_ord (ltv := fun v u => pl (sayOf qs v) (sayOf qs u)) ⟨fun x y => (ord_pl.swo.asym _ _), fun x y z => ord_pl.swo.tr _ _ _⟩ pl0.isList (by rw [← rv.length]; exact hz) (fun h2 h1 b hb kk => ?_) fun out srt stb => ?_
  · refine sortable_pt (s := { s with heap := h1 }) (by omega) (fun v m => (hp2 v m).on fun c o e _ => (kk c o e).2) fun o e c => ?_
    rw [hb] at e
    cases e
    exact absurd (Value.type.inj c) (by decide)
  · obtain ⟨rs, rfl, pm, pw⟩ := told_out hp srt stb
    have hn : H (s.heap.objs.size + 1) = none := I.hok.fresh (Nat.le_succ _)
    obtain ⟨n, e⟩ := sortedAll_at s.heap (refsOf qs) (refsOf rs).toArray
    refine ⟨.ref (s.heap.objs.size + 1), upd H (s.heap.objs.size + 1) (.lst (rs.map fun q => V.ref q.1)), I.laid (t' := s.toks) (fun b o e => sortedAll_old e) (Nat.le_succ _) ⟨?_, refsOf rs, n, vals_qs rs, e⟩, rfl, q rs _ pm pw hn⟩
    have z := pm.length_eq
    rw [List.length_map] at hz ⊢
    omega
end
end NK
/-! dict(..) of pairs whose keys are pairs of texts; sorted of such a dict -/
namespace NK
open PySem PySem.Spec PyProof.Rows L2
abbrev kP (p : Pr) : List Key := [.inr p.1, .inr p.2]
theorem kP_inj {p q : Pr} (h : kP p = kP q) : p = q := by
  obtain ⟨a, b⟩ := p
  obtain ⟨c, d⟩ := q
  simp only [kP, List.cons.injEq, Sum.inr.injEq, and_true] at h
  rw [h.1, h.2]
section
variable {X : Cx} {pins : List (Addr × Obj)} {σ : L2.St} {H : Hp} {s : Shared}
/-- the keys of a table, the first of like ones -/
def firstKeys {κ : Type} [DecidableEq κ] (ps : List κ) : List κ := ps.foldl (fun acc k => if k ∈ acc then acc else acc ++ [k]) []
theorem first_mem {κ : Type} [DecidableEq κ] {ps : List κ} {k : κ} : k ∈ firstKeys ps ↔ k ∈ ps := by
  have go : ∀ (ps acc : List κ), k ∈ ps.foldl (fun acc k => if k ∈ acc then acc else acc ++ [k]) acc ↔ k ∈ acc ∨ k ∈ ps := by
    intro ps
    induction ps with
    | nil => intro acc; simp
    | cons p ps ih =>
      intro acc
      rw [List.foldl_cons, ih]
      by_cases m : p ∈ acc
      · rw [if_pos m, List.mem_cons]
        constructor
        · rintro (h | h)
          · exact .inl h
          · exact .inr (.inr h)
        · rintro (h | rfl | h)
          · exact .inl h
          · exact .inl m
          · exact .inr h
      · rw [if_neg m, List.mem_append, List.mem_singleton, List.mem_cons]
        exact or_assoc
  have z := go ps []
  simpa [firstKeys] using z
/-- the table behind all pairs, by its keys alone -/
theorem keys_stored {κ : Type} [DecidableEq κ] (ps : List (κ × Addr × Value)) : (storedAllH [] ps).map (·.1) = firstKeys (ps.map (·.1)) := by
  unfold storedAllH firstKeys
  have go : ∀ (ps acc : List (κ × Addr × Value)), (ps.foldl (fun acc p => storedH acc p.1 p.2.1 p.2.2) acc).map (·.1) = (ps.map (·.1)).foldl (fun acc k => if k ∈ acc then acc else acc ++ [k]) (acc.map (·.1)) := by
    intro ps
    induction ps with
    | nil => intro acc; rfl
    | cons p ps ih =>
      intro acc
      rw [List.foldl_cons, List.map_cons, List.foldl_cons, ih]
      congr 1
      by_cases m : p.1 ∈ acc.map (·.1)
      · rw [if_pos m]
        obtain ⟨q, hq, e⟩ := List.mem_map.mp m
        have z : atKey acc p.1 ≠ none := by
          intro h
          unfold atKey at h
          rw [Option.map_eq_none_iff, List.find?_eq_none] at h
          exact h q hq (decide_eq_true e)
        obtain ⟨r, hr⟩ := Option.ne_none_iff_exists'.mp z
        rw [storedH_old hr, keys_map_putAt]
      · rw [if_neg m]
        have z : atKey acc p.1 = none := by
          unfold atKey
          rw [Option.map_eq_none_iff, List.find?_eq_none]
          intro q hq h
          exact m (List.mem_map.mpr ⟨q, hq, of_decide_eq_true h⟩)
        rw [storedH_new z, List.map_append]
        rfl
  exact go ps []
/-- dict(xs): a list of pairs (q, True), each q a pair of texts; what stands in it is told by its keys -/
def rDictPT (K : PySem.W.Frag) : List V → Hp → VK → Prop := fun xs H Q => ∃ (a : Addr) (ts : List (Addr × Addr × Pr)), xs = [V.ref a] ∧ SqL K H a (ts.map fun t => V.ref t.1) ∧ (∀ t ∈ ts, H t.1 = some (.tup [V.ref t.2.1, .bl true]) ∧ H t.2.1 = some (.tup [.str t.2.2.1, .str t.2.2.2])) ∧
  ∀ (kvs : List (List Key × V)) (p : Addr), kvs.map (·.1) = firstKeys (ts.map fun t => kP t.2.2) → H p = none → Q (.ref p) (upd H p (.dT kvs))
theorem tup_at (I : Inv X pins σ H s) {a : Addr} {xs : List V} (h : H a = some (.tup xs)) : ∃ us, Vals xs us ∧ s.heap.IsTuple a us.toArray := by
  obtain ⟨_, its, r, o, ho, hc, n, hd⟩ := I.hok a _ h
  exact ⟨its, r, o, ho, hc, n, hd⟩
theorem stored_from {κ : Type} [DecidableEq κ] {ps : List (κ × Addr × Value)} : ∀ x ∈ storedAllH [] ps, (∃ y ∈ ps, y.1 = x.1 ∧ y.2.1 = x.2.1) ∧ ∃ y ∈ ps, y.2.2 = x.2.2 := by
  unfold storedAllH
  have go : ∀ (rest acc : List (κ × Addr × Value)), (∀ x ∈ acc, (∃ y ∈ ps, y.1 = x.1 ∧ y.2.1 = x.2.1) ∧ ∃ y ∈ ps, y.2.2 = x.2.2) → (∀ y ∈ rest, y ∈ ps) → ∀ x ∈ rest.foldl (fun acc p => storedH acc p.1 p.2.1 p.2.2) acc, (∃ y ∈ ps, y.1 = x.1 ∧ y.2.1 = x.2.1) ∧ ∃ y ∈ ps, y.2.2 = x.2.2 := by
    intro rest
    induction rest with
    | nil => exact fun acc h _ => h
    | cons p rest ih =>
      intro acc h hr
      rw [List.foldl_cons]
      refine ih _ (fun x hx => ?_) fun y hy => hr y (List.mem_cons_of_mem _ hy)
      have pin := hr p List.mem_cons_self
      unfold storedH at hx
      split at hx
      · obtain ⟨z, hz, rfl⟩ := List.mem_map.mp hx
        obtain ⟨a, b⟩ := h z hz
        unfold putAt
        split
        · exact ⟨a, p, pin, rfl⟩
        · exact ⟨a, b⟩
      · rcases List.mem_append.mp hx with hx | hx
        · exact h x hx
        · rw [List.mem_singleton.mp hx]
          exact ⟨⟨p, pin, rfl, rfl⟩, p, pin, rfl⟩
  exact go ps [] (fun x hx => nomatch hx) fun y hy => hy
theorem refs_vals {β : Type} {f : β → Addr} {l : List β} {us : List Value} (r : Vals (l.map fun t => V.ref (f t)) us) : us = l.map fun t => Value.ref (f t) := by
  induction l generalizing us with
  | nil =>
    cases r
    rfl
  | cons t l ih =>
    cases r with
    | cons a b =>
      rw [List.map_cons, ← ih b]
      exact congrArg (· :: _) a
theorem first_len {κ : Type} [DecidableEq κ] (l : List κ) : (firstKeys l).length ≤ l.length := by
  have fk : ∀ (l acc : List κ), (l.foldl (fun acc k => if k ∈ acc then acc else acc ++ [k]) acc).length ≤ acc.length + l.length := by
    intro l
    induction l with
    | nil => exact fun acc => Nat.le_refl _
    | cons x l ih =>
      intro acc
      rw [List.foldl_cons, List.length_cons]
      have z := ih (if x ∈ acc then acc else acc ++ [x])
      split at z
      · rename_i h
        rw [if_pos h]
        omega
      · rename_i h
        rw [if_neg h]
        rw [List.length_append, List.length_singleton] at z
        omega
  have z := fk l []
  simpa [firstKeys] using z
theorem cr_dictPT (hc : X.calm = true) (hu : X.A.units + 64 < cLine) : CallR X (.type "dict") (rDictPT X.K) := by
  intro pins s σ H xs us Q I r h
  obtain ⟨a, ts, rfl, hl, ht, q⟩ := h
  obtain ⟨u, rfl, ru⟩ := r.one
  obtain rfl : u = Value.ref a := ru
  obtain ⟨its, rv, pl0, hz⟩ := I.list hl
  obtain ⟨o, n, ho, hcl, hdn, hd⟩ := pl0
  have ei : its = ts.map fun t => Value.ref t.1 := refs_vals rv
  subst ei
  have hn : H s.heap.objs.size = none := I.hok.fresh (Nat.le_refl _)
  have pairT : ∀ t ∈ ts, s.heap.IsTuple t.1 #[.ref t.2.1, .bool true] := fun t m => by
    obtain ⟨us, r, pt⟩ := tup_at I (ht t m).1
    cases r with
    | cons r1 r =>
      cases r with
      | cons r2 r =>
        cases r
        cases r1
        cases r2
        exact pt
  have keyT : ∀ t ∈ ts, IsTupleKey (mixKind X.prog X.w) s.heap (kP t.2.2) t.2.1 := fun t m => tupKey_of I (k := kP t.2.2) (.inl (.inl (ht t m).2))
  let ps : List (List Key × Addr × Value) := ts.map fun t => (kP t.2.2, t.2.1, Value.bool true)
  let vs : List (Value × Value) := ts.map fun t => (Value.ref t.2.1, Value.bool true)
  have sized : (ts.map fun t => Value.ref t.1).toArray.size = vs.length := by simp [vs]
  have hz' : ts.length ≤ sizeLine := by rwa [List.length_map] at hz
  have PA := PairArg.list (prog := X.prog) (w := X.w) a (ts.map fun t => Value.ref t.1).toArray (fun j => (ts[j]?.map (·.1)).getD 0) vs
  refine call_dict_pairsH (knd := tupleKind (mixKind X.prog X.w)) (ps := ps) PA (I.ok.hd hc) (show X.A.in1.in1.units < cLine from (by show X.A.units + 1 + 1 < cLine; omega)) ⟨⟨o, n, ho, hcl, hdn, hd⟩, sized, fun j k v e => ?_⟩ ⟨by simp [ps, vs], fun i key v e => ?_⟩ (fun h' hk x hx => ?_) (by simpa [vs] using hz') fun h' tk D st => ?_
  · have e' : (ts.map fun t => (Value.ref t.2.1, Value.bool true))[j]? = some (k, v) := e
    rw [List.getElem?_map] at e'
    cases et : ts[j]? with
    | none =>
      rw [et] at e'
      cases e'
    | some t =>
      rw [et] at e'
      cases e'
      refine ⟨by simp [et], ?_⟩
      simp only [et, Option.map_some, Option.getD_some]
      exact .inl (pairT t (List.mem_of_getElem? et))
  · have e' : (ts.map fun t => (Value.ref t.2.1, Value.bool true))[i]? = some (key, v) := e
    rw [List.getElem?_map] at e'
    cases et : ts[i]? with
    | none =>
      rw [et] at e'
      cases e'
    | some t =>
      rw [et] at e'
      cases e'
      exact ⟨kP t.2.2, t.2.1, by simp [ps, et], rfl⟩
  · obtain ⟨t, m, rfl⟩ := List.mem_map.mp hx
    obtain ⟨o2, its2, n2, h1, r2⟩ := keyT t m
    exact ⟨o2, its2, n2, hk _ _ (Nat.ne_of_lt (Heap.lt_size h1)) List.not_mem_nil h1, r2⟩
  · obtain ⟨o2, es, ep, ho2, hx2, hd2, row, key, nd⟩ := D
    let kvs : List (List Key × V) := (storedAllH [] ps).map fun x => (x.1, V.bl true)
    have len : (storedAllH [] ps).length ≤ sizeLine := by
      have z := congrArg List.length (keys_stored ps)
      rw [List.length_map] at z
      rw [z]
      refine Nat.le_trans (first_len _) ?_
      simpa [ps] using hz'
    have keep : ∀ b o, s.heap.get? b = some o → h'.get? b = some o := fun b o e => st b o List.not_mem_nil e
    have rel : Paired (fun (p : List Key × V) (q : List Key × Addr × Value) => p.1 = q.1 ∧ upd H s.heap.objs.size (.dT kvs) q.2.1 = some (.tup (p.1.map kV)) ∧ RelV p.2 q.2.2) kvs (storedAllH [] ps) := by
      have at_ : ∀ x ∈ storedAllH [] ps, upd H s.heap.objs.size (.dT kvs) x.2.1 = some (.tup (x.1.map kV)) ∧ x.2.2 = Value.bool true := fun x hx => by
        obtain ⟨⟨y, my, e1, e2⟩, y2, my2, e3⟩ := stored_from x hx
        obtain ⟨t, m, rfl⟩ := List.mem_map.mp my
        obtain ⟨t2, m2, rfl⟩ := List.mem_map.mp my2
        refine ⟨?_, e3.symm⟩
        rw [← e1, ← e2, upd_ne (ne_of_none (ht t m).2 hn)]
        exact (ht t m).2
      have go : ∀ l : List (List Key × Addr × Value), (∀ x ∈ l, x ∈ storedAllH [] ps) → Paired (fun (p : List Key × V) (q : List Key × Addr × Value) => p.1 = q.1 ∧ upd H s.heap.objs.size (.dT kvs) q.2.1 = some (.tup (p.1.map kV)) ∧ RelV p.2 q.2.2) (l.map fun x => (x.1, V.bl true)) l := by
        intro l
        induction l with
        | nil => exact fun _ => .nil
        | cons x l ih =>
          intro hx
          obtain ⟨z1, z2⟩ := at_ x (hx x List.mem_cons_self)
          exact .cons ⟨rfl, z1, z2⟩ (ih fun y hy => hx y (List.mem_cons_of_mem _ hy))
      exact go _ fun x hx => hx
    have hm : (s.heap.objs.size == sysModules) = false := beq_eq_false_iff_ne.mpr (Nat.ne_of_gt I.big)
    refine ⟨.ref s.heap.objs.size, upd H s.heap.objs.size (.dT kvs), I.laid (t' := tk) keep (Nat.le_refl _) (show ObjOk X.prog X.w _ h' _ (.dT kvs) from ⟨by simpa [kvs] using len, hm, _, rel, o2, es, ep, ho2, hx2, hd2, row, nd⟩), rfl, q kvs _ ?_ hn⟩
    have z := keys_stored ps
    simp only [kvs, ps, List.map_map] at z ⊢
    exact z
/-- sorted(d) of such a dict -/
def rSortDT : List V → Hp → VK → Prop := fun xs H Q => ∃ (a : Addr) (kvs : List (List Key × V)) (ks : List Pr), xs = [V.ref a] ∧ H a = some (.dT kvs) ∧ kvs.map (·.1) = ks.map kP ∧
  ∀ (rs : Qs) (p : Addr), (rs.map (·.2)).Perm ks → (rs.Pairwise fun a b => pl b.2 a.2 = false) → (∀ r ∈ rs, H r.1 = some (.tup [.str r.2.1, .str r.2.2])) → H p = none → Q (.ref p) (upd H p (.lst (rs.map fun q => V.ref q.1)))
theorem cr_sortDT (hc : X.calm = true) : CallR X (.builtin "sorted") rSortDT := by
  intro pins s σ H xs us Q I r h
  obtain ⟨d, kvs, ks, rfl, hd, hks, q⟩ := h
  obtain ⟨u, rfl, ru⟩ := r.one
  obtain rfl : u = Value.ref d := ru
  obtain ⟨z, hs, xs, pr, o, es, ep, ho, hx, hdt, he, hn⟩ := (show ObjOk X.prog X.w H s.heap d (.dT kvs) from I.hok d _ hd)
  -- the tuples, told
  have told : ∃ qs : Qs, (xs.map fun x => Value.ref x.2.1) = refsOf qs ∧ qs.map (·.2) = ks ∧ ∀ q ∈ qs, H q.1 = some (.tup [.str q.2.1, .str q.2.2]) := by
    clear he hn z hd q ho hdt
    generalize kvs = kv at pr hks
    induction pr generalizing ks with
    | nil =>
      cases ks with
      | nil => exact ⟨[], rfl, rfl, fun q hq => nomatch hq⟩
      | cons _ _ => cases hks
    | @cons p x kv xs r1 r2 ih =>
      cases ks with
      | nil => cases hks
      | cons k ks =>
        rw [List.map_cons, List.map_cons, List.cons.injEq] at hks
        obtain ⟨qs, a, b, c⟩ := ih ks hks.2
        refine ⟨(x.2.1, k) :: qs, ?_, by rw [List.map_cons, b], fun q hq => ?_⟩
        · rw [List.map_cons, a]
          rfl
        · rcases List.mem_cons.mp hq with rfl | hq
          · have z := r1.2.1
            rw [hks.1] at z
            exact z
          · exact c q hq
  obtain ⟨qs, e1, e2, e3⟩ := told
  have hp : ∀ q ∈ qs, IsPT s.heap (.ref q.1) q.2 := fun q m => pt_of I (.inl (.inl (e3 q m)))
  have l1 : es.size = xs.length := size_of_entries he
  have l2 : kvs.length = xs.length := Paired.length pr
  have many : es.size ≤ sizeLine := by omega
  refine Calls.call_function_entry PyProof.Rows.kind_sorted PyProof.Rows.plain_sorted PyProof.Rows.entry_sorted (PyProof.Rows.args_sorted1 _) ?_
  unfold Builtin.«sorted»
  refine wpAny_bind (m := checkCount "sorted" 1 1 _) (wpAny_pure ?_)
  refine wpAny_bind (PySem.W.kdu_collect (A := X.A.in1) (kdl_raw hs hx hdt) (I.ok.hd hc) ho many fun h1 tk acc kp it => ?_)
  have ea : acc.toList = refsOf qs := by
    rw [← e1]
    apply List.ext_getElem?
    intro j
    rw [List.getElem?_map]
    have hl : acc.toList.length = xs.length := by rw [Array.length_toList, it.1]; exact l1
    have qe := entry_at he j
    cases hj : acc.toList[j]? with
    | none =>
      have g := List.getElem?_eq_none_iff.mp hj
      rw [List.getElem?_eq_none (by omega)]
      rfl
    | some v =>
      obtain ⟨en, hen, hv⟩ := it.2 j v (by rw [← Array.getElem?_toList]; exact hj)
      rw [hen] at qe
      cases hb : xs[j]? with
      | none =>
        rw [hb] at qe
        cases qe
      | some b =>
        rw [hb] at qe
        cases qe
        rw [hv]
        rfl
  rw [ea]
  have lenQ : (refsOf qs).length ≤ sizeLine := by
    rw [← e1, List.length_map, ← l1]
    exact many
  have I1 : Inv X pins σ H { s with heap := h1, toks := tk } := I.kept kp
  have hp1 : ∀ v ∈ refsOf qs, IsPT h1 v (sayOf qs v) := fun v m => by
    obtain ⟨q, m2, rfl⟩ := List.mem_map.mp m
    rw [say_at hp m2]
    exact (hp q m2).on fun b o e _ => kp b o e
  refine wpAny_bind (wpAny_newList ?_ lenQ)
  have hoL : (h1.push (seqObj "list" (refsOf qs).toArray 0)).get? h1.objs.size = some (seqObj "list" (refsOf qs).toArray 0) := Heap.get?_push_size _ rfl
  show wpAny _ _ _ _ _ { s with heap := h1.push (seqObj "list" (refsOf qs).toArray 0), toks := tk }
  refine wpAny_bind (wpAny_holding (wpAny_call_entry PyProof.Rows.slot_list_sort ⟨_, hoL, rfl⟩ PyProof.Rows.entry_list_sort
    (SrtO.list_sort_ord (s := { s with heap := h1.push (seqObj "list" (refsOf qs).toArray 0), toks := tk }) (ltv := fun v u => pl (sayOf qs v) (sayOf qs u)) ⟨fun x y => (ord_pl.swo.asym _ _), fun x y z => ord_pl.swo.tr _ _ _⟩ hoL lenQ
      (fun h2 => sortable_pt (by omega) (fun v m => (hp1 v m).on fun c o e _ => Heap.get?_push_of_some _ e) fun o e c => ?_) fun out srt stb => ⟨_, rfl, ?_⟩) (PyProof.Rows.args_list_sort _)))
  · rw [hoL] at e
    cases e
    exact absurd (Value.type.inj c) (by decide)
  · obtain ⟨rs, rfl, pm, pw⟩ := told_out hp srt stb
    have hn1 : H h1.objs.size = none := I1.hok.fresh (Nat.le_refl _)
    obtain ⟨e', he'⟩ := PyProof.Rows.sortedHeap_at (vs := refsOf qs) (out := (refsOf rs).toArray) hoL
    refine wpAny_pure ⟨_, rfl, .ref h1.objs.size, upd H h1.objs.size (.lst (rs.map fun q => V.ref q.1)), I1.laid (t' := tk) (fun b u e => ?_) (Nat.le_refl _) ⟨?_, refsOf rs, e', vals_qs rs, he'⟩, rfl, q rs _ ?_ pw (fun r m => e3 r (pm.mem_iff.mp m)) hn1⟩
    · have lt : b < h1.objs.size := Heap.lt_size e
      rw [PyProof.Rows.sortedHeap_old (Nat.ne_of_lt lt) (by rw [size_push']; exact Nat.lt_succ_of_lt lt)]
      exact Heap.get?_push_of_some _ e
    · have z1 := pm.length_eq
      unfold refsOf at lenQ
      rw [List.length_map] at lenQ ⊢
      omega
    · have z1 := pm.map (·.2)
      rwa [e2] at z1
end
end NK
/-! min, max of two texts; xs[::step] with a step of 1 or -1 -/
namespace NK
open PySem PySem.Spec PyProof.Rows L2
section
variable {P : Program} {w : World} {A : Around} {E : Value → Shared → Prop} {s : Shared}
theorem cmp_lt2 {x y : Str} {t u : Tok} : CmpOf P w A .Lt (fun i v => (#[.str x t, .str y u] : Array Value)[i]? = some v) fun i j => sl (if i = 0 then x else y) (if j = 0 then x else y) := by
  intro i j vi vj s Q E hi hj q
  have at_ : ∀ (i : Nat) (v : Value), (#[.str x t, .str y u] : Array Value)[i]? = some v → ∃ k, v = .str (if i = 0 then x else y) k := by
    intro i v h
    match i, h with
    | 0, h => exact ⟨t, (Option.some.inj h).symm⟩
    | 1, h => exact ⟨u, (Option.some.inj h).symm⟩
  obtain ⟨k1, rfl⟩ := at_ i vi hi
  obtain ⟨k2, rfl⟩ := at_ j vj hj
  exact (show wpAny (model P w) A (compareOp .Lt (.str _ k1) (.str _ k2)) Q E s from PyProof.Rows.lt_str q)
theorem cmp_gt2 {x y : Str} {t u : Tok} : CmpOf P w A .Gt (fun i v => (#[.str x t, .str y u] : Array Value)[i]? = some v) fun i j => sl (if j = 0 then x else y) (if i = 0 then x else y) := by
  intro i j vi vj s Q E hi hj q
  have at_ : ∀ (i : Nat) (v : Value), (#[.str x t, .str y u] : Array Value)[i]? = some v → ∃ k, v = .str (if i = 0 then x else y) k := by
    intro i v h
    match i, h with
    | 0, h => exact ⟨t, (Option.some.inj h).symm⟩
    | 1, h => exact ⟨u, (Option.some.inj h).symm⟩
  obtain ⟨k1, rfl⟩ := at_ i vi hi
  obtain ⟨k2, rfl⟩ := at_ j vj hj
  exact (show wpAny (model P w) A (compareOp .Gt (.str _ k1) (.str _ k2)) Q E s from PySem.P.gt_str q)
theorem old_two {h' : Heap} {o1 o2 : Obj} (k : ∀ b o, b ∉ [(s.heap.push o1).objs.size] → ((s.heap.push o1).push o2).get? b = some o → h'.get? b = some o) : ∀ b o, s.heap.get? b = some o → h'.get? b = some o := by
  intro b o e
  refine k b o (fun m => ?_) (Heap.get?_push_of_some _ (Heap.get?_push_of_some _ e))
  have z := Heap.lt_size e
  rw [List.mem_singleton.mp m, Heap.size_push] at z
  exact Nat.lt_irrefl _ (Nat.lt_of_succ_lt z)
theorem min_texts {x y : Str} {t u : Tok} {Q : Value → Shared → Prop} (calm : A.handled = none) (q : ∀ h' tk, (∀ b o, s.heap.get? b = some o → h'.get? b = some o) → Q (if sl y x = true then .str y u else .str x t) { s with heap := h', toks := tk }) :
    wpAny (model P w) A (call (.builtin "min") [.str x t, .str y u]) Q E s := by
  have isT : (s.heap.push { cls := .type "tuple", data := .seq #[.str x t, .str y u] }).IsTuple s.heap.objs.size #[.str x t, .str y u] := ⟨_, Heap.get?_push_size _ rfl, rfl, 0, rfl⟩
  have sz : (s.heap.push { cls := .type "tuple", data := .seq #[.str x t, .str y u] }).objs.size = s.heap.objs.size + 1 := Heap.size_push ..
  refine call_min_two (wpAny_pyIter_tuple isT ⟨_, [_, s.heap.objs.size], [_], _, _, _, _, rfl, Walks.tuple (A := A.in1) calm _ s.heap.objs.size (by rw [sz]; exact Nat.ne_of_lt (Nat.lt_succ_self _)) #[.str x t, .str y u],
    ⟨⟨_, Heap.get?_push_size _ rfl, rfl, rfl⟩, isT.push _⟩, fun c hc => ?_, by simp, cmp_lt2, fun v h' tk hv k => ?_⟩)
  · show c < ((s.heap.push _).push _).objs.size
    rw [Heap.size_push, sz]
    simp only [List.mem_cons, List.not_mem_nil, or_false] at hc
    rcases hc with rfl | rfl
    · rw [sz]
      exact Nat.lt_succ_self _
    · exact Nat.lt_succ_of_lt (Nat.lt_succ_self _)
  · have z := q h' tk (old_two k)
    have e : v = if sl y x = true then .str y u else .str x t := by
      cases b : sl y x <;> simp [argBest, b] at hv <;> simp [hv]
    rw [e]
    exact z
theorem max_texts {x y : Str} {t u : Tok} {Q : Value → Shared → Prop} (calm : A.handled = none) (q : ∀ h' tk, (∀ b o, s.heap.get? b = some o → h'.get? b = some o) → Q (if sl x y = true then .str y u else .str x t) { s with heap := h', toks := tk }) :
    wpAny (model P w) A (call (.builtin "max") [.str x t, .str y u]) Q E s := by
  have isT : (s.heap.push { cls := .type "tuple", data := .seq #[.str x t, .str y u] }).IsTuple s.heap.objs.size #[.str x t, .str y u] := ⟨_, Heap.get?_push_size _ rfl, rfl, 0, rfl⟩
  have sz : (s.heap.push { cls := .type "tuple", data := .seq #[.str x t, .str y u] }).objs.size = s.heap.objs.size + 1 := Heap.size_push ..
  refine call_max_two (wpAny_pyIter_tuple isT ⟨_, [_, s.heap.objs.size], [_], _, _, _, _, rfl, Walks.tuple (A := A.in1) calm _ s.heap.objs.size (by rw [sz]; exact Nat.ne_of_lt (Nat.lt_succ_self _)) #[.str x t, .str y u],
    ⟨⟨_, Heap.get?_push_size _ rfl, rfl, rfl⟩, isT.push _⟩, fun c hc => ?_, by simp, cmp_gt2, fun v h' tk hv k => ?_⟩)
  · show c < ((s.heap.push _).push _).objs.size
    rw [Heap.size_push, sz]
    simp only [List.mem_cons, List.not_mem_nil, or_false] at hc
    rcases hc with rfl | rfl
    · rw [sz]
      exact Nat.lt_succ_self _
    · exact Nat.lt_succ_of_lt (Nat.lt_succ_self _)
  · have z := q h' tk (old_two k)
    have e : v = if sl x y = true then .str y u else .str x t := by
      cases b : sl x y <;> simp [argBest, b] at hv <;> simp [hv]
    rw [e]
    exact z
end
section
variable {X : Cx}
theorem call_minS (hc : X.calm = true) : CallR X (.builtin "min") (fun xs H Q => ∃ x y : Str, xs = [.str x, .str y] ∧ Q (.str (if sl y x = true then y else x)) H) := by
  intro pins s σ H xs us Q I r h
  obtain ⟨x, y, rfl, q⟩ := h
  cases r with
  | cons r1 r =>
    cases r with
    | cons r2 r =>
      cases r
      obtain ⟨t, rfl⟩ := r1
      obtain ⟨u, rfl⟩ := r2
      refine min_texts (I.ok.hd hc) fun h' tk k => ⟨_, H, I.kept k, ?_, q⟩
      cases sl y x
      · exact ⟨t, rfl⟩
      · exact ⟨u, rfl⟩
theorem call_maxS (hc : X.calm = true) : CallR X (.builtin "max") (fun xs H Q => ∃ x y : Str, xs = [.str x, .str y] ∧ Q (.str (if sl x y = true then y else x)) H) := by
  intro pins s σ H xs us Q I r h
  obtain ⟨x, y, rfl, q⟩ := h
  cases r with
  | cons r1 r =>
    cases r with
    | cons r2 r =>
      cases r
      obtain ⟨t, rfl⟩ := r1
      obtain ⟨u, rfl⟩ := r2
      refine max_texts (I.ok.hd hc) fun h' tk k => ⟨_, H, I.kept k, ?_, q⟩
      cases sl x y
      · exact ⟨t, rfl⟩
      · exact ⟨u, rfl⟩
theorem pick_one (its : Array Value) : slicePick its none none (some 1) = its := by
  have z : slicePick its none none (some 1) = slicePick its none none none := rfl
  rw [z]
  first
    | (rw [slicePick_cut]; simp [cutV, HT.sIx, ← Array.length_toList])
    | simp [slicePick]
/-- xs[::e], e being 1 or -1 -/
def tStep (K : PySem.W.Frag) (te ts : TE) : TE := fun σ H Q => te σ H fun x H1 => tPart ts σ H1 fun n H2 => ∃ (a : Addr) (xs : List V) (k : Int), x = .ref a ∧ n = some k ∧ SqL K H2 a xs ∧ (k = 1 ∨ k = -1) ∧ ∀ p, H2 p = none → Q (.ref p) (upd H2 p (.lst (if k = 1 then xs else xs.reverse)))
theorem pe_stepL {e : Expr} {x : Str} {te ts : TE} {p1 p3 pos : Pos} (he : PE X e te) (hs : PE X (.Name x p1) ts) : PE X (.Subscript e (.Slice none none (some (.Name x p1)) p3) pos) (tStep X.K te ts) := by
  refine ⟨fun pins s σ H Q I h => ?_⟩
  refine Subscript_ (thn (he.run pins s σ H _ I h) fun v s1 ⟨xv, H1, I1, r1, q1⟩ => ?_)
  refine wpAny_Slice (thn (po_none.run pins s1 σ H1 (fun o H2 => o = none ∧ H2 = H1) I1 ⟨rfl, rfl⟩) fun vl s2 ⟨l, H2, I2, pl0, el, e2⟩ => ?_)
  subst el e2
  refine thn (po_none.run pins s2 σ H2 (fun o H3 => o = none ∧ H3 = H2) I2 ⟨rfl, rfl⟩) fun vu s3 ⟨u, H3, I3, pu, eu, e3⟩ => ?_
  subst eu e3
  refine thn ((po_some hs).run pins s3 σ H3 _ I3 q1) fun vs s4 ⟨o, H4, I4, ps, a, xs, k, ex, eo, hx, hk, q⟩ => ?_
  · subst ex eo
    cases r1
    have I5 : Inv X pins σ H4 { s4 with heap := s4.heap.push { cls := .type "slice", data := .fields #[vl, vu, vs] } } := I4.kept (t' := s4.toks) fun b ob q => Heap.get?_push_of_some _ q
    obtain ⟨its, r, ht, hz⟩ := I5.list hx
    have hlen := r.length
    show wpAny (model X.prog X.w) X.A (subscriptTail e (.Slice none none (some (.Name x p1)) p3) (.ref a) (.ref s4.heap.objs.size)) (EP X pins σ Q) X.xe { s4 with heap := s4.heap.push { cls := .type "slice", data := .fields #[vl, vu, vs] } }
    refine tail_any (ops := [.ref a, .ref s4.heap.objs.size]) ht.isList.typeIs (PySem.slot_list_getitem.lookup) ?_ (by with_unfolding_all rfl)
    refine wpAny_getItem_list_slice ht.isList (Heap.IsSliceOf.new _ vl vu vs) pl0 pu ps (by rcases hk with rfl | rfl <;> simp) ?_ (by rw [List.size_toArray]; omega)
    rcases hk with rfl | rfl
    · rw [pick_one]
      rw [if_pos rfl] at q
      exact ⟨.ref _, _, I5.laid (t' := s4.toks) (o := .lst xs) (fun b ob q => Heap.get?_push_of_some _ q) (Nat.le_refl _) ⟨hz, its, 0, r, Heap.get?_push_size _ rfl⟩, rfl, q _ (I5.hok.fresh (Nat.le_refl _))⟩
    · rw [PySem.W.krv_pick]
      rw [if_neg (by decide)] at q
      exact ⟨.ref _, _, I5.laid (t' := s4.toks) (o := .lst xs.reverse) (fun b ob q => Heap.get?_push_of_some _ q) (Nat.le_refl _) ⟨by rw [List.length_reverse]; exact hz, _, 0, r.reverse, Heap.get?_push_size _ rfl⟩, rfl, q _ (I5.hok.fresh (Nat.le_refl _))⟩
end
end NK
/-! the text by places -/
namespace NK
open PySem PySem.Spec PyProof.Rows L2 He K1
def topS (i : Nat) : Stmt := PySem.Challenge.pw_oddlamps_k06_whole_settings_and_ready_la.main.body.getD i (.Pass ⟨0, 0, 0, 0⟩)
abbrev s_is_word : Stmt := topS 11
abbrev nm_is_word : List Str := ["value", "sign"]
theorem sc_is_word : FnScope nm_is_word ["value"] (defScope s_is_word) := ⟨rfl, rfl, rfl, by decide +kernel, rfl, by decide +kernel, by decide +kernel⟩
abbrev s_are_words : Stmt := topS 12
abbrev nm_are_words : List Str := ["value", "word"]
theorem sc_are_words : FnScope nm_are_words ["value"] (defScope s_are_words) := ⟨rfl, rfl, rfl, by decide +kernel, rfl, by decide +kernel, by decide +kernel⟩
abbrev s_are_unlike : Stmt := topS 13
abbrev nm_are_unlike : List Str := ["values"]
theorem sc_are_unlike : FnScope nm_are_unlike ["values"] (defScope s_are_unlike) := ⟨rfl, rfl, rfl, by decide +kernel, rfl, by decide +kernel, by decide +kernel⟩
abbrev s_is_ascending : Stmt := topS 14
abbrev nm_is_ascending : List Str := ["values"]
theorem sc_is_ascending : FnScope nm_is_ascending ["values"] (defScope s_is_ascending) := ⟨rfl, rfl, rfl, by decide +kernel, rfl, by decide +kernel, by decide +kernel⟩
abbrev s_Net___init : Stmt := inClass (topS 17) 0
abbrev nm_Net___init : List Str := ["self", "lamps", "ties", "wishes", "near", "one", "other", "lamp"]
theorem sc_Net___init : FnScope nm_Net___init ["self", "lamps", "ties", "wishes"] (defScope s_Net___init) := ⟨rfl, rfl, rfl, by decide +kernel, rfl, by decide +kernel, by decide +kernel⟩
abbrev s_Net_lamps : Stmt := inClass (topS 17) 1
abbrev nm_Net_lamps : List Str := ["self"]
theorem sc_Net_lamps : FnScope nm_Net_lamps ["self"] (defScope s_Net_lamps) := ⟨rfl, rfl, rfl, by decide +kernel, rfl, by decide +kernel, by decide +kernel⟩
abbrev s_Net_ties : Stmt := inClass (topS 17) 2
abbrev nm_Net_ties : List Str := ["self", "lamp", "other"]
theorem sc_Net_ties : FnScope nm_Net_ties ["self"] (defScope s_Net_ties) := ⟨rfl, rfl, rfl, by decide +kernel, rfl, by decide +kernel, by decide +kernel⟩
abbrev s_Net_wishes : Stmt := inClass (topS 17) 3
abbrev nm_Net_wishes : List Str := ["self"]
theorem sc_Net_wishes : FnScope nm_Net_wishes ["self"] (defScope s_Net_wishes) := ⟨rfl, rfl, rfl, by decide +kernel, rfl, by decide +kernel, by decide +kernel⟩
abbrev s_Net___eq : Stmt := inClass (topS 17) 4
abbrev nm_Net___eq : List Str := ["self", "other"]
theorem sc_Net___eq : FnScope nm_Net___eq ["self", "other"] (defScope s_Net___eq) := ⟨rfl, rfl, rfl, by decide +kernel, rfl, by decide +kernel, by decide +kernel⟩
abbrev s_are_ties : Stmt := topS 18
abbrev nm_are_ties : List Str := ["value", "near", "tie"]
theorem sc_are_ties : FnScope nm_are_ties ["value", "near"] (defScope s_are_ties) := ⟨rfl, rfl, rfl, by decide +kernel, rfl, by decide +kernel, by decide +kernel⟩
abbrev s_is_tie : Stmt := topS 19
abbrev nm_is_tie : List Str := ["near", "value", "lamp"]
theorem sc_is_tie : FnScope nm_is_tie ["near", "value"] (defScope s_is_tie) := ⟨rfl, rfl, rfl, by decide +kernel, rfl, by decide +kernel, by decide +kernel⟩
abbrev s_are_wishes : Stmt := topS 20
abbrev nm_are_wishes : List Str := ["value", "near", "lamp"]
theorem sc_are_wishes : FnScope nm_are_wishes ["value", "near"] (defScope s_are_wishes) := ⟨rfl, rfl, rfl, by decide +kernel, rfl, by decide +kernel, by decide +kernel⟩
abbrev s_is_lamp : Stmt := topS 21
abbrev nm_is_lamp : List Str := ["net", "value"]
theorem sc_is_lamp : FnScope nm_is_lamp ["net", "value"] (defScope s_is_lamp) := ⟨rfl, rfl, rfl, by decide +kernel, rfl, by decide +kernel, by decide +kernel⟩
abbrev s_are_lamps : Stmt := topS 22
abbrev nm_are_lamps : List Str := ["net", "value", "lamp"]
theorem sc_are_lamps : FnScope nm_are_lamps ["net", "value"] (defScope s_are_lamps) := ⟨rfl, rfl, rfl, by decide +kernel, rfl, by decide +kernel, by decide +kernel⟩
abbrev s_is_free : Stmt := topS 23
abbrev nm_is_free : List Str := ["net", "lamp"]
theorem sc_is_free : FnScope nm_is_free ["net", "lamp"] (defScope s_is_free) := ⟨rfl, rfl, rfl, by decide +kernel, rfl, by decide +kernel, by decide +kernel⟩
abbrev s_need_net : Stmt := topS 24
abbrev nm_need_net : List Str := ["net"]
theorem sc_need_net : FnScope nm_need_net ["net"] (defScope s_need_net) := ⟨rfl, rfl, rfl, by decide +kernel, rfl, by decide +kernel, by decide +kernel⟩
abbrev s_need_lamp : Stmt := topS 25
abbrev nm_need_lamp : List Str := ["net", "lamp"]
theorem sc_need_lamp : FnScope nm_need_lamp ["net", "lamp"] (defScope s_need_lamp) := ⟨rfl, rfl, rfl, by decide +kernel, rfl, by decide +kernel, by decide +kernel⟩
abbrev s_free_lamps : Stmt := topS 26
abbrev nm_free_lamps : List Str := ["net", "lamp"]
theorem sc_free_lamps : FnScope nm_free_lamps ["net"] (defScope s_free_lamps) := ⟨rfl, rfl, rfl, by decide +kernel, rfl, by decide +kernel, by decide +kernel⟩
abbrev s_reached : Stmt := topS 27
abbrev nm_reached : List Str := ["net", "start", "among", "found", "waiting", "lamp", "further", "other"]
theorem sc_reached : FnScope nm_reached ["net", "start", "among"] (defScope s_reached) := ⟨rfl, rfl, rfl, by decide +kernel, rfl, by decide +kernel, by decide +kernel⟩
abbrev s_piece_with : Stmt := topS 28
abbrev nm_piece_with : List Str := ["net", "lamp", "free"]
theorem sc_piece_with : FnScope nm_piece_with ["net", "lamp"] (defScope s_piece_with) := ⟨rfl, rfl, rfl, by decide +kernel, rfl, by decide +kernel, by decide +kernel⟩
abbrev s_pieces : Stmt := topS 29
abbrev nm_pieces : List Str := ["net", "found", "told", "lamp", "piece", "other"]
theorem sc_pieces : FnScope nm_pieces ["net"] (defScope s_pieces) := ⟨rfl, rfl, rfl, by decide +kernel, rfl, by decide +kernel, by decide +kernel⟩
abbrev s_need_setting : Stmt := topS 32
abbrev nm_need_setting : List Str := ["net", "setting"]
theorem sc_need_setting : FnScope nm_need_setting ["net", "setting"] (defScope s_need_setting) := ⟨rfl, rfl, rfl, by decide +kernel, rfl, by decide +kernel, by decide +kernel⟩
abbrev s_is_setting : Stmt := topS 33
abbrev nm_is_setting : List Str := ["net", "value"]
theorem sc_is_setting : FnScope nm_is_setting ["net", "value"] (defScope s_is_setting) := ⟨rfl, rfl, rfl, by decide +kernel, rfl, by decide +kernel, by decide +kernel⟩
abbrev s_lit_neighbours : Stmt := topS 34
abbrev nm_lit_neighbours : List Str := ["net", "setting", "lamp"]
theorem sc_lit_neighbours : FnScope nm_lit_neighbours ["net", "setting", "lamp"] (defScope s_lit_neighbours) := ⟨rfl, rfl, rfl, by decide +kernel, rfl, by decide +kernel, by decide +kernel⟩
abbrev s_lit_near : Stmt := topS 35
abbrev nm_lit_near : List Str := ["net", "lit", "lamp", "near"]
theorem sc_lit_near : FnScope nm_lit_near ["net", "lit", "lamp"] (defScope s_lit_near) := ⟨rfl, rfl, rfl, by decide +kernel, rfl, by decide +kernel, by decide +kernel⟩
abbrev s_is_ready_by : Stmt := topS 36
abbrev nm_is_ready_by : List Str := ["net", "lit", "lamp"]
theorem sc_is_ready_by : FnScope nm_is_ready_by ["net", "lit", "lamp"] (defScope s_is_ready_by) := ⟨rfl, rfl, rfl, by decide +kernel, rfl, by decide +kernel, by decide +kernel⟩
abbrev s_is_ready : Stmt := topS 37
abbrev nm_is_ready : List Str := ["net", "setting", "lamp"]
theorem sc_is_ready : FnScope nm_is_ready ["net", "setting", "lamp"] (defScope s_is_ready) := ⟨rfl, rfl, rfl, by decide +kernel, rfl, by decide +kernel, by decide +kernel⟩
abbrev s_ready_lamps : Stmt := topS 38
abbrev nm_ready_lamps : List Str := ["net", "setting", "lamp"]
theorem sc_ready_lamps : FnScope nm_ready_lamps ["net", "setting"] (defScope s_ready_lamps) := ⟨rfl, rfl, rfl, by decide +kernel, rfl, by decide +kernel, by decide +kernel⟩
abbrev s_switched : Stmt := topS 39
abbrev nm_switched : List Str := ["net", "setting", "lamp"]
theorem sc_switched : FnScope nm_switched ["net", "setting", "lamp"] (defScope s_switched) := ⟨rfl, rfl, rfl, by decide +kernel, rfl, by decide +kernel, by decide +kernel⟩
abbrev s_other_ones : Stmt := topS 40
abbrev nm_other_ones : List Str := ["setting", "lamps", "lamp"]
theorem sc_other_ones : FnScope nm_other_ones ["setting", "lamps"] (defScope s_other_ones) := ⟨rfl, rfl, rfl, by decide +kernel, rfl, by decide +kernel, by decide +kernel⟩
abbrev s_still_pieces : Stmt := topS 41
abbrev nm_still_pieces : List Str := ["net", "setting", "piece", "lamp"]
theorem sc_still_pieces : FnScope nm_still_pieces ["net", "setting"] (defScope s_still_pieces) := ⟨rfl, rfl, rfl, by decide +kernel, rfl, by decide +kernel, by decide +kernel⟩
abbrev s_l_purse : Stmt := topS 43
abbrev nm_l_purse : List Str := ["_law_script", "_law_at", "_law_seed"]
theorem sc_l_purse : FnScope nm_l_purse ["_law_script", "_law_at"] (defScope s_l_purse) := ⟨rfl, rfl, rfl, by decide +kernel, rfl, by decide +kernel, by decide +kernel⟩
abbrev s_l_mixed : Stmt := topS 44
abbrev nm_l_mixed : List Str := ["_law_seed", "_law_spin", "_law_at", "_law_mixed_here"]
theorem sc_l_mixed : FnScope nm_l_mixed ["_law_seed", "_law_spin", "_law_at"] (defScope s_l_mixed) := ⟨rfl, rfl, rfl, by decide +kernel, rfl, by decide +kernel, by decide +kernel⟩
abbrev s_l_draw : Stmt := topS 45
abbrev nm_l_draw : List Str := ["_law_purse_here", "_law_many", "_law_drawn", "_law_found", "_law_piece"]
theorem sc_l_draw : FnScope nm_l_draw ["_law_purse_here", "_law_many"] (defScope s_l_draw) := ⟨rfl, rfl, rfl, by decide +kernel, rfl, by decide +kernel, by decide +kernel⟩
abbrev s_l_purses : Stmt := topS 46
abbrev nm_l_purses : List Str := ["_law_script", "_law_few", "_law_at"]
theorem sc_l_purses : FnScope nm_l_purses ["_law_script", "_law_few"] (defScope s_l_purses) := ⟨rfl, rfl, rfl, by decide +kernel, rfl, by decide +kernel, by decide +kernel⟩
abbrev s_l_one_of : Stmt := topS 47
abbrev nm_l_one_of : List Str := ["_law_purse_here", "_law_some"]
theorem sc_l_one_of : FnScope nm_l_one_of ["_law_purse_here", "_law_some"] (defScope s_l_one_of) := ⟨rfl, rfl, rfl, by decide +kernel, rfl, by decide +kernel, by decide +kernel⟩
abbrev s_l_same : Stmt := topS 48
abbrev nm_l_same : List Str := ["_law_thing", "_law_item", "_law_key"]
theorem sc_l_same : FnScope nm_l_same ["_law_thing"] (defScope s_l_same) := ⟨rfl, rfl, rfl, by decide +kernel, rfl, by decide +kernel, by decide +kernel⟩
abbrev s_l_exact : Stmt := topS 49
abbrev nm_l_exact : List Str := ["_law_mine", "_law_theirs", "_law_alike", "_law_a", "_law_b", "_law_key"]
theorem sc_l_exact : FnScope nm_l_exact ["_law_mine", "_law_theirs"] (defScope s_l_exact) := ⟨rfl, rfl, rfl, by decide +kernel, rfl, by decide +kernel, by decide +kernel⟩
abbrev s_l_word : Stmt := topS 50
abbrev nm_l_word : List Str := ["_law_purse_here", "_law_size", "_law_spin"]
theorem sc_l_word : FnScope nm_l_word ["_law_purse_here"] (defScope s_l_word) := ⟨rfl, rfl, rfl, by decide +kernel, rfl, by decide +kernel, by decide +kernel⟩
abbrev s_l_words : Stmt := topS 51
abbrev nm_l_words : List Str := ["_law_purse_here", "_law_many", "_law_base", "_law_near_here", "_law_spot", "_law_found", "_law_spin", "_law_word_here", "_law_letter"]
theorem sc_l_words : FnScope nm_l_words ["_law_purse_here", "_law_many"] (defScope s_l_words) := ⟨rfl, rfl, rfl, by decide +kernel, rfl, by decide +kernel, by decide +kernel⟩
abbrev s_l_pairs_drawn : Stmt := topS 52
abbrev nm_l_pairs_drawn : List Str := ["_law_purse_here", "_law_points", "_law_many", "_law_found", "_law_spin", "_law_one", "_law_other", "_law_late"]
theorem sc_l_pairs_drawn : FnScope nm_l_pairs_drawn ["_law_purse_here", "_law_points", "_law_many"] (defScope s_l_pairs_drawn) := ⟨rfl, rfl, rfl, by decide +kernel, rfl, by decide +kernel, by decide +kernel⟩
abbrev s_l_ties_of_pairs : Stmt := topS 53
abbrev nm_l_ties_of_pairs : List Str := ["_law_pairs", "_law_found", "_law_first", "_law_late", "_law_point"]
theorem sc_l_ties_of_pairs : FnScope nm_l_ties_of_pairs ["_law_pairs"] (defScope s_l_ties_of_pairs) := ⟨rfl, rfl, rfl, by decide +kernel, rfl, by decide +kernel, by decide +kernel⟩
abbrev s_l_wishes_by : Stmt := topS 54
abbrev nm_l_wishes_by : List Str := ["_law_pairs", "_law_highs", "_law_one", "_law_other"]
theorem sc_l_wishes_by : FnScope nm_l_wishes_by ["_law_pairs", "_law_highs"] (defScope s_l_wishes_by) := ⟨rfl, rfl, rfl, by decide +kernel, rfl, by decide +kernel, by decide +kernel⟩
abbrev s_l_paired_part : Stmt := topS 55
abbrev nm_l_paired_part : List Str := ["_law_purse_here", "_law_many", "_law_points", "_law_pairs", "_law_wants", "_law_at", "_law_point"]
theorem sc_l_paired_part : FnScope nm_l_paired_part ["_law_purse_here", "_law_many"] (defScope s_l_paired_part) := ⟨rfl, rfl, rfl, by decide +kernel, rfl, by decide +kernel, by decide +kernel⟩
abbrev s_l_core_part : Stmt := topS 56
abbrev nm_l_core_part : List Str := ["_law_purse_here", "_law_many", "_law_edges", "_law_late", "_law_some", "_law_at"]
theorem sc_l_core_part : FnScope nm_l_core_part ["_law_purse_here", "_law_many"] (defScope s_l_core_part) := ⟨rfl, rfl, rfl, by decide +kernel, rfl, by decide +kernel, by decide +kernel⟩
abbrev s_l_family_part : Stmt := topS 57
abbrev nm_l_family_part : List Str := ["_law_purse_here", "_law_many", "_law_kind", "_law_row", "_law_full", "_law_other", "_law_edges", "_law_some", "_law_at", "_law_one", "_law_late", "_law_pair"]
theorem sc_l_family_part : FnScope nm_l_family_part ["_law_purse_here", "_law_many"] (defScope s_l_family_part) := ⟨rfl, rfl, rfl, by decide +kernel, rfl, by decide +kernel, by decide +kernel⟩
abbrev s_l_part : Stmt := topS 58
abbrev nm_l_part : List Str := ["_law_purse_here", "_law_many", "_law_kind"]
theorem sc_l_part : FnScope nm_l_part ["_law_purse_here", "_law_many"] (defScope s_l_part) := ⟨rfl, rfl, rfl, by decide +kernel, rfl, by decide +kernel, by decide +kernel⟩
abbrev s_l_net_of : Stmt := topS 59
abbrev nm_l_net_of : List Str := ["_law_words_here", "_law_parts", "_law_stuck", "_law_bulbs", "_law_edges", "_law_wants", "_law_begin", "_law_many", "_law_inner", "_law_told", "_law_at", "_law_late", "_law_named", "_law_one", "_law_other", "_law_lamp", "_law_edge"]
theorem sc_l_net_of : FnScope nm_l_net_of ["_law_words_here", "_law_parts", "_law_stuck"] (defScope s_l_net_of) := ⟨rfl, rfl, rfl, by decide +kernel, rfl, by decide +kernel, by decide +kernel⟩
abbrev s_l_scene : Stmt := topS 60
abbrev nm_l_scene : List Str := ["_law_purse_here", "_law_most", "_law_parts", "_law_rest", "_law_free_here", "_law_more", "_law_stuck", "_law_late", "_law_part_here", "_law_at"]
theorem sc_l_scene : FnScope nm_l_scene ["_law_purse_here", "_law_most"] (defScope s_l_scene) := ⟨rfl, rfl, rfl, by decide +kernel, rfl, by decide +kernel, by decide +kernel⟩
abbrev s_l_free : Stmt := topS 61
abbrev nm_l_free : List Str := ["_law_net_here", "_law_lamp"]
theorem sc_l_free : FnScope nm_l_free ["_law_net_here"] (defScope s_l_free) := ⟨rfl, rfl, rfl, by decide +kernel, rfl, by decide +kernel, by decide +kernel⟩
abbrev s_l_near : Stmt := topS 62
abbrev nm_l_near : List Str := ["_law_net_here", "_law_found", "_law_one", "_law_other", "_law_lamp"]
theorem sc_l_near : FnScope nm_l_near ["_law_net_here"] (defScope s_l_near) := ⟨rfl, rfl, rfl, by decide +kernel, rfl, by decide +kernel, by decide +kernel⟩
abbrev s_l_is_ready : Stmt := topS 63
abbrev nm_l_is_ready : List Str := ["_law_net_here", "_law_near_here", "_law_setting_here", "_law_lamp", "_law_lit", "_law_other"]
theorem sc_l_is_ready : FnScope nm_l_is_ready ["_law_net_here", "_law_near_here", "_law_setting_here", "_law_lamp"] (defScope s_l_is_ready) := ⟨rfl, rfl, rfl, by decide +kernel, rfl, by decide +kernel, by decide +kernel⟩
abbrev s_l_ready : Stmt := topS 64
abbrev nm_l_ready : List Str := ["_law_net_here", "_law_setting_here", "_law_near_here", "_law_lamp"]
theorem sc_l_ready : FnScope nm_l_ready ["_law_net_here", "_law_setting_here"] (defScope s_l_ready) := ⟨rfl, rfl, rfl, by decide +kernel, rfl, by decide +kernel, by decide +kernel⟩
abbrev s_l_flip : Stmt := topS 65
abbrev nm_l_flip : List Str := ["_law_setting_here", "_law_lamp", "_law_other"]
theorem sc_l_flip : FnScope nm_l_flip ["_law_setting_here", "_law_lamp"] (defScope s_l_flip) := ⟨rfl, rfl, rfl, by decide +kernel, rfl, by decide +kernel, by decide +kernel⟩
abbrev s_l_pieces : Stmt := topS 66
abbrev nm_l_pieces : List Str := ["_law_net_here", "_law_near_here", "_law_free_here", "_law_found", "_law_seen", "_law_lamp", "_law_some", "_law_waiting", "_law_here", "_law_late", "_law_other"]
theorem sc_l_pieces : FnScope nm_l_pieces ["_law_net_here"] (defScope s_l_pieces) := ⟨rfl, rfl, rfl, by decide +kernel, rfl, by decide +kernel, by decide +kernel⟩
abbrev s_l_setting : Stmt := topS 67
abbrev nm_l_setting : List Str := ["_law_purse_here", "_law_net_here", "_law_lamp"]
theorem sc_l_setting : FnScope nm_l_setting ["_law_purse_here", "_law_net_here"] (defScope s_l_setting) := ⟨rfl, rfl, rfl, by decide +kernel, rfl, by decide +kernel, by decide +kernel⟩
abbrev s_l_far : Stmt := topS 68
abbrev nm_l_far : List Str := ["_law_words_here", "_law_letter"]
theorem sc_l_far : FnScope nm_l_far ["_law_words_here"] (defScope s_l_far) := ⟨rfl, rfl, rfl, by decide +kernel, rfl, by decide +kernel, by decide +kernel⟩
abbrev s_l_net : Stmt := topS 69
abbrev nm_l_net : List Str := ["_law_net_here", "_law_step", "_law_lamp"]
theorem sc_l_net : FnScope nm_l_net ["_law_net_here"] (defScope s_l_net) := ⟨rfl, rfl, rfl, by decide +kernel, rfl, by decide +kernel, by decide +kernel⟩
abbrev s_l_net_told : Stmt := topS 70
abbrev nm_l_net_told : List Str := ["_law_made"]
theorem sc_l_net_told : FnScope nm_l_net_told ["_law_made"] (defScope s_l_net_told) := ⟨rfl, rfl, rfl, by decide +kernel, rfl, by decide +kernel, by decide +kernel⟩
abbrev s_l_bent_settings : Stmt := topS 71
abbrev nm_l_bent_settings : List Str := ["_law_purse_here", "_law_net_here", "_law_setting_here", "_law_lamps", "_law_far_here", "_law_one", "_law_last", "_law_found", "_law_lamp"]
theorem sc_l_bent_settings : FnScope nm_l_bent_settings ["_law_purse_here", "_law_net_here", "_law_setting_here"] (defScope s_l_bent_settings) := ⟨rfl, rfl, rfl, by decide +kernel, rfl, by decide +kernel, by decide +kernel⟩
abbrev s_l_is_setting : Stmt := topS 72
abbrev nm_l_is_setting : List Str := ["_law_net_here", "_law_value", "_law_lamp"]
theorem sc_l_is_setting : FnScope nm_l_is_setting ["_law_net_here", "_law_value"] (defScope s_l_is_setting) := ⟨rfl, rfl, rfl, by decide +kernel, rfl, by decide +kernel, by decide +kernel⟩
abbrev s_l_deeds_right : Stmt := topS 73
abbrev nm_l_deeds_right : List Str := ["_law_purse_here", "_law_net_here", "_law_made", "_law_setting_here", "_law_near_here", "_law_handed", "_law_ready_here", "_law_told", "_law_due", "_law_behind", "_law_late", "_law_still", "_law_some", "_law_again", "_law_lamp", "_law_piece", "_law_other"]
theorem sc_l_deeds_right : FnScope nm_l_deeds_right ["_law_purse_here", "_law_net_here", "_law_made", "_law_setting_here"] (defScope s_l_deeds_right) := ⟨rfl, rfl, rfl, by decide +kernel, rfl, by decide +kernel, by decide +kernel⟩
abbrev s_l_judged_settings : Stmt := topS 74
abbrev nm_l_judged_settings : List Str := ["_law_purse_here", "_law_net_here", "_law_made", "_law_setting_here", "_law_fresh", "_law_value", "_law_noted", "_law_right"]
theorem sc_l_judged_settings : FnScope nm_l_judged_settings ["_law_purse_here", "_law_net_here", "_law_made", "_law_setting_here"] (defScope s_l_judged_settings) := ⟨rfl, rfl, rfl, by decide +kernel, rfl, by decide +kernel, by decide +kernel⟩
abbrev s_l_still_net : Stmt := topS 75
abbrev nm_l_still_net : List Str := ["_law_purse_here", "_law_words_here", "_law_parts"]
theorem sc_l_still_net : FnScope nm_l_still_net ["_law_purse_here"] (defScope s_l_still_net) := ⟨rfl, rfl, rfl, by decide +kernel, rfl, by decide +kernel, by decide +kernel⟩
abbrev s_law : Stmt := topS 76
abbrev nm_law : List Str := ["_law_script", "_law_purse_here", "_law_nets", "_law_made", "_law_drawn", "_law_turn", "_law_setting_here", "_law_lone", "_law_told", "_law_net_here"]
theorem sc_law : FnScope nm_law ["_law_script"] (defScope s_law) := ⟨rfl, rfl, rfl, by decide +kernel, rfl, by decide +kernel, by decide +kernel⟩
/-- what the top leaves of built-in names -/
structure FreeN (mg : Str → Option Value) : Prop where
  sum : mg "sum" = none
  int : mg "int" = none
  max : mg "max" = none
  min : mg "min" = none
  len : mg "len" = none
  range : mg "range" = none
  isi : mg "isinstance" = none
  list : mg "list" = none
  dict : mg "dict" = none
  tuple : mg "tuple" = none
  all : mg "all" = none
  any : mg "any" = none
  sorted : mg "sorted" = none
  zip : mg "zip" = none
  set : mg "set" = none
  str : mg "str" = none
  bool : mg "bool" = none
  reversed : mg "reversed" = none
end NK
/-! rules whose reading speaks of the written part, with that given by hand (within a block it would not be found) -/
namespace NK
open PySem PySem.Spec PyProof.Rows L2 He K1
section
variable {X : Cx} {K : PySem.W.Frag} (h : X.K = K)
include h
theorem k_ixl : IxR X (rIxL K) := by subst h; exact ix_list
theorem k_ixt : IxR X (rIxT K) := by subst h; exact ix_tup
theorem k_in : OpR X (compareOp .In) (rIn K false) := by subst h; exact op_in_seq
theorem k_notin : OpR X (compareOp .NotIn) (rIn K true) := by subst h; exact op_notIn_seq
theorem k_sll : SlR X (rSlL K) := by subst h; exact sl_list

def rLenSeq (K : PySem.W.Frag) : List V → Hp → VK → Prop := fun xs H Q => ∃ p ys, xs = [.ref p] ∧ (SqL K H p ys ∨ SqT K H p ys) ∧ Q (.int ys.length) H
theorem k_len : CallR X (.builtin "len") (rLenSeq K) := by subst h; exact call_len_seq
def rListOf (K : PySem.W.Frag) : List V → Hp → VK → Prop := fun xs H Q => ∃ p ys, xs = [.ref p] ∧ (SqL K H p ys ∨ SqT K H p ys) ∧ ∀ l, H l = none → Q (.ref l) (upd H l (.lst ys))
theorem k_list : CallR X (.type "list") (rListOf K) := by subst h; exact call_list_of
def rTupOf (K : PySem.W.Frag) : List V → Hp → VK → Prop := fun xs H Q => ∃ p ys, xs = [.ref p] ∧ ((SqL K H p ys ∧ ∀ l, H l = none → Q (.ref l) (upd H l (.tup ys))) ∨ (SqT K H p ys ∧ Q (.ref p) H))
theorem k_tuple : CallR X (.type "tuple") (rTupOf K) := by subst h; exact call_tuple_of
theorem k_sum (hc : X.calm = true) : CallR X (.builtin "sum") (rSum K) := by subst h; exact cr_sum hc
theorem k_all (hc : X.calm = true) : CallR X (.builtin "all") (rAll K) := by subst h; exact cr_all hc
theorem k_any (hc : X.calm = true) : CallR X (.builtin "any") (rAny K) := by subst h; exact cr_any hc
theorem k_sortS : CallR X (.builtin "sorted") (rSortedS K) := by subst h; exact cr_sortedS
theorem k_sortPT : CallR X (.builtin "sorted") (rSortPT K) := by subst h; exact cr_sortPT
theorem k_eqD (hu : X.A.units + 64 < cLine) : OpR X (compareOp .Eq) (rEqD K) := by subst h; exact op_eqD hu
theorem k_neD (hu : X.A.units + 64 < cLine) : OpR X (compareOp .NotEq) (rNeD K) := by subst h; exact op_neD hu
theorem k_inD (hu : X.A.units + 65 < cLine) : OpR X (compareOp .In) (rInD K) := by subst h; exact op_inD hu
theorem k_notinD (hu : X.A.units + 65 < cLine) : OpR X (compareOp .NotIn) (rNotInD K) := by subst h; exact op_notInD hu
theorem k_isi : CallR X (.builtin "isinstance") (rIsi K) := by subst h; exact call_isi
theorem k_isiT : CallR X (.builtin "isinstance") (rIsiT K) := by subst h; exact call_isiT
def rDictP (K : PySem.W.Frag) : List V → Hp → VK → Prop := fun xs H Q => ∃ (a : Addr) (ps : List Addr) (kvs : List (Key × V)), xs = [.ref a] ∧ SqL K H a (ps.map V.ref) ∧ Paired (fun p kv => SqT K H p [kV kv.1, kv.2]) ps kvs ∧ ∀ p, H p = none → Q (.ref p) (upd H p (.dK (mergeK [] kvs)))
theorem k_dictP (hc : X.calm = true) : CallR X (.type "dict") (rDictP K) := by subst h; exact call_dictP hc
theorem k_dictPT (hc : X.calm = true) (hu : X.A.units + 64 < cLine) : CallR X (.type "dict") (rDictPT K) := by subst h; exact cr_dictPT hc hu
theorem k_set (hc : X.calm = true) (hu : X.A.units + 64 < cLine) : CallR X (.type "set") (rSetU K) := by subst h; exact cr_setU hc hu
theorem k_pil {tg l : Expr} {tl : TE} (hl : PE X l tl) : PI X tg l (iList K tl) := by subst h; exact pi_list hl
theorem k_step {e : Expr} {x : Str} {te ts : TE} {p1 p3 pos : Pos} (he : PE X e te) (hs : PE X (.Name x p1) ts) : PE X (.Subscript e (.Slice none none (some (.Name x p1)) p3) pos) (tStep K te ts) := by subst h; exact pe_stepL he hs
theorem k_fld {e : Expr} {f : Str} {ta : TE} {pos : Pos} (he : PE X e ta) (hb : attributeBase e f X.env (eval e X.env) = eval e X.env) : PE X (.Attribute e f pos) (tFld K ta f) := by subst h; exact pe_fld he hb
end
end NK
/-! purses, what is drawn from them -/
namespace NK
open PySem PySem.Spec PyProof.Rows L2 He K1
abbrev FnP (K : PySem.W.Frag) (x : Str) (st : Stmt) (f : Addr) (fd : FuncData) : Prop := FunD K x x (defArgs st) (defBody st) (defScope st) [] [] f fd
/-- a def by its name, with its promise -/
structure Has (P : Program) (w : World) (K : PySem.W.Frag) (mg : Str → Option Value) (base : Heap) (k : Nat) (x : Str) (ps : List Str) (sp : Sp) : Prop where
  ex : ∃ (f : Addr) (fd : FuncData), FnOk P w K mg base CX0 k f fd ps sp ∧ PySem.W.keepIn K (.ref f) = true ∧ L2.Binds K fd ps [] ∧ mg x = some (.ref f)
theorem pe_has {X : Cx} {k : Nat} {x : Str} {ps : List Str} {sp : Sp} {e : Expr} {es : List Expr} {t : TA} {p pos : Pos} (G : Has X.prog X.w X.K X.mg X.base k x ps sp) (hr : Room k X.A) (ha : PA X (e :: es) t) (hg : Gl X x := by rfl) (hd : (x == ("__debug__" : Str)) = false := by decide)
    (he : starEach (e :: es) X.env = (false, eval e X.env) :: starEach es X.env := by rfl) (hp : (backTo pos (starEach es X.env)).any (·.1) = false := by rfl) : PE X (.Call (.Name x p) (e :: es) [] pos) (tCall sp [] E0 t) := by
  obtain ⟨f, fd, F, kp, b, g⟩ := G.ex
  exact pe_call F hr hg g kp b .nil pass0 ha hd he hp
section
variable {P : Program} {w : World} {K : PySem.W.Frag} {mg : Str → Option Value} {base : Heap}
theorem fnP_ok {x : Str} {st : Stmt} {f : Addr} {fd : FuncData} {N ps : List Str} {k : Nat} {sp : Sp} (F : FnP K x st f fd) (S : FnScope N ps (defScope st)) (len : ∀ vs H Q E, sp vs H Q E → vs.length = ps.length)
    (hbody : ∀ (cdv : Value) (A : Around) (outer : List Env) (s : Shared) (H : Hp) (vs : List V) (Q : VK) (E : XK), Room k (A.deeper (envOfC x (defScope st) s.heap.objs.size f cdv)) → sp vs H Q E →
      ∃ t, PSs (cxOf CX0 P w K mg base N x (defScope st) f cdv A outer s H E).nox (defBody st) t ∧ t { nx := fun _ H' => Q .non H', rt := Q } (start N vs) H) : FnOk P w K mg base CX0 (k + 1) f fd ps sp :=
  F.ok S len fun cdv A outer s H vs Q E hr h => let ⟨t, a, b⟩ := hbody cdv A outer s H vs Q E hr h; ⟨t, a.nox, b⟩
/-! ### mixed, draw -/
def spMixed : Sp := fun vs H Q _ => ∃ s p a : Int, vs = [.int s, .int p, .int a] ∧ 0 ≤ p ∧ p ≤ 1000000 ∧ ∀ r : Int, Q (.int r) H
theorem ok_mixed {f : Addr} {fd : FuncData} (F : FnP K "_law_mixed" s_l_mixed f fd) (B : FreeN mg) : FnOk P w K mg base CX0 1 f fd ["_law_seed", "_law_spin", "_law_at"] spMixed := by
  refine fnP_ok F sc_l_mixed (fun vs H Q E h => ?_) (fun cdv A outer s H vs Q E hr h => ?_)
  · obtain ⟨s, p, a, rfl, _⟩ := h
    rfl
  · obtain ⟨s, p, a, rfl, p0, p1, k⟩ := h
    have nd := sc_l_mixed.nd
    refine ⟨_, (pss_cons (ps_set (i := 3) nd rfl (.inl rfl) (pe_op op_add (pe_op op_mul (pv 0) pe_int) (pe_op op_mul (pe_op op_mul pe_int (pv 1)) (pv 1))))
      (pss_cons (ps_set (i := 3) nd rfl (.inl rfl) (pe_op op_mod (pe_callTy call_int1 (by rfl) B.int (by decide +kernel) (pa_cons (pe_op op_add (pe_op op_add (pv 3) (pe_op op_mul pe_int (pv 2))) (pv 1)) pa_nil)) pe_int))
      (pss_cons (ps_set (i := 3) nd rfl (.inl rfl) (pe_op op_mod (pe_callTy call_int1 (by rfl) B.int (by decide +kernel) (pa_cons (pe_op op_add (pe_op op_mul (pv 3) (pv 3)) pe_int) pa_nil)) pe_int))
      (pss_one (ps_ret (pe_op op_mod (pe_callTy call_int1 (by rfl) B.int (by decide +kernel) (pa_cons (pe_op op_mul (pv 3) pe_int) pa_nil)) pe_int)))))), ?_⟩
    refine ⟨_, rfl, _, _, rfl, rfl, .inr ⟨by decide, by decide⟩, _, rfl, _, _, rfl, rfl, .inl ⟨by decide, by decide⟩, _, rfl, _, _, rfl, rfl, .inr ⟨by omega, by omega⟩, _, _, rfl, rfl, ?_⟩
    refine ⟨_, rfl, _, rfl, _, _, rfl, rfl, .inl ⟨by decide, by decide⟩, _, _, rfl, rfl, _, rfl, _, _, rfl, rfl, .inl ⟨_, rfl, _, _, rfl, rfl, (by show (0 : Int) < 2147483647; decide), ?_⟩⟩
    generalize hm : (s * 69069 + 104729 * p * p + 7919 * a + p) % 2147483647 = m
    have m0 : 0 ≤ m := by rw [← hm]; exact Int.emod_nonneg _ (by decide)
    have m1 : m < 2147483647 := by rw [← hm]; exact Int.emod_lt_of_pos _ (by decide)
    refine ⟨_, rfl, _, rfl, _, _, rfl, rfl, .inl ⟨by omega, by omega⟩, _, _, rfl, rfl, .inl ⟨_, rfl, _, _, rfl, rfl, (by show (0 : Int) < 2147483629; decide), ?_⟩⟩
    refine ⟨_, rfl, _, _, rfl, rfl, .inr ⟨by decide, by decide⟩, .inl ⟨_, rfl, _, _, rfl, rfl, (by show (0 : Int) < 2147483587; decide), ?_⟩⟩
    exact k _
/-- a purse stands at a; n is at least its turns so far -/
def Purse (H : Hp) (a : Addr) (n : Int) : Prop := ∃ p s t c : Int, H a = some (.lst [.int p, .int s, .int t, .int c]) ∧ 0 ≤ t ∧ t ≤ n
theorem Purse.mono {H : Hp} {a : Addr} {n m : Int} (h : n ≤ m) (p : Purse H a n) : Purse H a m := by
  obtain ⟨p, s, t, c, e, t0, t1⟩ := p
  exact ⟨p, s, t, c, e, t0, by omega⟩
/-- all but a stands -/
def But (a : Addr) (H H' : Hp) : Prop := ∀ b o, b ≠ a → H b = some o → H' b = some o
theorem But.refl (a : Addr) (H : Hp) : But a H H := fun _ _ _ h => h
theorem But.trans {a : Addr} {H H1 H2 : Hp} (x : But a H H1) (y : But a H1 H2) : But a H H2 := fun b o n h => y b o n (x b o n h)
theorem But.upd (a : Addr) (H : Hp) (o : HO) : But a H (upd H a o) := fun b u n h => by rw [upd_ne n]; exact h
theorem But.of {a : Addr} {H H' : Hp} (s : Same H H') : But a H H' := fun b o _ h => s b o h
theorem same_new {H : Hp} {p : Addr} {o : HO} (h : H p = none) : Same H (upd H p o) := fun b x e => by
  rw [upd_ne (ne_of_none e h)]
  exact e
theorem Purse.same {H H' : Hp} {a : Addr} {n : Int} (s : Same H H') (p : Purse H a n) : Purse H' a n := let ⟨x, sd, t, c, e, r⟩ := p; ⟨x, sd, t, c, s _ _ e, r⟩
theorem Purse.at_ {H : Hp} {a : Addr} {n : Int} (p : Purse H a n) : ∃ o, H a = some o := let ⟨_, _, _, _, e, _⟩ := p; ⟨_, e⟩
theorem Purse.upd {H : Hp} {a b : Addr} {n : Int} {o : HO} (p : Purse H a n) (h : b ≠ a) : Purse (upd H b o) a n := by
  obtain ⟨x, sd, t, c, e, r⟩ := p
  exact ⟨x, sd, t, c, by rw [upd_ne (Ne.symm h)]; exact e, r⟩
theorem Purse.ne_new {H : Hp} {a b : Addr} {n : Int} (p : Purse H a n) (h : H b = none) : b ≠ a := by
  obtain ⟨o, e⟩ := p.at_
  exact Ne.symm (ne_of_none e h)
def spDraw : Sp := fun vs H Q _ => ∃ (a : Addr) (m n : Int), vs = [.ref a, .int m] ∧ 0 < m ∧ m < 100000000 ∧ Purse H a n ∧ n ≤ 100000 ∧
  ∀ (r : Int) (H' : Hp), 0 ≤ r → r < m → Purse H' a (n + 1) → But a H H' → Q (.int r) H'
theorem bits_small {m : Int} (h0 : 0 < m) (h1 : m < 100000000) : (1 : Int) + (((Builtin.Int.intBits m : Nat) : Int)).fdiv 28 = 1 := by
  have e0 : (2 : Nat) ^ 27 = 134217728 := by decide
  have e : m.natAbs.log2 < 27 := PySem.Flt.log2_lt_of (by decide) (by omega)
  have b : Builtin.Int.intBits m ≤ 27 := by
    unfold Builtin.Int.intBits
    split <;> omega
  rw [Int.fdiv_eq_ediv_of_nonneg _ (by omega)]
  omega
theorem ok_draw {f : Addr} {fd : FuncData} (F : FnP K "_law_draw" s_l_draw f fd) (B : FreeN mg) (G__law_mixed : Has P w K mg base 1 "_law_mixed" ["_law_seed", "_law_spin", "_law_at"] spMixed) : FnOk P w K mg base CX0 2 f fd ["_law_purse_here", "_law_many"] spDraw := by
  refine fnP_ok F sc_l_draw (fun vs H Q E h => ?_) (fun cdv A outer s H vs Q E hr h => ?_)
  · obtain ⟨a, m, n, rfl, _⟩ := h
    rfl
  · obtain ⟨a, m, n, rfl, m0, m1, ⟨p, sd, t, c, e, t0, t1⟩, n1, k⟩ := h
    have nd := sc_l_draw.nd
    refine ⟨_, (pss_cons (ps_if (pt_cmpR op_gt (pe_ix (k_ixl (K := K) rfl) (pv 0) pe_int (fun _ _ => rfl)) pe_int (nomark _)) (pss_cons (ps_set (i := 2) nd rfl (.inl rfl) (pe_op op_mod (pe_callTy call_int1 (by rfl) B.int (by decide +kernel) (pa_cons (pe_ix (k_ixl (K := K) rfl) (pv 0) pe_int (fun _ _ => rfl)) pa_nil)) (pv 1)))
      (pss_cons (ps_asg (pe_op op_fdivN (pe_ix (k_ixl (K := K) rfl) (pv 0) pe_int (fun _ _ => rfl)) (pv 1)) (pg_sub (pv 0) pe_int set_list))
      (pss_one (ps_ret (pv 2))))) pss_nil)
      (pss_cons (ps_set (i := 3) nd rfl (.inl rfl) pe_int)
      (pss_cons (ps_for PassesOwn.never rfl (pi_range1 (by rfl) B.range (pa_cons (pe_op op_add pe_int (pe_op op_fdivN (pe_bits (pv 1)) pe_int)) pa_nil)) (pg_name (i := 4) nd rfl (.inl rfl)) (pss_cons (ps_asg (pe_op op_add (pe_ix (k_ixl (K := K) rfl) (pv 0) pe_int (fun _ _ => rfl)) pe_int) (pg_sub (pv 0) pe_int set_list))
      (pss_one (ps_set (i := 3) nd rfl (.inl rfl) (pe_op op_add (pe_op op_mul (pv 3) pe_int) (pe_has G__law_mixed (hr.mono (by decide)) (pa_cons (pe_ix (k_ixl (K := K) rfl) (pv 0) pe_int (fun _ _ => rfl)) (pa_cons (pe_ix (k_ixl (K := K) rfl) (pv 0) pe_int (fun _ _ => rfl)) (pa_cons (pe_ix (k_ixl (K := K) rfl) (pv 0) pe_int (fun _ _ => rfl)) pa_nil)))))))))
      (pss_one (ps_ret (pe_op op_mod (pe_callTy call_int1 (by rfl) B.int (by decide +kernel) (pa_cons (pv 3) pa_nil)) (pv 1))))))), ?_⟩
    -- if purse[0] > 0
    refine ⟨.ref a, rfl, a, _, 0, .int p, rfl, rfl, SqL.of e, rfl, _, _, rfl, rfl, _, rfl, ?_⟩
    refine ite2 (fun _ => ?_) (fun _ => ?_)
    · refine ⟨.ref a, rfl, a, _, 0, .int p, rfl, rfl, SqL.of e, rfl, .inl ⟨_, rfl, _, rfl, _, _, rfl, rfl, m0, ?_⟩⟩
      refine ⟨.ref a, rfl, a, _, 0, .int p, rfl, rfl, SqL.of e, rfl, _, rfl, _, _, rfl, rfl, ⟨by omega, by omega⟩, .ref a, rfl, a, _, 0, 0, rfl, rfl, e, rfl, ?_⟩
      refine ⟨_, rfl, ?_⟩
      exact k _ _ (Int.emod_nonneg _ (by omega)) (Int.emod_lt_of_pos _ m0) ⟨_, sd, t, c, upd_same, t0, by omega⟩ (But.upd a H _)
    · refine ⟨_, rfl, _, rfl, _, _, rfl, rfl, ⟨by decide, by decide⟩, _, _, rfl, rfl, ?_⟩
      refine ⟨1, congrArg (fun z => [V.int z]) (bits_small m0 m1), by decide, by decide, for_range (n := 1) (fun i σ H' => ∃ (v : Option V) (z : Int), σ = [some (.ref a), some (.int m), none, some (.int z), v] ∧ But a H H' ∧ H' a = some (.lst [.int p, .int sd, .int (t + i), .int c])) ⟨none, 0, rfl, But.refl a H, by rw [e]; simp⟩ ?_ ?_⟩
      · rintro i σ H' hi ⟨v, z, rfl, bt, e'⟩
        refine ⟨.ref a, rfl, a, _, 2, _, rfl, rfl, SqL.of e', rfl, _, _, rfl, rfl, .ref a, rfl, a, _, 2, 2, rfl, rfl, e', rfl, ?_⟩
        refine ⟨_, rfl, _, _, rfl, rfl, .inr ⟨by decide, by decide⟩, .ref a, rfl, a, _, 1, _, rfl, rfl, SqL.of upd_same, rfl, .ref a, rfl, a, _, 2, _, rfl, rfl, SqL.of upd_same, rfl, .ref a, rfl, a, _, 3, _, rfl, rfl, SqL.of upd_same, rfl, ?_⟩
        refine ⟨sd, t + i + 1, c, rfl, by omega, by omega, fun r => ⟨_, _, rfl, rfl, ?_⟩⟩
        refine ⟨_, _, rfl, bt.trans (But.upd a H' _), ?_⟩
        rw [upd_same]
        have e2 : t + (i : Int) + 1 = t + ((i + 1 : Nat) : Int) := by omega
        rw [← e2]
        rfl
      · rintro σ H' ⟨v, z, rfl, bt, e'⟩
        refine ⟨_, rfl, .inl ⟨_, rfl, _, rfl, _, _, rfl, rfl, m0, ?_⟩⟩
        exact k _ _ (Int.emod_nonneg _ (by omega)) (Int.emod_lt_of_pos _ m0) ⟨p, sd, _, c, e', by omega, by omega⟩ bt
end
end NK
/-! purses made, a thing of some, a word, things in another order -/
namespace NK
open PySem PySem.Spec PyProof.Rows L2 He K1
theorem op_powW {X : Cx} : OpR X (binaryOp .Pow) (rI (fun i j => 0 ≤ j ∧ (Builtin.Int.intBits i : Int) * j ≤ 2 ^ 27) fun i j => .int (i ^ j.toNat)) := opI fun _ _ _ _ _ _ _ hc q => pow_int hc.1 hc.2 q
theorem cut_one (ns : List Int) (at_ : Nat) : cutV (ns.map V.int) (some (at_ : Int)) (some ((at_ : Int) + 1)) = ((ns.drop at_).take 1).map V.int := by
  unfold cutV
  rw [show ((at_ : Int) + 1) = ((at_ + 1 : Nat) : Int) from by omega, HT.sIx_nat, HT.sIx_nat, List.map_take, List.map_drop, List.length_map]
  rcases Nat.lt_or_ge at_ ns.length with h | h
  · rw [Nat.min_eq_left (by omega), Nat.min_eq_left (by omega), Nat.add_sub_cancel_left]
  · have z : (ns.map V.int).length ≤ at_ := by rw [List.length_map]; exact h
    rw [List.drop_eq_nil_of_le z, List.drop_eq_nil_of_le (by rw [List.length_map]; omega), List.take_nil, List.take_nil]
section
variable {P : Program} {w : World} {K : PySem.W.Frag} {mg : Str → Option Value} {base : Heap}
def spPurse (K : PySem.W.Frag) : Sp := fun vs H Q _ => ∃ (a : Addr) (ns : List Int) (at_ : Nat), vs = [.ref a, .int (at_ : Int)] ∧ at_ < 1000 ∧ SqL K H a (ns.map V.int) ∧ ∀ q H', Same H H' → H q = none → Purse H' q 0 → Q (.ref q) H'
theorem ok_purse {f : Addr} {fd : FuncData} (F : FnP K "_law_purse" s_l_purse f fd) (B : FreeN mg) : FnOk P w K mg base CX0 1 f fd ["_law_script", "_law_at"] (spPurse K) := by
  refine fnP_ok F sc_l_purse (fun vs H Q E h => ?_) (fun cdv A outer s H vs Q E hr h => ?_)
  · obtain ⟨a, ns, t, rfl, _⟩ := h
    rfl
  · obtain ⟨a, ns, t, rfl, lt, hS, k⟩ := h
    have nd := sc_l_purse.nd
    refine ⟨_, (pss_cons (ps_set (i := 2) nd rfl (.inl rfl) (pe_callB (k_sum (K := K) rfl rfl) (by rfl) B.sum (by decide +kernel) (pa_cons (pe_slice (k_sll (K := K) rfl) (pv 0) (po_some (pv 1)) (po_some (pe_op op_add (pv 1) pe_int))) pa_nil)))
      (pss_one (ps_ret (pe_lst (pa_cons (pe_op op_mod (pe_callTy call_int1 (by rfl) B.int (by decide +kernel) (pa_cons (pe_callB (call_max2 rfl) (by rfl) B.max (by decide +kernel) (pa_cons (pe_op op_sub (pv 2) (pe_op op_powW pe_int pe_int)) (pa_cons pe_int pa_nil))) pa_nil)) (pe_op op_powW (pe_op op_powW pe_int pe_int) pe_int)) (pa_cons (pe_op op_mod (pe_callTy call_int1 (by rfl) B.int (by decide +kernel) (pa_cons (pv 2) pa_nil)) pe_int) (pa_cons pe_int (pa_cons (pv 1) pa_nil)))))))), ?_⟩
    refine ⟨_, rfl, _, rfl, _, rfl, _, rfl, _, _, rfl, rfl, _, rfl, a, _, rfl, hS, fun p np => ?_⟩
    refine ⟨p, (ns.drop t).take 1, rfl, SqL.of ?_, ?_⟩
    · rw [← cut_one]
      exact upd_same
    · refine ⟨_, rfl, _, _, rfl, rfl, ⟨by decide, by decide +kernel⟩, _, _, rfl, rfl, _, _, rfl, .inl ⟨_, rfl, _, _, rfl, rfl, ⟨by decide, by decide +kernel⟩, _, _, rfl, rfl, ⟨by decide, by decide +kernel⟩, _, _, rfl, rfl, (show (0 : Int) < (10 ^ Int.toNat 60) ^ Int.toNat 8 from by decide +kernel), ?_⟩⟩
      refine ⟨_, rfl, .inl ⟨_, rfl, _, _, rfl, rfl, (by show (0 : Int) < 2147483629; decide), _, rfl, (by show 4 ≤ sizeLine; decide), fun q nq => ?_⟩⟩
      have nq0 : H q = none := (same_new np).free nq
      exact k q _ ((same_new np).trans (same_new nq)) nq0 ⟨_, _, 0, _, upd_same, Int.le_refl _, Int.le_refl _⟩
/-! ### _law_purses(script, 2) -/
def spPurses (K : PySem.W.Frag) : Sp := fun vs H Q _ => ∃ (a : Addr) (ns : List Int) (few : Nat), vs = [.ref a, .int (few : Int)] ∧ few ≤ 2 ∧ SqL K H a (ns.map V.int) ∧ ∀ (l : Addr) (qs : List Addr) (H' : Hp), Same H H' → H l = none → H' l = some (.lst (qs.map V.ref)) → qs.Nodup → qs.length ≤ 2 → (∀ q ∈ qs, H q = none ∧ Purse H' q 0) → Q (.ref l) H'
theorem some_turns (few n : Nat) (h : few ≤ 2) : ∃ m : Nat, m ≤ 2 ∧ (if (if (n : Int) < (few : Int) then (n : Int) else few) > 1 then (if (n : Int) < (few : Int) then (n : Int) else few) else 1) = (m : Int) := by
  refine ⟨(if (if (n : Int) < (few : Int) then (n : Int) else few) > 1 then (if (n : Int) < (few : Int) then (n : Int) else few) else 1).toNat, ?_, ?_⟩
  · split <;> split at * <;> omega
  · split <;> split at * <;> omega
theorem ok_purses {f : Addr} {fd : FuncData} (F : FnP K "_law_purses" s_l_purses f fd) (B : FreeN mg) (G__law_purse : Has P w K mg base 1 "_law_purse" ["_law_script", "_law_at"] (spPurse K)) : FnOk P w K mg base CX0 2 f fd ["_law_script", "_law_few"] (spPurses K) := by
  refine fnP_ok F sc_l_purses (fun vs H Q E h => ?_) (fun cdv A outer s H vs Q E hr h => ?_)
  · obtain ⟨a, ns, few, rfl, _⟩ := h
    rfl
  · obtain ⟨a, ns, few, rfl, f2, hS, k⟩ := h
    have nd := sc_l_purses.nd
    refine ⟨_, (pss_one (ps_ret (pe_lc (own := [("_law_at", 2)]) (g := gName 2) (tt := tYes) rfl nd (pi_range1 (by rfl) B.range (pa_cons (pe_callB (call_max2 rfl) (by rfl) B.max (by decide +kernel) (pa_cons pe_int (pa_cons (pe_callB (call_min2 rfl) (by rfl) B.min (by decide +kernel) (pa_cons (pv 1) (pa_cons (pe_callB (k_len (K := K) rfl) (by rfl) B.len (by decide +kernel) (pa_cons (pv 0) pa_nil)) pa_nil))) pa_nil))) pa_nil)) (blkOk_by (N := nm_l_purses) (sc := defScope s_l_purses) (by decide +kernel)) (fun _ _ _ _ _ => (pg_name (i := 2) nd rfl (Or.inl rfl))) (fun _ _ _ _ _ => pts_nil) (fun _ _ _ _ _ => (pe_has G__law_purse (hr.mono (by decide)) (pa_cons (pv 0) (pa_cons (pv 2) pa_nil))))))), ?_⟩
    obtain ⟨m, m2, em⟩ := some_turns few ns.length f2
    refine ⟨_, rfl, _, rfl, a, _, rfl, .inl hS, _, _, rfl, _, _, rfl, (m : Int), ?_, by omega, by omega, fun D nD => ?_⟩
    · rw [List.length_map]
      exact congrArg (fun z => [V.int z]) em
    refine lc_range (lo := 0) (n := m) (fun i H' => Same H H' ∧ ∃ qs : List Addr, H' D = some (.lst (qs.map V.ref)) ∧ qs.Nodup ∧ qs.length = i ∧ ∀ q ∈ qs, H q = none ∧ q ≠ D ∧ Purse H' q 0) ⟨same_new nD, [], upd_same, List.nodup_nil, rfl, fun q hq => nomatch hq⟩ ?_ ?_
    · rintro i H' hi ⟨sm, qs, eD, ndq, lq, hq⟩
      refine ⟨rfl, _, rfl, _, rfl, a, ns, i, by rw [Int.zero_add]; rfl, by omega, sm.seq hS, fun q H2 sm2 nq pq => ?_⟩
      have qD : D ≠ q := ne_of_none eD nq
      refine ⟨_, sm2 _ _ eD, by rw [List.length_map, lq, sizeLine_eq]; omega, ?_, qs ++ [q], ?_, ?_, ?_, ?_⟩
      · intro b o z
        rw [upd_ne (ne_of_none z nD)]
        exact sm2 _ _ (sm _ _ z)
      · rw [upd_same, List.map_append]
        rfl
      · refine List.nodup_append.mpr ⟨ndq, List.nodup_cons.mpr ⟨List.not_mem_nil, List.nodup_nil⟩, fun x hx y hy e => ?_⟩
        rw [List.mem_singleton.mp hy] at e
        subst e
        obtain ⟨o, eo⟩ := (hq x hx).2.2.at_
        rw [eo] at nq
        cases nq
      · rw [List.length_append, lq]
        rfl
      · intro x hx
        rcases List.mem_append.mp hx with hx | hx
        · obtain ⟨z1, z2, z3⟩ := hq x hx
          exact ⟨z1, z2, (z3.same sm2).upd (Ne.symm z2)⟩
        · rw [List.mem_singleton.mp hx]
          exact ⟨sm.free nq, Ne.symm qD, pq.upd qD⟩
    · rintro H' ⟨sm, qs, eD, ndq, lq, hq⟩
      exact k D qs H' sm nD eD ndq (by omega) fun q m => ⟨(hq q m).1, (hq q m).2.2⟩
/-! ### _law_one_of -/
def spOne : Sp := fun vs H Q _ => ∃ (a b : Addr) (xs : List V) (n : Int), vs = [.ref a, .ref b] ∧ b ≠ a ∧ H b = some (.lst xs) ∧ 0 < xs.length ∧ xs.length < 100000 ∧ Purse H a n ∧ n ≤ 100000 ∧
  ∀ (i : Nat) (v : V) (H' : Hp), xs[i]? = some v → Purse H' a (n + 1) → But a H H' → Q v H'
theorem ok_one {f : Addr} {fd : FuncData} (F : FnP K "_law_one_of" s_l_one_of f fd) (B : FreeN mg) (G__law_draw : Has P w K mg base 2 "_law_draw" ["_law_purse_here", "_law_many"] spDraw) : FnOk P w K mg base CX0 3 f fd ["_law_purse_here", "_law_some"] spOne := by
  refine fnP_ok F sc_l_one_of (fun vs H Q E h => ?_) (fun cdv A outer s H vs Q E hr h => ?_)
  · obtain ⟨a, b, xs, n, rfl, _⟩ := h
    rfl
  · obtain ⟨a, b, xs, n, rfl, ne, eb, l0, l1, pu, n1, k⟩ := h
    refine ⟨_, (pss_one (ps_ret (pe_ix (k_ixl (K := K) rfl) (pv 1) (pe_has G__law_draw (hr.mono (by decide)) (pa_cons (pv 0) (pa_cons (pe_callB (k_len (K := K) rfl) (by rfl) B.len (by decide +kernel) (pa_cons (pv 1) pa_nil)) pa_nil))) (fun _ _ => rfl)))), ?_⟩
    refine ⟨_, rfl, _, rfl, _, rfl, b, xs, rfl, .inl (SqL.of eb), a, _, n, rfl, by omega, by omega, pu, n1, fun r H' r0 r1 pu' bt => ?_⟩
    obtain ⟨i, rfl⟩ := Int.eq_ofNat_of_zero_le r0
    have hi : i < xs.length := by omega
    refine ⟨b, xs, _, xs[i], rfl, rfl, SqL.of (bt b _ ne eb), atI_nat (List.getElem?_eq_getElem hi), ?_⟩
    exact k i xs[i] H' (List.getElem?_eq_getElem hi) pu' bt
/-! ### _law_shuffled -/
def spShuf (K : PySem.W.Frag) : Sp := fun vs H Q _ => ∃ (a b : Addr) (xs : List V) (n : Int), vs = [.ref a, .ref b] ∧ b ≠ a ∧ H b = some (.lst xs) ∧ xs.length < 100 ∧ Purse H a n ∧ n ≤ 90000 ∧
  ∀ (p : Addr) (ys : List V) (H' : Hp), ys.Perm xs → H p = none → H' p = some (.lst ys) → Purse H' a (n + 100) → But a H H' → Q (.ref p) H'
theorem ins_perm {α : Type} (l : List α) (i : Nat) (x : α) : (l.take i ++ x :: l.drop i).Perm (x :: l) := by
  have z : (l.take i ++ x :: l.drop i).Perm (x :: (l.take i ++ l.drop i)) := List.perm_middle
  rwa [List.take_append_drop] at z
theorem But.free {a p : Addr} {H H' : Hp} {n : Int} (bt : But a H H') (pu : Purse H' a n) (h : H' p = none) : H p = none := by
  have ne := pu.ne_new h
  cases e : H p with
  | none => rfl
  | some o =>
    rw [bt p o ne e] at h
    cases h
end
end NK
/-! a word, words -/
namespace NK
open PySem PySem.Spec PyProof.Rows L2 He K1
/-- a word of the draws -/
def Word (z : Str) : Prop := 1 ≤ z.length ∧ z.length ≤ 8 ∧ ∀ c ∈ z.cps.toList, 97 ≤ c ∧ c ≤ 122
def spWord : Sp := fun vs H Q _ => ∃ (a : Addr) (n : Int), vs = [.ref a] ∧ Purse H a n ∧ n ≤ 90000 ∧ ∀ (z : Str) (H' : Hp), Word z → Purse H' a (n + 20) → But a H H' → Q (.str z) H'
abbrev abc : Str := "abcdefghijklmnopqrstuvwxyz"
theorem abc_at : ∀ r : Nat, r < 26 → ∃ c, abc.cps.toList[r]? = some c ∧ 97 ≤ c ∧ c ≤ 122 := by
  intro r hr
  have h : ∀ r : Fin 26, ∃ c : Fin 123, abc.cps.toList[r.val]? = some c.val ∧ 97 ≤ c.val := by decide +kernel
  obtain ⟨c, h1, h2⟩ := h ⟨r, hr⟩
  exact ⟨c.val, h1, h2, Nat.le_of_lt_succ c.isLt⟩
def signS (c : Nat) : Str := ⟨#[c]⟩
theorem join_signs (cs : List Nat) : TL.tl (Str.join "" (cs.map signS)) = cs := by
  rw [TL.tl_join]
  have e : TL.tl ("" : Str) = [] := by decide +kernel
  rw [e]
  induction cs with
  | nil => rfl
  | cons c r ih =>
    cases r with
    | nil => rfl
    | cons d r =>
      show TL.tl (signS c) ++ ([] ++ TL.joinL [] (((d :: r).map signS).map TL.tl)) = c :: d :: r
      rw [ih]
      rfl
theorem lens_signs (cs : List Nat) : ((cs.map signS).map (·.length)).sum = cs.length := by
  induction cs with
  | nil => rfl
  | cons c r ih =>
    show (signS c).length + ((r.map signS).map (·.length)).sum = r.length + 1
    rw [ih]
    show 1 + r.length = r.length + 1
    omega
theorem word_of {cs : List Nat} (h1 : 1 ≤ cs.length) (h8 : cs.length ≤ 8) (h : ∀ c ∈ cs, 97 ≤ c ∧ c ≤ 122) : Word (Txt.join "" (cs.map signS)) := by
  rw [TL.join_eq]
  have e := join_signs cs
  refine ⟨?_, ?_, ?_⟩
  · rw [TL.len_tl, e]
    exact h1
  · rw [TL.len_tl, e]
    exact h8
  · intro c hc
    have hc' : c ∈ TL.tl (Str.join "" (cs.map signS)) := hc
    rw [e] at hc'
    exact h c hc'
/-- list(text) -/
theorem call_listS {X : Cx} (hc : X.calm = true) : CallR X (.type "list") (fun xs H Q => ∃ z : Str, xs = [.str z] ∧ z.length ≤ sizeLine ∧ ∀ p, H p = none → Q (.ref p) (upd H p (.lst ((z.cps.toList.map signS).map V.str)))) := by
  intro pins s σ H xs us Q I r h
  obtain ⟨z, rfl, lz, q⟩ := h
  obtain ⟨u, rfl, t, rfl⟩ := r.one
  have lz' : z.cps.size ≤ sizeLine := lz
  refine PySem.call_list_str (I.ok.hd hc) z t (fun h' tk acc c' keep at_ its => ?_) lz'
  have hn : H s.heap.objs.size = none := I.hok.fresh (Nat.le_refl _)
  refine ⟨.ref s.heap.objs.size, _, I.laid (t' := tk) (o := .lst ((z.cps.toList.map signS).map V.str)) keep (Nat.le_refl _) ⟨by rw [List.length_map, List.length_map, Array.length_toList]; exact lz', acc.toList, c', ?_, by rw [Array.toArray_toList]; exact at_⟩, rfl, q _ hn⟩
  have la : acc.toList.length = z.cps.toList.length := by rw [Array.length_toList, Array.length_toList, its.1]
  have sg : ∀ (j : Nat) (v : Value), acc.toList[j]? = some v → ∃ c u, z.cps.toList[j]? = some c ∧ v = .str ⟨#[c]⟩ u := fun j v e => by
    rw [Array.getElem?_toList] at e
    obtain ⟨c, u, e1, e2⟩ := its.2 j v e
    exact ⟨c, u, by rw [Array.getElem?_toList]; exact e1, e2⟩
  generalize z.cps.toList = cs at la sg
  generalize acc.toList = us at la sg
  clear its at_ keep q
  induction us generalizing cs with
  | nil =>
    cases cs with
    | nil => exact .nil
    | cons _ _ => cases la
  | cons u us ih =>
    cases cs with
    | nil => cases la
    | cons c cs =>
      obtain ⟨c2, t2, e1, e2⟩ := sg 0 u rfl
      cases e1
      exact .cons ⟨t2, e2⟩ (ih cs (by simpa using la) fun j v e => sg (j + 1) v e)
section
variable {P : Program} {w : World} {K : PySem.W.Frag} {mg : Str → Option Value} {base : Heap}
theorem ok_word {f : Addr} {fd : FuncData} (F : FnP K "_law_word" s_l_word f fd) (B : FreeN mg) (G__law_draw : Has P w K mg base 2 "_law_draw" ["_law_purse_here", "_law_many"] spDraw) : FnOk P w K mg base CX0 3 f fd ["_law_purse_here"] spWord := by
  refine fnP_ok F sc_l_word (fun vs H Q E h => ?_) (fun cdv A outer s H vs Q E hr h => ?_)
  · obtain ⟨a, n, rfl, _⟩ := h
    rfl
  · obtain ⟨a, n, rfl, pu, n1, k⟩ := h
    have nd := sc_l_word.nd
    refine ⟨_, (pss_cons (ps_set (i := 1) nd rfl (.inl rfl) (pe_op op_add pe_int (pe_has G__law_draw (hr.mono (by decide)) (pa_cons (pv 0) (pa_cons (pe_ifExp (pt_cmpR op_eq (pe_has G__law_draw (hr.mono (by decide)) (pa_cons (pv 0) (pa_cons pe_int pa_nil))) pe_int (nomark _)) pe_int pe_int) pa_nil)))))
      (pss_one (ps_ret (pe_join pe_str (pe_lc (own := [("_law_spin", 2)]) (g := gName 2) (tt := tYes) rfl nd (pi_range1 (by rfl) B.range (pa_cons (pv 1) pa_nil)) (blkOk_by (N := nm_l_word) (sc := defScope s_l_word) (by decide +kernel)) (fun _ _ _ _ _ => (pg_name (i := 2) nd rfl (Or.inl rfl))) (fun _ _ _ _ _ => pts_nil) (fun _ _ _ _ _ => (pe_ix ix_str pe_str (pe_has G__law_draw (hr.mono (by decide)) (pa_cons (pv 0) (pa_cons pe_int pa_nil))) (fun _ _ => rfl)))))))), ?_⟩
    refine ⟨_, rfl, _, rfl, a, 3, n, rfl, by decide, by decide, pu, by omega, fun r0 H0 r00 r01 pu0 bt0 => ⟨rfl, _, rfl, ?_⟩⟩
    -- behind both draws: the size is between 1 and 8
    have tail : ∀ (m r : Int) (H1 : Hp), m ≤ 8 → 0 ≤ r → r < m → Purse H1 a (n + 1 + 1) → But a H0 H1 →
        tRet (tM1 (fun x xs H Q => ∃ a p, ∃ ys : List Str, x = .str a ∧ xs = [.ref p] ∧ (SqL K H p (ys.map V.str) ∨ SqT K H p (ys.map V.str)) ∧ (ys.map (·.length)).sum + ys.length * a.length ≤ 16777216 ∧ Q (.str (Txt.join a ys)) H) (tC (.str ""))
          (tLc (iRng1 (tCons (tVar 1) tNil)) (gName 2) tYes (tOp rIxS (tC (.str abc)) (tCall spDraw [] E0 (tCons (tVar 0) (tCons (tC (.int 26)) tNil)))) [2]))
          { nx := fun _ H' => Q .non H', rt := Q } [some (.ref a), some (.int (1 + r)), none] H1 := by
      intro m r H1 m8 r0 r1 pu1 bt1
      obtain ⟨j, hj⟩ : ∃ j : Nat, 1 + r = (j : Int) := ⟨(1 + r).toNat, by omega⟩
      have j1 : 1 ≤ j := by omega
      have j8 : j ≤ 8 := by omega
      refine ⟨⟨_, rfl⟩, _, rfl, (j : Int), congrArg (fun z => [V.int z]) hj, by omega, by omega, fun D nD => ?_⟩
      have Da : D ≠ a := pu1.ne_new nD
      refine lc_range (lo := 0) (n := j) (fun i H' => But a H0 H' ∧ Purse H' a (n + 2 + i) ∧ ∃ cs : List Nat, cs.length = i ∧ (∀ c ∈ cs, 97 ≤ c ∧ c ≤ 122) ∧ H' D = some (.lst ((cs.map signS).map V.str))) ⟨?_, ?_, [], rfl, fun c hc => absurd hc (by simp), upd_same⟩ ?_ ?_
      · exact bt1.trans (But.of (same_new nD))
      · exact (pu1.upd Da).mono (by omega)
      · rintro i H' hi ⟨bt, pu', cs, l, hc, eD⟩
        refine ⟨rfl, _, rfl, a, 26, n + 2 + i, rfl, by decide, by decide, pu', by omega, fun q H2 q0 q1 pu2 bt2 => ?_⟩
        obtain ⟨u, rfl⟩ := Int.eq_ofNat_of_zero_le q0
        obtain ⟨c, hat, c1, c2⟩ := abc_at u (by omega)
        have eD2 := bt2 D _ Da eD
        refine ⟨_, _, c, rfl, rfl, (by show 26 ≤ sizeLine; decide), atI_nat hat, _, eD2, ?_, ?_, ?_, cs ++ [c], ?_, ?_, ?_⟩
        · rw [List.length_map, List.length_map, l, sizeLine_eq]
          omega
        · intro b o nb e
          have hb : b ≠ D := fun z => by
            have e1 := bt1 b o nb e
            rw [z, nD] at e1
            cases e1
          rw [upd_ne hb]
          exact bt2 b o nb (bt b o nb e)
        · exact (pu2.upd Da).mono (by omega)
        · rw [List.length_append, l]
          rfl
        · intro x hx
          rcases List.mem_append.mp hx with hx | hx
          · exact hc x hx
          · rw [List.mem_singleton.mp hx]
            exact ⟨c1, c2⟩
        · rw [upd_same, List.map_append, List.map_append]
          rfl
      · rintro H' ⟨bt, pu', cs, l, hc, eD⟩
        refine ⟨_, D, cs.map signS, rfl, rfl, .inl (SqL.of eD), ?_, ?_⟩
        · rw [lens_signs, List.length_map]
          show cs.length + cs.length * 0 ≤ 16777216
          omega
        · exact k _ H' (word_of (by omega) (by omega) hc) (pu'.mono (by omega)) (bt0.trans bt)
    refine ite2 (fun _ => ?_) (fun _ => ?_)
    · exact ⟨a, 8, n + 1, rfl, by decide, by decide, pu0, by omega, fun r H1 r0 r1 pu1 bt1 => ⟨_, _, rfl, rfl, tail 8 r H1 (by decide) r0 r1 pu1 bt1⟩⟩
    · exact ⟨a, 3, n + 1, rfl, by decide, by decide, pu0, by omega, fun r H1 r0 r1 pu1 bt1 => ⟨_, _, rfl, rfl, tail 3 r H1 (by decide) r0 r1 pu1 bt1⟩⟩
/-! ### words -/
theorem app_cps (x y : Str) : (x ++ y).cps.toList = x.cps.toList ++ y.cps.toList := by
  show (x.cps ++ y.cps).toList = _
  rw [Array.toList_append]
theorem app_len (x y : Str) : (x ++ y).length = x.length + y.length := by
  show (x.cps ++ y.cps).size = _
  rw [Array.size_append]
  rfl
theorem cps_len (x : Str) : x.cps.toList.length = x.length := Array.length_toList
theorem word_bent {z : Str} (h : Word z) {i c : Nat} (hi : i < z.length) (c1 : 97 ≤ c) (c2 : c ≤ 122) : Word (cutS z none (some (i : Int)) ++ signS c ++ cutS z (some ((i : Int) + 1)) none) := by
  have e1 : (cutS z none (some (i : Int))).cps.toList = z.cps.toList.take i := by
    show ((z.cps.toList.drop (HT.sIx z.length 0 none)).take (HT.sIx z.length z.length (some (i : Int)) - HT.sIx z.length 0 none)).toArray.toList = _
    rw [HT.sIx_nat, Nat.min_eq_left (Nat.le_of_lt hi), List.toList_toArray, show HT.sIx z.length 0 none = 0 from rfl, List.drop_zero, Nat.sub_zero]
  have e2 : (cutS z (some ((i : Int) + 1)) none).cps.toList = z.cps.toList.drop (i + 1) := by
    show ((z.cps.toList.drop (HT.sIx z.length 0 (some ((i : Int) + 1)))).take (HT.sIx z.length z.length none - HT.sIx z.length 0 (some ((i : Int) + 1)))).toArray.toList = _
    rw [show ((i : Int) + 1) = ((i + 1 : Nat) : Int) from rfl, HT.sIx_nat, Nat.min_eq_left (show i + 1 ≤ z.length from hi), List.toList_toArray, show HT.sIx z.length z.length none = z.length from rfl]
    refine List.take_of_length_le ?_
    rw [List.length_drop, cps_len]
    exact Nat.le_refl _
  have all : (cutS z none (some (i : Int)) ++ signS c ++ cutS z (some ((i : Int) + 1)) none).cps.toList = z.cps.toList.take i ++ [c] ++ z.cps.toList.drop (i + 1) := by
    rw [app_cps, app_cps, e1, e2]
    rfl
  have len : (cutS z none (some (i : Int)) ++ signS c ++ cutS z (some ((i : Int) + 1)) none).length = z.length := by
    rw [← cps_len, all, List.length_append, List.length_append, List.length_take, List.length_drop, cps_len]
    show min i z.length + 1 + (z.length - (i + 1)) = z.length
    omega
  refine ⟨by rw [len]; exact h.1, by rw [len]; exact h.2.1, fun x hx => ?_⟩
  rw [all, List.mem_append, List.mem_append, List.mem_singleton] at hx
  rcases hx with (hx | rfl) | hx
  · exact h.2.2 x (List.mem_of_mem_take hx)
  · exact ⟨c1, c2⟩
  · exact h.2.2 x (List.mem_of_mem_drop hx)
theorem inV_str (x : Str) (zs : List Str) : inV (.str x) (zs.map V.str) = decide (x ∈ zs) := by
  unfold inV
  induction zs with
  | nil => rfl
  | cons z zs ih =>
    rw [List.map_cons, List.any_cons, ih]
    show (z == x || decide (x ∈ zs)) = decide (x ∈ z :: zs)
    by_cases e : z = x
    · subst e
      simp
    · have e2 : (z == x) = false := beq_eq_false_iff_ne.mpr e
      have e3 : ¬ x = z := fun q => e q.symm
      simp [e2, e3]
theorem flat_strs (zs : List Str) : (zs.map V.str).all flatV = true := by
  rw [List.all_map]
  exact List.all_eq_true.mpr fun _ _ => rfl
/-- the letters, as texts -/
def abcL : List Str := abc.cps.toList.map signS
theorem abcL_nodup : abcL.Nodup := by decide +kernel
theorem abcL_len : abcL.length = 26 := by decide +kernel
theorem abcL_word : ∀ z ∈ abcL, Word z := by
  intro z hz
  obtain ⟨c, hc, rfl⟩ := List.mem_map.mp hz
  have h : (abc.cps.toList.all fun c => decide (97 ≤ c) && decide (c ≤ 122)) = true := by decide +kernel
  have h1 := List.all_eq_true.mp h c hc
  rw [Bool.and_eq_true, decide_eq_true_eq, decide_eq_true_eq] at h1
  refine ⟨Nat.le_refl 1, by show 1 ≤ 8; decide, fun x hx => ?_⟩
  have e : x = c := by simpa [signS] using hx
  rw [e]
  exact h1
theorem nodup_few {α : Type} [DecidableEq α] : ∀ (l m : List α), l.Nodup → (∀ x ∈ l, x ∈ m) → l.length ≤ m.length
  | [], _, _, _ => Nat.zero_le _
  | x :: l, m, nd, h => by
    obtain ⟨h1, h2⟩ := List.nodup_cons.mp nd
    have z := nodup_few l (m.erase x) h2 fun y hy => by
      refine (List.mem_erase_of_ne fun e => h1 ?_).mpr (h y (List.mem_cons_of_mem _ hy))
      rw [← e]
      exact hy
    have hx := h x List.mem_cons_self
    rw [List.length_erase_of_mem hx] at z
    have := List.length_pos_of_mem hx
    rw [List.length_cons]
    omega
theorem spare_letter {zs : List Str} (h : zs.length < 26) : ∃ z r, (abcL.filter fun x => !decide (x ∈ zs)) = z :: r ∧ Word z ∧ z ∉ zs := by
  cases e : abcL.filter fun x => !decide (x ∈ zs) with
  | nil =>
    exfalso
    have all : ∀ x ∈ abcL, x ∈ zs := fun x hx => by
      have q := List.filter_eq_nil_iff.mp e x hx
      simpa using q
    have := nodup_few abcL zs abcL_nodup all
    rw [abcL_len] at this
    omega
  | cons z r =>
    have m : z ∈ abcL.filter fun x => !decide (x ∈ zs) := by rw [e]; exact List.mem_cons_self
    obtain ⟨m1, m2⟩ := List.mem_filter.mp m
    exact ⟨z, r, rfl, abcL_word z m1, by simpa using m2⟩
def spWords : Sp := fun vs H Q _ => ∃ (a : Addr) (m : Nat) (n : Int), vs = [.ref a, .int (m : Int)] ∧ m ≤ 20 ∧ Purse H a n ∧ n ≤ 80000 ∧
  ∀ (p : Addr) (zs : List Str) (H' : Hp), zs.length = m → zs.Nodup → (∀ z ∈ zs, Word z) → H p = none → H' p = some (.lst (zs.map V.str)) → Purse H' a (n + 1000) → But a H H' → Q (.ref p) H'
theorem ok_words {f : Addr} {fd : FuncData} (F : FnP K "_law_words" s_l_words f fd) (B : FreeN mg) (G__law_draw : Has P w K mg base 2 "_law_draw" ["_law_purse_here", "_law_many"] spDraw) (G__law_word : Has P w K mg base 3 "_law_word" ["_law_purse_here"] spWord) : FnOk P w K mg base CX0 4 f fd ["_law_purse_here", "_law_many"] spWords := by
  refine fnP_ok F sc_l_words (fun vs H Q E h => ?_) (fun cdv A outer s H vs Q E hr h => ?_)
  · obtain ⟨a, m, n, rfl, _⟩ := h
    rfl
  · obtain ⟨a, m, n, rfl, m20, pu, n1, k⟩ := h
    have nd := sc_l_words.nd
    refine ⟨_, (pss_cons (ps_par (i := 2) (j := 3) rfl nd rfl rfl (by decide) rfl rfl (pa_cons (pe_has G__law_word (hr.mono (by decide)) (pa_cons (pv 0) pa_nil)) (pa_cons (pe_cmpR op_eq (pe_has G__law_draw (hr.mono (by decide)) (pa_cons (pv 0) (pa_cons pe_int pa_nil))) pe_int (nomark _)) pa_nil)) rfl)
      (pss_cons (ps_asg (pe_tup (pa_cons (pe_has G__law_draw (hr.mono (by decide)) (pa_cons (pv 0) (pa_cons (pe_callB call_len_str (by rfl) B.len (by decide +kernel) (pa_cons (pv 2) pa_nil)) pa_nil))) (pa_cons (pe_lst pa_nil) pa_nil))) (pg_tup rfl (pgs_cons (pg_name (i := 4) nd rfl (.inl rfl)) (pgs_cons (pg_name (i := 5) nd rfl (.inr rfl)) pgs_nil))))
      (pss_cons (ps_for PassesOwn.never rfl (pi_range1 (by rfl) B.range (pa_cons (pv 1) pa_nil)) (pg_name (i := 6) nd rfl (.inl rfl)) (pss_cons (ps_set (i := 7) nd rfl (.inl rfl) (pe_op op_add_str (pe_op op_add_str (pe_slice sl_str (pv 2) po_none (po_some (pv 4))) (pe_ix ix_str pe_str (pe_has G__law_draw (hr.mono (by decide)) (pa_cons (pv 0) (pa_cons pe_int pa_nil))) (fun _ _ => rfl))) (pe_slice sl_str (pv 2) (po_some (pe_op op_add (pv 4) pe_int)) po_none)))
      (C8.pss_cut (ps_if (pt_not (pt_val (pv 3))) (pss_one (ps_set (i := 7) nd rfl (.inl rfl) (pe_has G__law_word (hr.mono (by decide)) (pa_cons (pv 0) pa_nil)))) pss_nil)
      (C8.pss_cut (ps_if (pt_cmpR (k_in (K := K) rfl) (pv 7) (pv 5) (by rfl)) (pss_one (ps_set (i := 7) nd rfl (.inl rfl) (pe_ix (k_ixl (K := K) rfl) (pe_lc (own := [("_law_letter", 8)]) (g := gName 8) rfl nd (k_pil (K := K) rfl (pe_callTy (call_listS rfl) (by rfl) B.list (by decide +kernel) (pa_cons pe_str pa_nil))) (blkOk_by (N := nm_l_words) (sc := defScope s_l_words) (by decide +kernel)) (fun _ _ _ _ _ => (pg_name (i := 8) nd rfl (Or.inl rfl))) (fun _ _ _ _ _ => (pts_one (pt_cmpR (k_notin (K := K) rfl) (pv 8) (pv 5) (by rfl)))) (fun _ _ _ _ _ => (pv 8))) pe_int (fun _ _ => rfl)))) pss_nil)
      (pss_one (ps_expr (pe_bm PySem.F.plainAttrs_list PySem.F.slot_list_append PySem.F.type_list_append mt_append (pv 5) (pa_cons (pv 7) pa_nil))))))))
      (pss_one (ps_ret (pv 5)))))), ?_⟩
    refine ⟨_, rfl, a, n, rfl, pu, by omega, fun z0 H1 hz0 pu1 bt1 => ?_⟩
    refine ⟨_, rfl, a, 3, _, rfl, by decide, by decide, pu1, by omega, fun r1 H2 _ _ pu2 bt2 => ?_⟩
    refine ⟨rfl, _, _, rfl, ?_⟩
    refine ⟨_, rfl, _, rfl, z0, rfl, Nat.le_trans hz0.2.1 (by rw [sizeLine_eq]; decide), a, _, _, rfl, by have := hz0.1; omega, by have := hz0.2.1; omega, pu2, by omega, fun spot H3 s0 s1 pu3 bt3 => ?_⟩
    refine ⟨by show 0 ≤ sizeLine; decide, fun D nD => ⟨by show 2 ≤ sizeLine; decide, fun T nT => ?_⟩⟩
    refine ⟨T, _, rfl, SqT.of upd_same, rfl, _, _, rfl, _, _, rfl, rfl, ?_⟩
    have Da := pu3.ne_new nD
    have nD2 : upd H3 D (.lst []) T = none := nT
    have DT : D ≠ T := ne_of_none (upd_same (H := H3) (a := D) (o := .lst [])) nT
    have aT : a ≠ T := fun e => by
      obtain ⟨o, eo⟩ := (pu3.upd Da).at_
      rw [e, nD2] at eo
      cases eo
    obtain ⟨sp, rfl⟩ := Int.eq_ofNat_of_zero_le s0
    have sp1 : sp < z0.length := by omega
    have bt13 : But a H H3 := bt1.trans (bt2.trans bt3)
    have new3 : ∀ b, H3 b = none → H b = none := fun b e => But.free bt13 pu3 e
    refine ⟨_, rfl, (m : Int), rfl, by omega, by omega, for_range (n := m) (fun i σ H' => ∃ (v6 v7 v8 : Option V) (zs : List Str), σ = [some (.ref a), some (.int (m : Int)), some (.str z0), some (.bl (decide (V.int r1 = V.int 0))), some (.int (sp : Int)), some (.ref D), v6, v7, v8] ∧ But a H H' ∧ Purse H' a (n + 40 + 30 * i) ∧
      H' D = some (.lst (zs.map V.str)) ∧ zs.length = i ∧ zs.Nodup ∧ ∀ z ∈ zs, Word z) ⟨none, none, none, [], rfl, ?_, ?_, ?_, rfl, List.nodup_nil, fun z hz => nomatch hz⟩ ?_ ?_⟩
    · exact bt13.trans (But.of ((same_new nD).trans (same_new nT)))
    · exact ((pu3.upd Da).upd (Ne.symm aT)).mono (by omega)
    · rw [upd_ne DT, upd_same]
      rfl
    · rintro i σ H' hi ⟨v6, v7, v8, zs, rfl, bt, pu', eD, lz, ndz, wz⟩
      have Da' : D ≠ a := Da
      refine ⟨_, rfl, _, rfl, _, rfl, z0, rfl, Nat.le_trans hz0.2.1 (by rw [sizeLine_eq]; decide), ?_⟩
      refine ⟨_, rfl, a, 26, _, rfl, by decide, by decide, pu', by omega, fun q H2 q0 q1 pu2 bt2 => ?_⟩
      obtain ⟨u, rfl⟩ := Int.eq_ofNat_of_zero_le q0
      obtain ⟨c, hat, c1, c2⟩ := abc_at u (by omega)
      have wb := word_bent hz0 sp1 c1 c2
      have lb : ∀ x y : Str, x.length ≤ 100 → y.length ≤ 100 → x.length + y.length ≤ sizeLine := fun x y h1 h2 => by rw [sizeLine_eq]; omega
      have l1 : (cutS z0 none (some (sp : Int))).length ≤ 100 := Nat.le_trans (cutS_length _ _ _) (Nat.le_trans hz0.2.1 (by decide))
      have l2 : (cutS z0 (some ((sp : Int) + 1)) none).length ≤ 100 := Nat.le_trans (cutS_length _ _ _) (Nat.le_trans hz0.2.1 (by decide))
      have lc : (signS c).length ≤ 8 := by show 1 ≤ 8; decide
      refine ⟨_, _, c, rfl, rfl, (by show 26 ≤ sizeLine; decide), atI_nat hat, _, _, rfl, rfl, lb _ _ l1 (Nat.le_trans lc (by decide)), ?_⟩
      refine ⟨_, rfl, _, rfl, _, _, rfl, rfl, _, rfl, z0, rfl, Nat.le_trans hz0.2.1 (by rw [sizeLine_eq]; decide), ?_⟩
      refine ⟨_, _, rfl, rfl, lb _ _ ?_ l2, ?_⟩
      · rw [app_len]
        have := cutS_length z0 none (some (sp : Int))
        have := hz0.2.1
        show _ + (signS c).length ≤ 100
        omega
      have eD2 := bt2 D _ Da eD
      have btH2 := bt.trans bt2
      refine ⟨fun σ' H3 => ∃ (w7 : Str) (v8 : Option V), σ' = [some (.ref a), some (.int (m : Int)), some (.str z0), some (.bl (decide (V.int r1 = V.int 0))), some (.int (sp : Int)), some (.ref D), some (.int (0 + (i : Int))), some (.str w7), v8] ∧ But a H2 H3 ∧ Purse H3 a (n + 40 + 30 * i + 25) ∧ Word w7, ?_, ?_⟩
      · refine ⟨_, rfl, _, rfl, ?_⟩
        refine ite2 (fun _ => ?_) (fun _ => ?_)
        · refine ⟨_, rfl, a, _, rfl, pu2, by omega, fun z H3 hz pu3 bt3 => ?_⟩
          exact ⟨z, _, rfl, bt3, pu3.mono (by omega), hz⟩
        · exact ⟨_, _, rfl, But.refl a H2, pu2.mono (by omega), wb⟩
      · rintro σ' H3 ⟨w7, v8', rfl, bt3', pu4, hw7⟩
        have eD3 := bt3' D _ Da eD2
        refine ⟨fun σ' H4 => ∃ (w7 : Str) (v8 : Option V), σ' = [some (.ref a), some (.int (m : Int)), some (.str z0), some (.bl (decide (V.int r1 = V.int 0))), some (.int (sp : Int)), some (.ref D), some (.int (0 + (i : Int))), some (.str w7), v8] ∧ Same H3 H4 ∧ Word w7 ∧ w7 ∉ zs, ?_, ?_⟩
        · refine ⟨_, rfl, _, rfl, D, _, rfl, .inl (SqL.of eD3), rfl, flat_strs zs, _, rfl, ?_⟩
          rw [inV_str]
          refine ite2 (fun hin => ?_) (fun hin => ?_)
          · refine ⟨_, rfl, by show 26 ≤ sizeLine; decide, fun L nL => ?_⟩
            refine ⟨L, rfl, ⟨_, SqL.of upd_same⟩, fun D2 nD2 => ?_⟩
            have sL : Same H3 (upd H3 L (.lst (abcL.map V.str))) := same_new nL
            have LD2 : L ≠ D2 := ne_of_none upd_same nD2
            have DD2 : D ≠ D2 := ne_of_none (sL _ _ eD3) nD2
            obtain ⟨z, r, ef, hz, nz⟩ := spare_letter (zs := zs) (by omega)
            have ll : abcL.length = 26 := abcL_len
            refine lc_list (K := K) (a := L) (xs := abcL.map V.str) (fun j H' => Same H3 H' ∧ H' L = some (.lst (abcL.map V.str)) ∧ H' D2 = some (.lst (((abcL.take j).filter fun x => !decide (x ∈ zs)).map V.str))) ⟨sL.trans (same_new nD2), by rw [upd_ne LD2, upd_same]; rfl, upd_same⟩ (fun j H' _ ⟨_, e, _⟩ => SqL.of e) ?_ ?_
            · rintro j x H' hx ⟨sm, eL, eD2⟩
              rw [List.getElem?_map] at hx
              cases ex : abcL[j]? with
              | none =>
                rw [ex] at hx
                cases hx
              | some y =>
                rw [ex] at hx
                cases hx
                have st : abcL.take (j + 1) = abcL.take j ++ [y] := by
                  rw [List.take_add_one, ex]
                  rfl
                have hj : j < 26 := by
                  have := (List.getElem?_eq_some_iff.mp ex).1
                  omega
                refine ⟨rfl, _, rfl, _, rfl, D, _, rfl, .inl (SqL.of (sm _ _ eD3)), rfl, flat_strs zs, _, rfl, ?_⟩
                rw [inV_str]
                refine ite2 (fun q => ?_) (fun q => ?_)
                · refine ⟨_, rfl, _, eD2, ?_, ?_, ?_, ?_⟩
                  · rw [List.length_map, sizeLine_eq]
                    have := List.length_filter_le (fun x => !decide (x ∈ zs)) (abcL.take j)
                    have := List.length_take_le j abcL
                    omega
                  · exact fun b o e => by
                      rw [upd_ne (ne_of_none e (sL.free nD2))]
                      exact sm _ _ e
                  · rw [upd_ne LD2]
                    exact eL
                  · rw [upd_same, st, List.filter_append, List.filter_cons_of_pos (by simpa using q), List.filter_nil, List.map_append]
                    rfl
                · refine ⟨sm, eL, ?_⟩
                  rw [st, List.filter_append, List.filter_cons_of_neg (by simpa using q), List.filter_nil, List.append_nil]
                  exact eD2
            · rintro H' ⟨sm, eL, eD2⟩
              rw [List.length_map, List.take_length, ef] at eD2
              refine ⟨D2, _, ((0 : Nat) : Int), .str z, rfl, rfl, SqL.of eD2, atI_nat (by rw [List.map_cons]; rfl), ?_⟩
              exact ⟨z, _, rfl, sm, hz, nz⟩
          · exact ⟨w7, _, rfl, Same.refl H3, hw7, by simpa using hin⟩
        · rintro σ' H4 ⟨w8, v9, rfl, sm, hw8, nw8⟩
          have eD4 := sm _ _ eD3
          refine ⟨_, rfl, .inl ⟨rfl, _, SqL.of eD4⟩, _, rfl, D, _, _, rfl, rfl, eD4, ?_, ?_⟩
          · rw [List.length_map, sizeLine_eq]
            omega
          · refine ⟨_, _, _, zs ++ [w8], rfl, ?_, ?_, ?_, ?_, ?_, ?_⟩
            · intro b o nb e
              rw [upd_ne (ne_of_none e (new3 D nD))]
              exact (btH2.trans (bt3'.trans (But.of sm))) b o nb e
            · exact ((pu4.same sm).upd Da').mono (by omega)
            · rw [upd_same, List.map_append]
              rfl
            · rw [List.length_append, lz]
              rfl
            · exact List.nodup_append.mpr ⟨ndz, List.nodup_cons.mpr ⟨List.not_mem_nil, List.nodup_nil⟩, fun x hx y hy e => nw8 (by rw [List.mem_singleton.mp hy] at e; exact e ▸ hx)⟩
            · intro z hz
              rcases List.mem_append.mp hz with hz | hz
              · exact wz z hz
              · rw [List.mem_singleton.mp hz]
                exact hw8
    · rintro σ H' ⟨v6, v7, v8, zs, rfl, bt, pu', eD, lz, ndz, wz⟩
      exact ⟨_, rfl, k D zs H' lz ndz wz (new3 D nD) eD (pu'.mono (by omega)) bt⟩
end
end NK
/-! a paired part -/
namespace NK
open PySem PySem.Spec PyProof.Rows L2 He K1
/-- tuples stay -/
def Tu (H H' : Hp) : Prop := ∀ b xs, H b = some (.tup xs) → H' b = some (.tup xs)
theorem Tu.refl (H : Hp) : Tu H H := fun _ _ h => h
theorem Tu.trans {H H1 H2 : Hp} (x : Tu H H1) (y : Tu H1 H2) : Tu H H2 := fun b xs h => y b xs (x b xs h)
theorem Tu.of {H H' : Hp} (s : Same H H') : Tu H H' := fun b xs h => s b _ h
theorem Tu.but {H H' : Hp} {a : Addr} {n : Int} (pu : Purse H a n) (bt : But a H H') : Tu H H' := fun b xs h => bt b _ (by
  rintro rfl
  obtain ⟨_, _, _, _, e, _⟩ := pu
  rw [h] at e
  cases e) h
theorem Tu.upd {H : Hp} {D : Addr} {xs : List V} {o : HO} (e : H D = some (.lst xs)) : Tu H (upd H D o) := fun b ys h => by
  rw [upd_ne]
  · exact h
  · rintro rfl
    rw [h] at e
    cases e
/-- tuples of two ints each, all told -/
abbrev IIs := List (Addr × Int × Int)
def irefs (ts : IIs) : List V := ts.map fun t => V.ref t.1
structure IPs (H : Hp) (ts : IIs) (R : Int → Int → Prop) : Prop where
  at_ : ∀ t ∈ ts, H t.1 = some (.tup [.int t.2.1, .int t.2.2]) ∧ R t.2.1 t.2.2
theorem IPs.tu {H H' : Hp} {ts : IIs} {R : Int → Int → Prop} (p : IPs H ts R) (s : Tu H H') : IPs H' ts R := ⟨fun t m => ⟨s _ _ (p.at_ t m).1, (p.at_ t m).2⟩⟩
theorem IPs.nil {H : Hp} {R : Int → Int → Prop} : IPs H [] R := ⟨fun t m => nomatch m⟩
theorem IPs.snoc {H : Hp} {ts : IIs} {R : Int → Int → Prop} (p : IPs H ts R) {T : Addr} {x y : Int} (e : H T = some (.tup [.int x, .int y])) (r : R x y) : IPs H (ts ++ [(T, x, y)]) R := by
  refine ⟨fun t m => ?_⟩
  rcases List.mem_append.mp m with m | m
  · exact p.at_ t m
  · rw [List.mem_singleton.mp m]
    exact ⟨e, r⟩
theorem IPs.append {H : Hp} {ts us : IIs} {R : Int → Int → Prop} (p : IPs H ts R) (q : IPs H us R) : IPs H (ts ++ us) R := by
  refine ⟨fun t m => ?_⟩
  rcases List.mem_append.mp m with m | m
  · exact p.at_ t m
  · exact q.at_ t m
theorem IPs.mono {H : Hp} {ts : IIs} {R S : Int → Int → Prop} (p : IPs H ts R) (h : ∀ x y, R x y → S x y) : IPs H ts S := ⟨fun t m => ⟨(p.at_ t m).1, h _ _ (p.at_ t m).2⟩⟩
theorem irefs_snoc (ts : IIs) (t : Addr × Int × Int) : irefs (ts ++ [t]) = irefs ts ++ [V.ref t.1] := by
  unfold irefs
  rw [List.map_append]
  rfl
theorem irefs_len (ts : IIs) : (irefs ts).length = ts.length := List.length_map ..
theorem irefs_at {ts : IIs} {i : Nat} {x : V} (h : (irefs ts)[i]? = some x) : ∃ t, ts[i]? = some t ∧ x = V.ref t.1 := by
  unfold irefs at h
  rw [List.getElem?_map] at h
  cases e : ts[i]? with
  | none =>
    rw [e] at h
    cases h
  | some t =>
    rw [e] at h
    exact ⟨t, rfl, (Option.some.inj h).symm⟩
/-- points of a pair -/
def inB (k : Int) (x y : Int) : Prop := 0 ≤ x ∧ x < k ∧ 0 ≤ y ∧ y < k
/-- an edge among the first m -/
def edge (m : Int) (x y : Int) : Prop := 0 ≤ x ∧ x < y ∧ y < m
section
variable {P : Program} {w : World} {K : PySem.W.Frag} {mg : Str → Option Value} {base : Heap}
def spPairs : Sp := fun vs H Q _ => ∃ (a : Addr) (k m : Nat) (n : Int), vs = [.ref a, .int (k : Int), .int (m : Int)] ∧ 2 ≤ k ∧ k ≤ m + 1 ∧ m ≤ 20 ∧ Purse H a n ∧ n ≤ 80000 ∧
  ∀ (p : Addr) (ts : IIs) (H' : Hp), ts.length = m → H p = none → H' p = some (.lst (irefs ts)) → IPs H' ts (inB k) → Purse H' a (n + 100) → But a H H' → Q (.ref p) H'
theorem ok_pairs {f : Addr} {fd : FuncData} (F : FnP K "_law_pairs_drawn" s_l_pairs_drawn f fd) (B : FreeN mg) (G__law_draw : Has P w K mg base 2 "_law_draw" ["_law_purse_here", "_law_many"] spDraw) : FnOk P w K mg base CX0 3 f fd ["_law_purse_here", "_law_points", "_law_many"] spPairs := by
  refine fnP_ok F sc_l_pairs_drawn (fun vs H Q E h => ?_) (fun cdv A outer s H vs Q E hr h => ?_)
  · obtain ⟨a, k, m, n, rfl, _⟩ := h
    rfl
  · obtain ⟨a, k, m, n, rfl, k2, km, m20, pu, n1, kk⟩ := h
    have nd := sc_l_pairs_drawn.nd
    refine ⟨_, (pss_cons (ps_setLc (i := 3) (own := [("_law_late", 7)]) (g := gName 7) (tt := tYes) rfl nd rfl rfl (sw_true rfl rfl rfl (by decide +kernel)) (pi_range2 (by rfl) B.range (pa_cons pe_int (pa_cons (pv 1) pa_nil))) (blkOk_by (N := nm_l_pairs_drawn) (sc := defScope s_l_pairs_drawn) (by decide +kernel)) (fun _ _ _ _ _ => (pg_name (i := 7) nd rfl (Or.inl rfl))) (fun _ _ _ _ _ => pts_nil) (fun _ _ _ _ _ => (pe_tup (pa_cons (pe_has G__law_draw (hr.mono (by decide)) (pa_cons (pv 0) (pa_cons (pv 7) pa_nil))) (pa_cons (pv 7) pa_nil)))))
      (pss_cons (ps_for PassesOwn.never rfl (pi_range1 (by rfl) B.range (pa_cons (pe_op op_sub (pv 2) (pe_callB (k_len (K := K) rfl) (by rfl) B.len (by decide +kernel) (pa_cons (pv 3) pa_nil))) pa_nil)) (pg_name (i := 4) nd rfl (.inl rfl)) (pss_cons (ps_set (i := 5) nd rfl (.inl rfl) (pe_has G__law_draw (hr.mono (by decide)) (pa_cons (pv 0) (pa_cons (pv 1) pa_nil))))
      (pss_cons (ps_set (i := 6) nd rfl (.inl rfl) (pe_op op_mod (pe_callTy call_int1 (by rfl) B.int (by decide +kernel) (pa_cons (pe_op op_add (pe_op op_add (pv 5) pe_int) (pe_has G__law_draw (hr.mono (by decide)) (pa_cons (pv 0) (pa_cons (pe_op op_sub (pv 1) pe_int) pa_nil)))) pa_nil)) (pv 1)))
      (pss_one (ps_expr (pe_bm PySem.F.plainAttrs_list PySem.F.slot_list_append PySem.F.type_list_append mt_append (pv 3) (pa_cons (pe_tup (pa_cons (pe_callB (call_min2 rfl) (by rfl) B.min (by decide +kernel) (pa_cons (pv 5) (pa_cons (pv 6) pa_nil))) (pa_cons (pe_callB (call_max2 rfl) (by rfl) B.max (by decide +kernel) (pa_cons (pv 5) (pa_cons (pv 6) pa_nil))) pa_nil))) pa_nil)))))))
      (pss_one (ps_ret (pv 3))))), ?_⟩
    refine ⟨_, rfl, 1, (k : Int), rfl, ⟨by decide, by decide, by omega, by omega⟩, fun D nD => ?_⟩
    have Da := pu.ne_new nD
    refine lc_range (lo := 1) (n := ((k : Int) - 1).toNat) (fun i H' => But a H H' ∧ Purse H' a (n + i) ∧ ∃ ts : IIs, H' D = some (.lst (irefs ts)) ∧ ts.length = i ∧ IPs H' ts (inB k)) ⟨But.of (same_new nD), (pu.upd Da).mono (by omega), [], upd_same, rfl, .nil⟩ ?_ ?_
    · rintro i H' hi ⟨bt, pu', ts, eD, lt, ip⟩
      refine ⟨rfl, _, rfl, _, rfl, a, _, _, rfl, by omega, by omega, pu', by omega, fun r H2 r0 r1 pu2 bt2 => ?_⟩
      refine ⟨_, rfl, by show 2 ≤ sizeLine; decide, fun T nT => ?_⟩
      have eD2 := bt2 D _ Da eD
      have DT : D ≠ T := ne_of_none eD2 nT
      have sT : Same H2 (upd H2 T (.tup [.int r, .int (1 + i)])) := same_new nT
      have eD3 := sT _ _ eD2
      refine ⟨_, eD3, by rw [irefs_len, lt, sizeLine_eq]; omega, ?_, ?_, ts ++ [(T, r, 1 + (i : Int))], ?_, ?_, ?_⟩
      · intro b o nb e
        rw [upd_ne (ne_of_none e nD)]
        exact sT _ _ (bt2 b o nb (bt b o nb e))
      · exact ((pu2.same sT).upd Da).mono (by omega)
      · rw [upd_same, irefs_snoc]
      · rw [List.length_append, lt]
        rfl
      · refine ((ip.tu ((Tu.but pu' bt2).trans (Tu.of sT))).snoc upd_same ?_).tu (Tu.upd eD3)
        unfold inB
        omega
    · rintro H' ⟨bt, pu', ts, eD, lt, ip⟩
      refine ⟨_, rfl, _, rfl, D, _, rfl, .inl (SqL.of eD), _, _, rfl, rfl, ?_⟩
      rw [irefs_len, lt]
      have ek : (m : Int) - ((((k : Int) - 1).toNat : Nat) : Int) = ((m - (k - 1) : Nat) : Int) := by omega
      refine ⟨((m - (k - 1) : Nat) : Int), congrArg (fun z => [V.int z]) ek, by omega, by omega, for_range (n := m - (k - 1)) (fun i σ H' => ∃ (v4 v5 v6 : Option V) (ts : IIs), σ = [some (.ref a), some (.int (k : Int)), some (.int (m : Int)), some (.ref D), v4, v5, v6, none] ∧ But a H H' ∧ Purse H' a (n + 20 + 2 * i) ∧ H' D = some (.lst (irefs ts)) ∧ ts.length = k - 1 + i ∧ IPs H' ts (inB k))
        ⟨none, none, none, ts, rfl, bt, pu'.mono (by omega), eD, by omega, ip⟩ ?_ ?_⟩
      · rintro i σ H' hi ⟨v4, v5, v6, ts, rfl, bt, pu', eD, lt, ip⟩
        refine ⟨_, rfl, _, rfl, a, _, _, rfl, by omega, by omega, pu', by omega, fun r H2 r0 r1 pu2 bt2 => ?_⟩
        refine ⟨_, rfl, _, _, rfl, rfl, _, rfl, _, rfl, _, _, rfl, rfl, a, _, _, rfl, by omega, by omega, pu2, by omega, fun r2 H3 r20 r21 pu3 bt3 => ?_⟩
        refine ⟨_, _, rfl, rfl, .inl ⟨_, rfl, _, rfl, _, _, rfl, rfl, (by show (0 : Int) < k; omega), ?_⟩⟩
        have o0 : 0 ≤ (r + 1 + r2) % (k : Int) := Int.emod_nonneg _ (by omega)
        have o1 : (r + 1 + r2) % (k : Int) < k := Int.emod_lt_of_pos _ (by omega)
        have eD3 := bt3 D _ Da (bt2 D _ Da eD)
        refine ⟨_, rfl, .inl ⟨rfl, _, SqL.of eD3⟩, ?_⟩
        refine ⟨_, rfl, _, rfl, _, _, rfl, _, rfl, _, rfl, _, _, rfl, by show 2 ≤ sizeLine; decide, fun T nT => ?_⟩
        have sT := same_new (o := .tup [.int (if (r + 1 + r2) % (k : Int) < r then (r + 1 + r2) % (k : Int) else r), .int (if (r + 1 + r2) % (k : Int) > r then (r + 1 + r2) % (k : Int) else r)]) nT
        have eD4 := sT _ _ eD3
        refine ⟨D, _, _, rfl, rfl, eD4, by rw [irefs_len, lt, sizeLine_eq]; omega, ?_⟩
        refine ⟨_, _, _, ts ++ [(T, if (r + 1 + r2) % (k : Int) < r then (r + 1 + r2) % (k : Int) else r, if (r + 1 + r2) % (k : Int) > r then (r + 1 + r2) % (k : Int) else r)], rfl, ?_, ?_, ?_, ?_, ?_⟩
        · intro b q nb e
          rw [upd_ne (ne_of_none e nD)]
          exact sT _ _ (bt3 b q nb (bt2 b q nb (bt b q nb e)))
        · exact ((pu3.same sT).upd Da).mono (by omega)
        · rw [upd_same, irefs_snoc]
        · rw [List.length_append, lt]
          rfl
        · refine ((ip.tu ((Tu.but pu' bt2).trans ((Tu.but pu2 bt3).trans (Tu.of sT)))).snoc upd_same ?_).tu (Tu.upd eD4)
          unfold inB
          split <;> split <;> omega
      · rintro σ H' ⟨v4, v5, v6, ts, rfl, bt, pu', eD, lt, ip⟩
        exact ⟨_, rfl, kk D ts H' (by omega) nD eD ip (pu'.mono (by omega)) bt⟩
/-! ### ties of pairs -/
def spTies (K : PySem.W.Frag) : Sp := fun vs H Q _ => ∃ (b : Addr) (ts : IIs) (k : Int), vs = [.ref b] ∧ H b = some (.lst (irefs ts)) ∧ ts.length ≤ 20 ∧ IPs H ts (inB k) ∧
  ∀ (p : Addr) (us : IIs) (H' : Hp), us.length ≤ 400 → H p = none → H' p = some (.lst (irefs us)) → IPs H' us (edge ts.length) → Same H H' → Q (.ref p) H'
theorem ok_ties {f : Addr} {fd : FuncData} (F : FnP K "_law_ties_of_pairs" s_l_ties_of_pairs f fd) (B : FreeN mg) : FnOk P w K mg base CX0 1 f fd ["_law_pairs"] (spTies K) := by
  refine fnP_ok F sc_l_ties_of_pairs (fun vs H Q E h => ?_) (fun cdv A outer s H vs Q E hr h => ?_)
  · obtain ⟨b, ts, k, rfl, _⟩ := h
    rfl
  · obtain ⟨b, ts, k, rfl, eb, lt, ip, kk⟩ := h
    have nd := sc_l_ties_of_pairs.nd
    refine ⟨_, (pss_cons (ps_set (i := 1) nd rfl (.inl rfl) (pe_lst pa_nil))
      (pss_cons (ps_for PassesOwn.never rfl (pi_range1 (by rfl) B.range (pa_cons (pe_callB (k_len (K := K) rfl) (by rfl) B.len (by decide +kernel) (pa_cons (pv 0) pa_nil)) pa_nil)) (pg_name (i := 2) nd rfl (.inl rfl)) (pss_one (ps_for PassesOwn.never rfl (pi_range2 (by rfl) B.range (pa_cons (pe_op op_add (pv 2) pe_int) (pa_cons (pe_callB (k_len (K := K) rfl) (by rfl) B.len (by decide +kernel) (pa_cons (pv 0) pa_nil)) pa_nil))) (pg_name (i := 3) nd rfl (.inr rfl)) (pss_one (ps_if (pt_cmpR op_eq (pe_callB (k_len (K := K) rfl) (by rfl) B.len (by decide +kernel) (pa_cons (pe_lc (own := [("_law_point", 4)]) (g := gName 4) rfl nd (pi_tup (pe_ix (k_ixl (K := K) rfl) (pv 0) (pv 2) (fun _ _ => rfl))) (blkOk_by (N := nm_l_ties_of_pairs) (sc := defScope s_l_ties_of_pairs) (by decide +kernel)) (fun _ _ _ _ _ => (pg_name (i := 4) nd rfl (Or.inl rfl))) (fun _ _ _ _ _ => (pts_one (pt_cmpR (k_in (K := K) rfl) (pv 4) (pe_ix (k_ixl (K := K) rfl) (pv 0) (pv 3) (fun _ _ => rfl)) (by rfl)))) (fun _ _ _ _ _ => (pv 4))) pa_nil)) pe_int (nomark _)) (pss_one (ps_expr (pe_bm PySem.F.plainAttrs_list PySem.F.slot_list_append PySem.F.type_list_append mt_append (pv 1) (pa_cons (pe_tup (pa_cons (pv 2) (pa_cons (pv 3) pa_nil))) pa_nil)))) pss_nil)))))
      (pss_one (ps_ret (pv 1))))), ?_⟩
    refine ⟨by show 0 ≤ sizeLine; decide, fun D nD => ?_⟩
    have Db : b ≠ D := ne_of_none eb nD
    have eb0 : upd H D (.lst []) b = some (.lst (irefs ts)) := by rw [upd_ne Db]; exact eb
    refine ⟨_, rfl, b, _, rfl, .inl (SqL.of eb0), (ts.length : Int), by rw [irefs_len], by omega, by omega, for_range (n := ts.length) (fun i σ H' => ∃ (v2 v3 : Option V) (us : IIs), σ = [some (.ref b), some (.ref D), v2, v3, none] ∧ Same H H' ∧ H' D = some (.lst (irefs us)) ∧ us.length ≤ 20 * i ∧ IPs H' us (edge ts.length))
      ⟨none, none, [], rfl, same_new nD, upd_same, Nat.le_refl _, .nil⟩ ?_ ?_⟩
    · rintro i σ H' hi ⟨v2, v3, us, rfl, sm, eD, lu, iu⟩
      refine ⟨_, rfl, _, _, rfl, rfl, _, rfl, b, _, rfl, .inl (SqL.of (sm _ _ eb)), _, (ts.length : Int), by rw [irefs_len], ⟨by omega, by omega, by omega, by omega⟩, for_range (lo := 0 + (i : Int) + 1) (n := ((ts.length : Int) - (0 + (i : Int) + 1)).toNat) (fun j σ H' => ∃ (v3 : Option V) (us : IIs), σ = [some (.ref b), some (.ref D), some (.int (0 + (i : Int))), v3, none] ∧ Same H H' ∧ H' D = some (.lst (irefs us)) ∧ us.length ≤ 20 * i + j ∧ IPs H' us (edge ts.length))
        ⟨v3, us, rfl, sm, eD, by omega, iu⟩ ?_ ?_⟩
      · rintro j σ H' hj ⟨v3, us, rfl, sm, eD, lu, iu⟩
        obtain ⟨t, et⟩ : ∃ t, ts[i]? = some t := ⟨_, List.getElem?_eq_getElem hi⟩
        have hl : i + 1 + j < ts.length := by omega
        obtain ⟨t2, et2⟩ : ∃ t, ts[i + 1 + j]? = some t := ⟨_, List.getElem?_eq_getElem hl⟩
        have at1 : (irefs ts)[i]? = some (V.ref t.1) := by unfold irefs; rw [List.getElem?_map, et]; rfl
        have at2 : (irefs ts)[i + 1 + j]? = some (V.ref t2.1) := by unfold irefs; rw [List.getElem?_map, et2]; rfl
        have h1 := (ip.at_ t (List.mem_of_getElem? et)).1
        have h2 := (ip.at_ t2 (List.mem_of_getElem? et2)).1
        have ei : (0 + (i : Int)) = ((i : Nat) : Int) := by omega
        have ej : (0 + (i : Int) + 1 + (j : Int)) = ((i + 1 + j : Nat) : Int) := by omega
        refine ⟨_, rfl, _, rfl, b, _, _, _, rfl, rfl, SqL.of (sm _ _ eb), by rw [ei]; exact atI_nat at1, t.1, rfl, ⟨_, SqT.of (sm _ _ h1)⟩, fun D2 nD2 => ?_⟩
        have DD2 : D ≠ D2 := ne_of_none eD nD2
        refine lc_tup (K := K) (a := t.1) (xs := [.int t.2.1, .int t.2.2]) (fun c H2 => Same H' H2 ∧ ∃ acc : List V, H2 D2 = some (.lst acc) ∧ acc.length ≤ c) ⟨same_new nD2, [], upd_same, Nat.le_refl _⟩ (fun c H2 _ ⟨s2, _⟩ => SqT.of (s2 _ _ (sm _ _ h1))) ?_ ?_
        · rintro c x H2 hx ⟨s2, acc, eA, la⟩
          have fx : flatV x = true := by
            match c, hx with
            | 0, hx => cases hx; rfl
            | 1, hx => cases hx; rfl
          refine ⟨rfl, _, rfl, _, rfl, _, rfl, b, _, _, _, rfl, rfl, SqL.of (s2 _ _ (sm _ _ eb)), by rw [ej]; exact atI_nat at2, t2.1, _, rfl, .inr (SqT.of (s2 _ _ (sm _ _ h2))), fx, rfl, _, rfl, ?_⟩
          have hc : c < 2 := (List.getElem?_eq_some_iff.mp hx).1
          refine ite2 (fun _ => ?_) (fun _ => ?_)
          · refine ⟨_, rfl, acc, eA, by rw [sizeLine_eq]; omega, fun b o e => ?_, acc ++ [x], upd_same, by rw [List.length_append]; simp; omega⟩
            rw [upd_ne (ne_of_none e nD2)]
            exact s2 _ _ e
          · exact ⟨s2, acc, eA, by omega⟩
        · rintro H2 ⟨s2, acc, eA, la⟩
          refine ⟨D2, acc, rfl, .inl (SqL.of eA), rfl, _, rfl, ?_⟩
          refine ite2 (fun _ => ?_) (fun _ => ?_)
          · have eD2 := s2 _ _ eD
            refine ⟨_, rfl, .inl ⟨rfl, _, SqL.of eD2⟩, _, rfl, _, rfl, by show 2 ≤ sizeLine; decide, fun T nT => ?_⟩
            have sT : Same H2 (upd H2 T (.tup [.int (0 + (i : Int)), .int (0 + (i : Int) + 1 + j)])) := same_new nT
            have eD4 := sT _ _ eD2
            refine ⟨D, _, _, rfl, rfl, eD4, by rw [irefs_len, sizeLine_eq]; omega, ?_⟩
            refine ⟨_, us ++ [(T, 0 + (i : Int), 0 + (i : Int) + 1 + j)], rfl, ?_, ?_, ?_, ?_⟩
            · intro b o e
              rw [upd_ne (ne_of_none e nD)]
              exact sT _ _ (s2 _ _ (sm _ _ e))
            · rw [upd_same, irefs_snoc]
            · rw [List.length_append]
              simp
              omega
            · refine ((iu.tu ((Tu.of s2).trans (Tu.of sT))).snoc upd_same ?_).tu (Tu.upd eD4)
              unfold edge
              omega
          · exact ⟨_, us, rfl, sm.trans s2, s2 _ _ eD, by omega, iu.tu (Tu.of s2)⟩
      · rintro σ H' ⟨v3, us, rfl, sm, eD, lu, iu⟩
        exact ⟨_, _, us, rfl, sm, eD, by omega, iu⟩
    · rintro σ H' ⟨v2, v3, us, rfl, sm, eD, lu, iu⟩
      exact ⟨_, rfl, kk D us H' (by omega) nD eD iu sm⟩
end
end NK
/-! parts -/
namespace NK
open PySem PySem.Spec PyProof.Rows L2 He K1
/-- a free lamp's wish -/
def wishF (x : Str) : Prop := x = "odd" ∨ x = "even"
structure PartAt (H : Hp) (p : Addr) (m : Nat) : Prop where
  ex : ∃ (e w : Addr) (us : IIs) (ws : List Str), H p = some (.lst [.int (m : Int), .ref e, .ref w]) ∧ H e = some (.lst (irefs us)) ∧ us.length ≤ 1000 ∧ IPs H us (edge m) ∧ H w = some (.lst (ws.map V.str)) ∧ ws.length = m ∧ ∀ x ∈ ws, wishF x
theorem PartAt.same {H H' : Hp} {p : Addr} {m : Nat} (s : Same H H') (h : PartAt H p m) : PartAt H' p m := by
  obtain ⟨e, w, us, ws, a, b, c, d, f, g⟩ := h.ex
  exact ⟨e, w, us, ws, s _ _ a, s _ _ b, c, d.tu (Tu.of s), s _ _ f, g⟩
theorem len_set {α : Type} (l : List α) (i : Nat) (x : α) : (l.set i x).length = l.length := List.length_set
section
variable {P : Program} {w : World} {K : PySem.W.Frag} {mg : Str → Option Value} {base : Heap}
def spWishes (K : PySem.W.Frag) : Sp := fun vs H Q _ => ∃ (b c : Addr) (ts : IIs) (hs : List Int), vs = [.ref b, .ref c] ∧ H b = some (.lst (irefs ts)) ∧ ts.length ≤ 20 ∧ IPs H ts (inB hs.length) ∧ H c = some (.lst (hs.map V.int)) ∧
  ∀ (p : Addr) (ws : List Str) (H' : Hp), H p = none → H' p = some (.lst (ws.map V.str)) → ws.length = ts.length → (∀ x ∈ ws, wishF x) → Same H H' → Q (.ref p) H'
theorem ok_wishes {f : Addr} {fd : FuncData} (F : FnP K "_law_wishes_by" s_l_wishes_by f fd) (B : FreeN mg) : FnOk P w K mg base CX0 1 f fd ["_law_pairs", "_law_highs"] (spWishes K) := by
  refine fnP_ok F sc_l_wishes_by (fun vs H Q E h => ?_) (fun cdv A outer s H vs Q E hr h => ?_)
  · obtain ⟨b, c, ts, hs, rfl, _⟩ := h
    rfl
  · obtain ⟨b, c, ts, hs, rfl, eb, lt, ip, ec, kk⟩ := h
    have nd := sc_l_wishes_by.nd
    refine ⟨_, (pss_one (ps_ret (pe_lc (own := [("_law_one", 2), ("_law_other", 3)]) (g := gTup K 2 (gCons (gName 2) (gCons (gName 3) gNil))) (tt := tYes) rfl nd (k_pil (K := K) rfl (pv 0)) (blkOk_by (N := nm_l_wishes_by) (sc := defScope s_l_wishes_by) (by decide +kernel)) (fun _ _ _ _ _ => (pg_tup rfl (pgs_cons (pg_name (i := 2) nd rfl (Or.inl rfl)) (pgs_cons (pg_name (i := 3) nd rfl (Or.inl rfl)) pgs_nil)))) (fun _ _ _ _ _ => pts_nil) (fun _ _ _ _ _ => (pe_ifExp (pt_cmpR op_eq (pe_ix (k_ixl (K := K) rfl) (pv 1) (pv 2) (fun _ _ => rfl)) (pe_ix (k_ixl (K := K) rfl) (pv 1) (pv 3) (fun _ _ => rfl)) (nomark _)) pe_str pe_str))))), ?_⟩
    refine ⟨_, rfl, b, rfl, ⟨_, SqL.of eb⟩, fun D nD => ?_⟩
    refine lc_list (K := K) (a := b) (xs := irefs ts) (fun i H' => Same H H' ∧ ∃ ws : List Str, H' D = some (.lst (ws.map V.str)) ∧ ws.length = i ∧ ∀ x ∈ ws, wishF x) ⟨same_new nD, [], upd_same, rfl, fun x hx => nomatch hx⟩ (fun i H' _ ⟨sm, _⟩ => SqL.of (sm _ _ eb)) ?_ ?_
    · rintro i x H' hx ⟨sm, ws, eD, lw, hw⟩
      obtain ⟨t, et, rfl⟩ := irefs_at hx
      have hi := (List.getElem?_eq_some_iff.mp et).1
      obtain ⟨h1, r1, r2, r3, r4⟩ := ip.at_ t (List.mem_of_getElem? et)
      obtain ⟨u, eu⟩ := Int.eq_ofNat_of_zero_le r1
      obtain ⟨v, ev⟩ := Int.eq_ofNat_of_zero_le r3
      have hu' : u < hs.length := by omega
      have hv' : v < hs.length := by omega
      have step : ∀ z : Str, wishF z → Same H (upd H' D (.lst (ws.map V.str ++ [V.str z]))) ∧ ∃ us : List Str, upd H' D (.lst (ws.map V.str ++ [V.str z])) D = some (.lst (us.map V.str)) ∧ us.length = i + 1 ∧ ∀ x ∈ us, wishF x := fun z hz => by
        refine ⟨fun b o e => by rw [upd_ne (ne_of_none e nD)]; exact sm _ _ e, ws ++ [z], ?_, by rw [List.length_append, lw]; rfl, fun x hx => ?_⟩
        · rw [upd_same, List.map_append]
          rfl
        · rcases List.mem_append.mp hx with hx | hx
          · exact hw x hx
          · rw [List.mem_singleton.mp hx]
            exact hz
      refine ⟨t.1, _, rfl, SqT.of (sm _ _ h1), rfl, _, _, rfl, _, _, rfl, rfl, rfl, ?_⟩
      refine ⟨_, rfl, _, rfl, c, _, _, .int hs[u], rfl, rfl, SqL.of (sm _ _ ec), by rw [eu]; exact atI_nat (by rw [List.getElem?_map, List.getElem?_eq_getElem hu']; rfl), ?_⟩
      refine ⟨_, rfl, _, rfl, c, _, _, .int hs[v], rfl, rfl, SqL.of (sm _ _ ec), by rw [ev]; exact atI_nat (by rw [List.getElem?_map, List.getElem?_eq_getElem hv']; rfl), rfl, _, rfl, ?_⟩
      have lz : (ws.map V.str).length < sizeLine := by rw [List.length_map, lw, sizeLine_eq]; omega
      refine ite2 (fun _ => ?_) (fun _ => ?_)
      · exact ⟨_, eD, lz, step _ (.inl rfl)⟩
      · exact ⟨_, eD, lz, step _ (.inr rfl)⟩
    · rintro H' ⟨sm, ws, eD, lw, hw⟩
      rw [irefs_len] at lw
      exact kk D ws H' nD eD lw hw sm
/-! ### a paired part -/
def NewE (H H' : Hp) (p : Addr) : Prop := ∀ (x w : V) (e : Addr), H' p = some (.lst [x, .ref e, w]) → H e = none
theorem NewE.of {H H' : Hp} {p e : Addr} {x w : V} (h : H' p = some (.lst [x, .ref e, w])) (n : H e = none) : NewE H H' p := fun x' w' e' q => by
  rw [h] at q
  cases q
  exact n
def spPart : Sp := fun vs H Q _ => ∃ (a : Addr) (m : Nat) (n : Int), vs = [.ref a, .int (m : Int)] ∧ 1 ≤ m ∧ m ≤ 8 ∧ Purse H a n ∧ n ≤ 70000 ∧
  ∀ (p : Addr) (H' : Hp), H p = none → PartAt H' p m → NewE H H' p → Purse H' a (n + 1000) → But a H H' → Q (.ref p) H'
theorem ok_paired {f : Addr} {fd : FuncData} (F : FnP K "_law_paired_part" s_l_paired_part f fd) (B : FreeN mg) (G__law_draw : Has P w K mg base 2 "_law_draw" ["_law_purse_here", "_law_many"] spDraw) (G__law_pairs_drawn : Has P w K mg base 3 "_law_pairs_drawn" ["_law_purse_here", "_law_points", "_law_many"] spPairs) (G__law_ties_of_pairs : Has P w K mg base 1 "_law_ties_of_pairs" ["_law_pairs"] (spTies K)) (G__law_wishes_by : Has P w K mg base 1 "_law_wishes_by" ["_law_pairs", "_law_highs"] (spWishes K)) : FnOk P w K mg base CX0 4 f fd ["_law_purse_here", "_law_many"] spPart := by
  refine fnP_ok F sc_l_paired_part (fun vs H Q E h => ?_) (fun cdv A outer s H vs Q E hr h => ?_)
  · obtain ⟨a, m, n, rfl, _⟩ := h
    rfl
  · obtain ⟨a, m, n, rfl, m1, m8, pu, n1, kk⟩ := h
    have nd := sc_l_paired_part.nd
    refine ⟨_, (C8.pss_cut (ps_set (i := 2) nd rfl (.inl rfl) (pe_ifExp (pt_cmpR op_eq (pv 1) pe_int (nomark _)) pe_int (pe_op op_add pe_int (pe_has G__law_draw (hr.mono (by decide)) (pa_cons (pv 0) (pa_cons (pe_callB (call_min2 rfl) (by rfl) B.min (by decide +kernel) (pa_cons pe_int (pa_cons (pe_op op_sub (pv 1) pe_int) pa_nil))) pa_nil))))))
      (pss_cons (ps_set (i := 3) nd rfl (.inl rfl) (pe_has G__law_pairs_drawn (hr.mono (by decide)) (pa_cons (pv 0) (pa_cons (pv 2) (pa_cons (pv 1) pa_nil)))))
      (pss_cons (ps_set (i := 4) nd rfl (.inl rfl) (pe_has G__law_wishes_by (hr.mono (by decide)) (pa_cons (pv 3) (pa_cons (pe_lc (own := [("_law_point", 6)]) (g := gName 6) (tt := tYes) rfl nd (pi_range1 (by rfl) B.range (pa_cons (pv 2) pa_nil)) (blkOk_by (N := nm_l_paired_part) (sc := defScope s_l_paired_part) (by decide +kernel)) (fun _ _ _ _ _ => (pg_name (i := 6) nd rfl (Or.inl rfl))) (fun _ _ _ _ _ => pts_nil) (fun _ _ _ _ _ => (pe_has G__law_draw (hr.mono (by decide)) (pa_cons (pv 0) (pa_cons pe_int pa_nil))))) pa_nil))))
      (C8.pss_cut (ps_if (pt_cmpR op_eq (pe_has G__law_draw (hr.mono (by decide)) (pa_cons (pv 0) (pa_cons pe_int pa_nil))) pe_int (nomark _)) (pss_cons (ps_set (i := 5) nd rfl (.inl rfl) (pe_has G__law_draw (hr.mono (by decide)) (pa_cons (pv 0) (pa_cons (pe_callB (k_len (K := K) rfl) (by rfl) B.len (by decide +kernel) (pa_cons (pv 4) pa_nil)) pa_nil))))
      (pss_one (ps_asg (pe_ifExp (pt_cmpR op_eq (pe_ix (k_ixl (K := K) rfl) (pv 4) (pv 5) (fun _ _ => rfl)) pe_str (nomark _)) pe_str pe_str) (pg_sub (pv 4) (pv 5) set_list)))) pss_nil)
      (pss_one (ps_ret (pe_lst (pa_cons (pe_callB (k_len (K := K) rfl) (by rfl) B.len (by decide +kernel) (pa_cons (pv 3) pa_nil)) (pa_cons (pe_has G__law_ties_of_pairs (hr.mono (by decide)) (pa_cons (pv 3) pa_nil)) (pa_cons (pv 4) pa_nil)))))))))), ?_⟩
    refine ⟨fun σ' H1 => ∃ k : Nat, σ' = [some (.ref a), some (.int (m : Int)), some (.int (k : Int)), none, none, none, none] ∧ 2 ≤ k ∧ k ≤ m + 1 ∧ But a H H1 ∧ Purse H1 a (n + 1), ?_, ?_⟩
    · refine ⟨_, rfl, rfl, _, rfl, ?_⟩
      refine ite2 (fun h1 => ?_) (fun h1 => ?_)
      · exact ⟨2, rfl, by decide, by omega, But.refl a H, pu.mono (by omega)⟩
      · have h1' : m ≠ 1 := fun e => by
          subst e
          simp at h1
        refine ⟨_, rfl, _, rfl, _, _, rfl, rfl, _, _, rfl, a, _, n, rfl, ?_, ?_, pu, by omega, fun r H1 r0 r1 pu1 bt1 => ?_⟩
        · split <;> omega
        · split <;> omega
        · refine ⟨_, _, rfl, rfl, (3 + r).toNat, ?_, ?_, ?_, bt1, pu1⟩
          · have : ((3 + r).toNat : Int) = 3 + r := by omega
            rw [this]
            rfl
          · omega
          · split at r1 <;> omega
    · rintro σ' H1 ⟨k, rfl, k2, km, bt1, pu1⟩
      refine ⟨_, rfl, _, rfl, _, rfl, a, k, m, _, rfl, k2, km, by omega, pu1, by omega, fun p ts H2 lt np ep ip pu2 bt2 => ?_⟩
      refine ⟨_, rfl, _, rfl, (k : Int), rfl, by omega, by omega, fun D nD => ?_⟩
      have Da := pu2.ne_new nD
      have pa : p ≠ a := fun e => by
        obtain ⟨_, _, _, _, e1, _⟩ := pu2
        rw [← e, ep] at e1
        have e2 := congrArg List.length (HO.lst.inj (Option.some.inj e1))
        have e3 := HO.lst.inj (Option.some.inj e1)
        cases ts with
        | nil => cases e3
        | cons t ts => cases e3
      refine lc_range (lo := 0) (n := k) (fun i H' => But a H2 H' ∧ Purse H' a (n + 1 + 100 + i) ∧ ∃ hs : List Int, H' D = some (.lst (hs.map V.int)) ∧ hs.length = i) ⟨But.of (same_new nD), (pu2.upd Da).mono (by omega), [], upd_same, rfl⟩ ?_ ?_
      · rintro i H' hi ⟨bt, pu', hs, eD, lh⟩
        refine ⟨rfl, _, rfl, a, 2, _, rfl, by decide, by decide, pu', by omega, fun r H3 r0 r1 pu3 bt3 => ?_⟩
        have eD3 := bt3 D _ Da eD
        refine ⟨_, eD3, by rw [List.length_map, lh, sizeLine_eq]; omega, ?_, (pu3.upd Da).mono (by omega), hs ++ [r], ?_, ?_⟩
        · intro b o nb e
          rw [upd_ne (ne_of_none e nD)]
          exact bt3 b o nb (bt b o nb e)
        · rw [upd_same, List.map_append]
          rfl
        · rw [List.length_append, lh]
          rfl
      · rintro H3 ⟨bt3, pu3, hs, eD, lh⟩
        refine ⟨p, D, ts, hs, rfl, bt3 p _ pa ep, by omega, ?_, eD, fun q ws H4 nq eq lw hw s4 => ?_⟩
        · rw [lh]
          exact ip.tu (Tu.but pu2 bt3)
        · have pu4 := pu3.same s4
          have ep4 := s4 _ _ (bt3 p _ pa ep)
          have qa := pu3.ne_new nq
          have bt04 : But a H H4 := bt1.trans (bt2.trans (bt3.trans (But.of s4)))
          have qp : p ≠ q := fun e => by
            rw [← e, (bt3 p _ pa ep)] at nq
            cases nq
          have ip4 := ip.tu ((Tu.but pu2 bt3).trans (Tu.of s4))
          refine ⟨fun σ' H5 => ∃ (v5 : Option V) (ws : List Str), σ' = [some (.ref a), some (.int (m : Int)), some (.int (k : Int)), some (.ref p), some (.ref q), v5, none] ∧ But a H H5 ∧ Purse H5 a (n + 1 + 100 + k + 2) ∧ H5 p = some (.lst (irefs ts)) ∧ IPs H5 ts (inB k) ∧ H5 q = some (.lst (ws.map V.str)) ∧ ws.length = m ∧ ∀ x ∈ ws, wishF x, ?_, ?_⟩
          · refine ⟨_, rfl, a, 3, _, rfl, by decide, by decide, pu4, by omega, fun r H5 _ _ pu5 bt5 => ⟨rfl, _, rfl, ?_⟩⟩
            have eq5 := bt5 q _ qa eq
            have ep5 := bt5 p _ pa ep4
            have ip5 := ip4.tu (Tu.but pu4 bt5)
            refine ite2 (fun _ => ?_) (fun _ => ?_)
            · refine ⟨_, rfl, _, rfl, q, _, rfl, .inl (SqL.of eq5), a, _, _, rfl, ?_, ?_, pu5, by omega, fun r2 H6 r20 r21 pu6 bt6 => ?_⟩
              · rw [List.length_map]
                omega
              · rw [List.length_map]
                omega
              · rw [List.length_map] at r21
                obtain ⟨j, rfl⟩ := Int.eq_ofNat_of_zero_le r20
                have hj : j < ws.length := by omega
                have eq6 := bt6 q _ qa eq5
                have fin : ∀ z : Str, wishF z → ∃ (v5 : Option V) (ws_1 : List Str), [some (V.ref a), some (V.int (m : Int)), some (V.int (k : Int)), some (V.ref p), some (V.ref q), some (V.int (j : Int)), none] = [some (.ref a), some (.int (m : Int)), some (.int (k : Int)), some (.ref p), some (.ref q), v5, none] ∧ But a H (upd H6 q (.lst ((ws.map V.str).set j (.str z)))) ∧ Purse (upd H6 q (.lst ((ws.map V.str).set j (.str z)))) a (n + 1 + 100 + k + 2) ∧ (upd H6 q (.lst ((ws.map V.str).set j (.str z)))) p = some (.lst (irefs ts)) ∧ IPs (upd H6 q (.lst ((ws.map V.str).set j (.str z)))) ts (inB k) ∧ (upd H6 q (.lst ((ws.map V.str).set j (.str z)))) q = some (.lst (ws_1.map V.str)) ∧ ws_1.length = m ∧ ∀ x ∈ ws_1, wishF x := by
                  intro z hz
                  refine ⟨_, ws.set j z, rfl, ?_, (pu6.upd qa).mono (by omega), ?_, ip5.tu ((Tu.but pu5 bt6).trans (Tu.upd eq6)), ?_, by rw [List.length_set]; omega, fun x hx => ?_⟩
                  · intro b o nb e
                    have nq0 : H q = none := But.free (bt1.trans (bt2.trans bt3)) pu3 nq
                    rw [upd_ne (ne_of_none e nq0)]
                    exact bt6 b o nb (bt5 b o nb (bt04 b o nb e))
                  · rw [upd_ne qp]
                    exact bt6 p _ pa ep5
                  · rw [upd_same, List.map_set]
                  · rcases List.mem_or_eq_of_mem_set hx with hx | rfl
                    · exact hw x hx
                    · exact hz
                refine ⟨_, rfl, _, rfl, q, _, _, .str ws[j], rfl, rfl, SqL.of eq6, atI_nat (by rw [List.getElem?_map, List.getElem?_eq_getElem hj]; rfl), rfl, _, rfl, ?_⟩
                have ixj : ixN (ws.map V.str).length (j : Int) = some j := by
                  rw [List.length_map]
                  unfold ixN
                  rw [if_pos (by omega), if_pos (by omega)]
                  simp
                refine ite2 (fun _ => ?_) (fun _ => ?_)
                · exact ⟨_, rfl, _, rfl, q, _, _, j, rfl, rfl, eq6, ixj, fin _ (.inr rfl)⟩
                · exact ⟨_, rfl, _, rfl, q, _, _, j, rfl, rfl, eq6, ixj, fin _ (.inl rfl)⟩
            · exact ⟨_, ws, rfl, bt04.trans bt5, pu5.mono (by omega), ep5, ip5, eq5, by omega, hw⟩
          · rintro σ' H5 ⟨v5, ws5, rfl, bt5, pu5, ep5, ip5, eq5, lw5, hw5⟩
            refine ⟨_, rfl, p, _, rfl, .inl (SqL.of ep5), ?_⟩
            refine ⟨_, rfl, p, ts, k, rfl, ep5, by omega, ip5, fun e us H6 lu ne ee iu s6 => ?_⟩
            refine ⟨_, rfl, by show 3 ≤ sizeLine; decide, fun L nL => ?_⟩
            have sL := same_new (o := .lst [.int ((irefs ts).length : Int), .ref e, .ref q]) nL
            have btf := bt5.trans ((But.of s6).trans (But.of sL))
            have puf := (pu5.same s6).same sL
            have nL5 : H L = none := But.free (bt5.trans (But.of s6)) (pu5.same s6) nL
            refine kk L _ nL5 ⟨e, q, us, ws5, ?_, sL _ _ ee, by omega, ?_, sL _ _ (s6 _ _ eq5), lw5, hw5⟩ (NewE.of upd_same (But.free bt5 pu5 ne)) (puf.mono (by omega)) btf
            · rw [upd_same, irefs_len, lt]
            · have z := (iu.tu (Tu.of sL)).mono (S := edge m) fun x y h => by rw [lt] at h; exact h
              exact z
end
end NK
/-! a core's part, a family's part, any part -/
namespace NK
open PySem PySem.Spec PyProof.Rows L2 He K1
theorem lay_all {ds : List PyData} (h : ∀ d ∈ ds, d.canLay0 = true) : PyData.canLayAll0 ds = true := by
  induction ds with
  | nil => rfl
  | cons d ds ih =>
    show (d.canLay0 && PyData.canLayAll0 ds) = true
    rw [h d List.mem_cons_self, ih fun x hx => h x (List.mem_cons_of_mem _ hx)]
    rfl
theorem dep_all {ds : List PyData} {n : Nat} (h : ∀ d ∈ ds, d.depth ≤ n) : PyData.depthAll ds ≤ n := by
  induction ds with
  | nil => exact Nat.zero_le _
  | cons d ds ih =>
    show max d.depth (PyData.depthAll ds) ≤ n
    exact Nat.max_le.mpr ⟨h d List.mem_cons_self, ih fun x hx => h x (List.mem_cons_of_mem _ hx)⟩
theorem shaped_list {ds : List PyData} {n : Nat} (hn : n ≤ 60) (h : ∀ d ∈ ds, d.canLay0 = true ∧ d.depth ≤ n) : SeqAt.shaped (.list ds) = true := by
  unfold SeqAt.shaped
  rw [Bool.and_eq_true, decide_eq_true_eq]
  refine ⟨lay_all fun d hd => (h d hd).1, ?_⟩
  show PyData.depthAll ds + 1 ≤ 64
  have := dep_all fun d hd => (h d hd).2
  omega
theorem shaped_tuple {ds : List PyData} {n : Nat} (hn : n ≤ 60) (h : ∀ d ∈ ds, d.canLay0 = true ∧ d.depth ≤ n) : SeqAt.shaped (.tuple ds) = true := by
  unfold SeqAt.shaped
  rw [Bool.and_eq_true, decide_eq_true_eq]
  refine ⟨lay_all fun d hd => (h d hd).1, ?_⟩
  show PyData.depthAll ds + 1 ≤ 64
  have := dep_all fun d hd => (h d hd).2
  omega
theorem dp_ints {K : PySem.W.Frag} {H : Hp} : ∀ ns : List Int, DpAll K H (ns.map V.int) (ns.map PyData.int)
  | [] => .nil
  | n :: ns => .cons (.int n) (dp_ints ns)
theorem shaped_ints (ns : List Int) : SeqAt.shaped (.list (ns.map PyData.int)) = true := shaped_list (n := 0) (by decide) fun d hd => by
  obtain ⟨i, _, rfl⟩ := List.mem_map.mp hd
  exact ⟨rfl, Nat.le_refl 0⟩
/-- the data of tuples of two ints -/
def iiD (ts : IIs) : List PyData := ts.map fun t => .tuple [.int t.2.1, .int t.2.2]
theorem dp_iis {K : PySem.W.Frag} {H : Hp} {R : Int → Int → Prop} : ∀ {ts : IIs}, IPs H ts R → DpAll K H (irefs ts) (iiD ts)
  | [], _ => .nil
  | t :: ts, p => .cons (.tup (SqT.of (p.at_ t List.mem_cons_self).1) (.cons (.int _) (.cons (.int _) .nil))) (dp_iis (ts := ts) ⟨fun u m => p.at_ u (List.mem_cons_of_mem _ m)⟩)
theorem shaped_iis (ts : IIs) : SeqAt.shaped (.list (iiD ts)) = true := shaped_list (n := 1) (by decide) fun d hd => by
  obtain ⟨i, _, rfl⟩ := List.mem_map.mp hd
  exact ⟨rfl, Nat.le_refl 1⟩
theorem none_of_same {H H' : Hp} {p : Addr} (s : Same H H') (h : H' p = none) : H p = none := by
  cases e : H p with
  | none => rfl
  | some o =>
    rw [s _ _ e] at h
    cases h
theorem upd_but {a D : Addr} {H H' : Hp} {o : HO} (bt : But a H H') (nD : H D = none) : But a H (upd H' D o) := fun b q nb e => by
  rw [upd_ne (ne_of_none e nD)]
  exact bt b q nb e
theorem upd_same' {D : Addr} {H H' : Hp} {o : HO} (sm : Same H H') (nD : H D = none) : Same H (upd H' D o) := fun b q e => by
  rw [upd_ne (ne_of_none e nD)]
  exact sm b q e
theorem room_str (n : Nat) (h : n ≤ 10000) : n < sizeLine := by rw [sizeLine_eq]; omega
theorem room_le (n : Nat) (h : n ≤ 10000) : n ≤ sizeLine := Nat.le_of_lt (room_str n h)
/-- [one_of(purse, some) for at in range(m)]: m wishes -/
theorem lc_wishes {tL : TE} {i : Nat} {σ : L2.St} {H : Hp} {Q : VK} {a : Addr} {m : Nat} {n : Int} (hm : σ[1]? = some (some (.int (m : Int)))) (m8 : m ≤ 20) (ha : ∀ v : Option V, ((wipe σ [i]).set i v)[0]? = some (some (.ref a))) (hw : ∀ v : V, wipe ((wipe σ [i]).set i (some v)) [i] = wipe σ [i])
    (pu : Purse H a n) (n1 : n ≤ 80000) (hL : ∀ (v : V) (H' : Hp) (Q' : VK), But a H H' → (∃ n, Purse H' a n) → (∀ (b : Addr) (xs : List Str) (H2 : Hp), Same H' H2 → H2 b = some (.lst (xs.map V.str)) → 0 < xs.length → xs.length < 100 → (∀ x ∈ xs, wishF x) → Q' (.ref b) H2) → tL ((wipe σ [i]).set i (some v)) H' Q')
    (k : ∀ (D : Addr) (ws : List Str) (H' : Hp), H D = none → H' D = some (.lst (ws.map V.str)) → ws.length = m → (∀ x ∈ ws, wishF x) → But a H H' → Purse H' a (n + m) → Q (.ref D) H') :
    tLc (iRng1 (tCons (tVar 1) tNil)) (gName i) tYes (tCall spOne [] E0 (tCons (tVar 0) (tCons tL tNil))) [i] σ H Q := by
  refine ⟨_, hm, (m : Int), rfl, by omega, by omega, fun D nD => ?_⟩
  have Da := pu.ne_new nD
  refine lc_range (lo := 0) (n := m) (fun j H' => But a H H' ∧ Purse H' a (n + j) ∧ ∃ ws : List Str, H' D = some (.lst (ws.map V.str)) ∧ ws.length = j ∧ ∀ x ∈ ws, wishF x) ⟨But.of (same_new nD), (pu.upd Da).mono (by omega), [], upd_same, rfl, fun x hx => nomatch hx⟩ ?_ ?_
  · rintro j H' hj ⟨bt, pu', ws, eD, lw, hw'⟩
    refine ⟨hw _, _, ha _, hL _ H' _ bt ⟨_, pu'⟩ fun b xs H2 s2 eb l0 l1 hx => ?_⟩
    have pu2 := pu'.same s2
    have ba : b ≠ a := fun e => by
      obtain ⟨p, _, _, _, e1, _⟩ := pu2
      rw [← e, eb] at e1
      cases xs with
      | nil => exact absurd l0 (Nat.lt_irrefl 0)
      | cons x xs =>
        rw [List.map_cons] at e1
        injection e1 with e1
        injection e1 with e1
        injection e1 with e1 _
        cases e1
    refine ⟨a, b, _, n + j, rfl, ba, eb, by rw [List.length_map]; exact l0, by rw [List.length_map]; omega, pu2, by omega, fun u v H3 hu pu3 bt3 => ?_⟩
    rw [List.getElem?_map] at hu
    cases ex : xs[u]? with
    | none =>
      rw [ex] at hu
      cases hu
    | some x =>
      rw [ex] at hu
      cases hu
      have eD3 := bt3 D _ Da (s2 _ _ eD)
      refine ⟨_, eD3, by rw [List.length_map, lw]; exact room_str _ (by omega), upd_but ((bt.trans (But.of s2)).trans bt3) nD, (pu3.upd Da).mono (by omega), ws ++ [x], by rw [upd_same, List.map_append]; rfl, by rw [List.length_append, lw]; rfl, fun y hy => ?_⟩
      rcases List.mem_append.mp hy with hy | hy
      · exact hw' y hy
      · rw [List.mem_singleton.mp hy]
        exact hx x (List.mem_of_getElem? ex)
  · rintro H' ⟨bt, pu', ws, eD, lw, hw'⟩
    exact k D ws H' nD eD lw hw' bt pu'
theorem wish_odd : wishF "odd" := .inl rfl
theorem wish_even : wishF "even" := .inr rfl
section
variable {P : Program} {w : World} {K : PySem.W.Frag} {mg : Str → Option Value} {base : Heap}
theorem ok_core {f : Addr} {fd : FuncData} (F : FnP K "_law_core_part" s_l_core_part f fd) (B : FreeN mg) (G__law_draw : Has P w K mg base 2 "_law_draw" ["_law_purse_here", "_law_many"] spDraw) (G__law_one_of : Has P w K mg base 3 "_law_one_of" ["_law_purse_here", "_law_some"] spOne) : FnOk P w K mg base CX0 4 f fd ["_law_purse_here", "_law_many"] (fun vs H Q E => (∃ (a : Addr) (m : Nat), vs = [.ref a, .int (m : Int)] ∧ 6 ≤ m) ∧ spPart vs H Q E) := by
  refine fnP_ok F sc_l_core_part (fun vs H Q E h => ?_) (fun cdv A outer s H vs Q E hr h => ?_)
  · obtain ⟨_, a, m, n, rfl, _⟩ := h
    rfl
  · obtain ⟨⟨a', m', e', m6⟩, a, m, n, rfl, m1, m8, pu, n1, kk⟩ := h
    have em : m' = m := by
      injection e' with _ e'
      injection e' with e' _
      injection e' with e'
      omega
    subst em
    have nd := sc_l_core_part.nd
    have hu := hr.units
    refine ⟨_, (pss_cons (ps_set (i := 2) nd rfl (.inl rfl) (pe_lst (pa_cons (pe_tup (pa_cons pe_int (pa_cons pe_int pa_nil))) (pa_cons (pe_tup (pa_cons pe_int (pa_cons pe_int pa_nil))) (pa_cons (pe_tup (pa_cons pe_int (pa_cons pe_int pa_nil))) (pa_cons (pe_tup (pa_cons pe_int (pa_cons pe_int pa_nil))) (pa_cons (pe_tup (pa_cons pe_int (pa_cons pe_int pa_nil))) pa_nil)))))))
      (pss_cons (ps_for PassesOwn.never rfl (pi_range2 (by rfl) B.range (pa_cons pe_int (pa_cons (pv 1) pa_nil))) (pg_name (i := 3) nd rfl (.inr rfl)) (pss_cons (ps_setLc (i := 4) (own := [("_law_at", 5)]) (g := gName 5) rfl nd rfl rfl (sw_true rfl rfl rfl (by decide +kernel)) (pi_range1 (by rfl) B.range (pa_cons (pv 3) pa_nil)) (blkOk_by (N := nm_l_core_part) (sc := defScope s_l_core_part) (by decide +kernel)) (fun _ _ _ _ _ => (pg_name (i := 5) nd rfl (Or.inl rfl))) (fun _ _ _ _ _ => (pts_one (pt_cmpR op_eq (pe_has G__law_draw (hr.mono (by decide)) (pa_cons (pv 0) (pa_cons pe_int pa_nil))) pe_int (nomark _)))) (fun _ _ _ _ _ => (pv 5)))
      (C8.pss_cut (ps_set (i := 4) nd rfl (.inl rfl) (pe_ifExp (pt_cmpR (k_neD (K := K) rfl hu) (pv 4) (pe_lst pa_nil) (nomark _)) (pv 4) (pe_lst (pa_cons (pe_has G__law_draw (hr.mono (by decide)) (pa_cons (pv 0) (pa_cons (pv 3) pa_nil))) pa_nil))))
      (pss_one (ps_set (i := 2) nd rfl (.inl rfl) (pe_op op_cat (pv 2) (pe_lc (own := [("_law_at", 5)]) (g := gName 5) (tt := tYes) rfl nd (k_pil (K := K) rfl (pv 4)) (blkOk_by (N := nm_l_core_part) (sc := defScope s_l_core_part) (by decide +kernel)) (fun _ _ _ _ _ => (pg_name (i := 5) nd rfl (Or.inl rfl))) (fun _ _ _ _ _ => pts_nil) (fun _ _ _ _ _ => (pe_tup (pa_cons (pv 5) (pa_cons (pv 3) pa_nil)))))))))))
      (pss_one (ps_ret (pe_lst (pa_cons (pv 1) (pa_cons (pv 2) (pa_cons (pe_lc (own := [("_law_at", 5)]) (g := gName 5) (tt := tYes) rfl nd (pi_range1 (by rfl) B.range (pa_cons (pv 1) pa_nil)) (blkOk_by (N := nm_l_core_part) (sc := defScope s_l_core_part) (by decide +kernel)) (fun _ _ _ _ _ => (pg_name (i := 5) nd rfl (Or.inl rfl))) (fun _ _ _ _ _ => pts_nil) (fun _ _ _ _ _ => (pe_has G__law_one_of (hr.mono (by decide)) (pa_cons (pv 0) (pa_cons (pe_lst (pa_cons pe_str (pa_cons pe_str (pa_cons pe_str pa_nil)))) pa_nil))))) pa_nil)))))))), ?_⟩
    refine ⟨by show 2 ≤ sizeLine; decide, fun T1 n1' => ⟨by show 2 ≤ sizeLine; decide, fun T2 n2' => ⟨by show 2 ≤ sizeLine; decide, fun T3 n3' => ⟨by show 2 ≤ sizeLine; decide, fun T4 n4' => ⟨by show 2 ≤ sizeLine; decide, fun T5 n5' => ⟨by show 5 ≤ sizeLine; decide, fun L nL => ?_⟩⟩⟩⟩⟩⟩
    have s1 := same_new (o := .tup [.int 0, .int 1]) n1'
    have s2 := same_new (o := .tup [.int 1, .int 2]) n2'
    have s3 := same_new (o := .tup [.int 2, .int 3]) n3'
    have s4 := same_new (o := .tup [.int 2, .int 5]) n4'
    have s5 := same_new (o := .tup [.int 3, .int 4]) n5'
    have sL := same_new (o := .lst [.ref T1, .ref T2, .ref T3, .ref T4, .ref T5]) nL
    have ip : IPs _ [(T1, 0, 1), (T2, 1, 2), (T3, 2, 3), (T4, 2, 5), (T5, 3, 4)] (edge (m' : Int)) := ⟨fun t ht => by
      simp only [List.mem_cons, List.not_mem_nil, or_false] at ht
      rcases ht with rfl | rfl | rfl | rfl | rfl
      · exact ⟨sL _ _ (s5 _ _ (s4 _ _ (s3 _ _ (s2 _ _ upd_same)))), (by show (0:Int) ≤ 0 ∧ (0:Int) < 1 ∧ (1:Int) < (m':Int); omega)⟩
      · exact ⟨sL _ _ (s5 _ _ (s4 _ _ (s3 _ _ upd_same))), (by show (0:Int) ≤ 1 ∧ (1:Int) < 2 ∧ (2:Int) < (m':Int); omega)⟩
      · exact ⟨sL _ _ (s5 _ _ (s4 _ _ upd_same)), (by show (0:Int) ≤ 2 ∧ (2:Int) < 3 ∧ (3:Int) < (m':Int); omega)⟩
      · exact ⟨sL _ _ (s5 _ _ upd_same), (by show (0:Int) ≤ 2 ∧ (2:Int) < 5 ∧ (5:Int) < (m':Int); omega)⟩
      · exact ⟨sL _ _ upd_same, (by show (0:Int) ≤ 3 ∧ (3:Int) < 4 ∧ (4:Int) < (m':Int); omega)⟩⟩
    have s0 := (s1.trans (s2.trans (s3.trans (s4.trans (s5.trans sL)))))
    refine ⟨_, rfl, 6, (m' : Int), rfl, ⟨by decide, by decide, by omega, by omega⟩, for_range (lo := 6) (n := ((m' : Int) - 6).toNat) (fun i σ H' => ∃ (v3 v4 : Option V) (L : Addr) (us : IIs), σ = [some (.ref a), some (.int (m' : Int)), some (.ref L), v3, v4, none] ∧ H L = none ∧ But a H H' ∧ Purse H' a (n + 20 * i) ∧ H' L = some (.lst (irefs us)) ∧ us.length ≤ 10 + 10 * i ∧ IPs H' us (edge (m' : Int)))
      ⟨none, none, L, _, rfl, none_of_same (s1.trans (s2.trans (s3.trans (s4.trans s5)))) nL, But.of s0, (pu.same s0).mono (by omega), upd_same, by show 5 ≤ 10 + 10 * 0; decide, ip⟩ ?_ ?_⟩
    · rintro i σ H' hi ⟨v3, v4, L, us, rfl, nL0, bt, pu', eL, lu, ip⟩
      have e6 : (6 + (i : Int)) = ((6 + i : Nat) : Int) := by omega
      refine ⟨_, rfl, (6 + (i : Int)), rfl, by omega, by omega, fun D nD => ?_⟩
      have Da := pu'.ne_new nD
      have nD0 : H D = none := But.free bt pu' nD
      refine lc_range (lo := 0) (n := (6 + (i : Int)).toNat) (fun j H2 => But a H' H2 ∧ Purse H2 a (n + 20 * i + j) ∧ ∃ ns : List Int, H2 D = some (.lst (ns.map V.int)) ∧ ns.length ≤ j ∧ ∀ x ∈ ns, 0 ≤ x ∧ x < 6 + (i : Int)) ⟨But.of (same_new nD), (pu'.upd Da).mono (by omega), [], upd_same, Nat.le_refl _, fun x hx => nomatch hx⟩ ?_ ?_
      · rintro j H2 hj ⟨bt2, pu2, ns, eD, ln, hn⟩
        refine ⟨rfl, _, rfl, a, 3, _, rfl, by decide, by decide, pu2, by omega, fun r H3 _ _ pu3 bt3 => ⟨rfl, _, rfl, ?_⟩⟩
        have eD3 := bt3 D _ Da eD
        refine ite2 (fun _ => ?_) (fun _ => ?_)
        · refine ⟨_, rfl, _, eD3, by rw [List.length_map]; exact room_str _ (by omega), upd_but (bt2.trans bt3) nD, (pu3.upd Da).mono (by omega), ns ++ [0 + (j : Int)], by rw [upd_same, List.map_append]; rfl, by rw [List.length_append]; simp; omega, fun x hx => ?_⟩
          rcases List.mem_append.mp hx with hx | hx
          · exact hn x hx
          · rw [List.mem_singleton.mp hx]
            omega
        · exact ⟨bt2.trans bt3, pu3.mono (by omega), ns, eD3, by omega, hn⟩
      · rintro H2 ⟨bt2, pu2, ns, eD, ln, hn⟩
        have La : L ≠ a := by
          rintro rfl
          obtain ⟨_, _, _, _, e1, _⟩ := pu'
          rw [eL] at e1
          have e2 := HO.lst.inj (Option.some.inj e1)
          cases us with
          | nil => cases e2
          | cons t us =>
            unfold irefs at e2
            rw [List.map_cons] at e2
            injection e2 with e2 _
            cases e2
        have eL2 := bt2 L _ La eL
        have ip2 := ip.tu (Tu.but pu' bt2)
        refine ⟨fun σ' H3 => ∃ (D : Addr) (ns : List Int), σ' = [some (.ref a), some (.int (m' : Int)), some (.ref L), some (.int (6 + (i : Int))), some (.ref D), none] ∧ But a H H3 ∧ Purse H3 a (n + 20 * i + 20) ∧ H3 L = some (.lst (irefs us)) ∧ IPs H3 us (edge (m' : Int)) ∧ H3 D = some (.lst (ns.map V.int)) ∧ ns.length ≤ 10 ∧ ∀ x ∈ ns, 0 ≤ x ∧ x < 6 + (i : Int), ?_, ?_⟩
        · refine ⟨_, rfl, by show 0 ≤ sizeLine; decide, fun E0' nE => ?_⟩
          have sE := same_new (o := .lst []) nE
          refine ⟨_, _, .lst (SqL.of (sE _ _ eD)) (dp_ints ns), .lst (SqL.of upd_same) .nil, shaped_ints ns, by decide, _, rfl, ?_⟩
          have pu3 := pu2.same sE
          have bt3 := (bt.trans bt2).trans (But.of sE)
          refine ite2 (fun _ => ?_) (fun _ => ?_)
          · exact ⟨_, rfl, D, ns, rfl, bt3, pu3.mono (by omega), sE _ _ eL2, ip2.tu (Tu.of sE), sE _ _ eD, by omega, hn⟩
          · refine ⟨_, rfl, _, rfl, a, _, _, rfl, by omega, by omega, pu3, by omega, fun r H4 r0 r1 pu4 bt4 => ⟨by show 1 ≤ sizeLine; decide, fun D2 nD2 => ?_⟩⟩
            have sD := same_new (o := .lst [.int r]) nD2
            refine ⟨D2, [r], rfl, (bt3.trans bt4).trans (But.of sD), (pu4.same sD).mono (by omega), sD _ _ (bt4 L _ La (sE _ _ eL2)), ip2.tu ((Tu.of sE).trans ((Tu.but pu3 bt4).trans (Tu.of sD))), upd_same, (by show 1 ≤ 10; decide), fun x hx => ?_⟩
            rw [List.mem_singleton.mp hx]
            exact ⟨r0, r1⟩
        · rintro σ' H3 ⟨D3, ns3, rfl, bt3, pu3, eL3, ip3, eD3, ln3, hn3⟩
          refine ⟨_, rfl, _, rfl, D3, rfl, ⟨_, SqL.of eD3⟩, fun C nC => ?_⟩
          have LC : L ≠ C := ne_of_none eL3 nC
          have nC0 : H C = none := But.free bt3 pu3 nC
          refine lc_list (K := K) (a := D3) (xs := ns3.map V.int) (fun j H4 => Same H3 H4 ∧ ∃ vs : IIs, H4 C = some (.lst (irefs vs)) ∧ vs.length = j ∧ IPs H4 vs (edge (m' : Int))) ⟨same_new nC, [], upd_same, rfl, .nil⟩ (fun j H4 _ ⟨s4, _⟩ => SqL.of (s4 _ _ eD3)) ?_ ?_
          · rintro j x H4 hx ⟨s4, vs, eC, lv, iv⟩
            rw [List.getElem?_map] at hx
            cases ex : ns3[j]? with
            | none =>
              rw [ex] at hx
              cases hx
            | some y =>
              rw [ex] at hx
              cases hx
              have hy := hn3 y (List.mem_of_getElem? ex)
              have hj := (List.getElem?_eq_some_iff.mp ex).1
              refine ⟨rfl, _, rfl, _, rfl, by show 2 ≤ sizeLine; decide, fun T nT => ?_⟩
              have sT := same_new (o := .tup [.int y, .int (6 + (i : Int))]) nT
              have eC2 := sT _ _ eC
              refine ⟨_, eC2, by rw [irefs_len]; exact room_str _ (by omega), upd_same' (s4.trans sT) nC, vs ++ [(T, y, 6 + (i : Int))], by rw [upd_same, irefs_snoc], by rw [List.length_append, lv]; rfl, ?_⟩
              refine ((iv.tu (Tu.of sT)).snoc upd_same ?_).tu (Tu.upd eC2)
              unfold edge
              omega
          · rintro H4 ⟨s4, vs, eC, lv, iv⟩
            rw [List.length_map] at lv
            refine ⟨L, C, _, _, rfl, rfl, s4 _ _ eL3, eC, by rw [irefs_len, irefs_len]; exact room_le _ (by omega), fun M nM => ?_⟩
            have sM := same_new (o := .lst (irefs us ++ irefs vs)) nM
            refine ⟨_, _, M, us ++ vs, rfl, But.free (bt3.trans (But.of s4)) (pu3.same s4) nM, (bt3.trans (But.of s4)).trans (But.of sM), ((pu3.same s4).same sM).mono (by omega), ?_, by rw [List.length_append]; omega, ((ip3.tu (Tu.of s4)).append iv).tu (Tu.of sM)⟩
            rw [upd_same]
            unfold irefs
            rw [List.map_append]
    · rintro σ H' ⟨v3, v4, L, us, rfl, nL0, bt, pu', eL, lu, ip⟩
      refine ⟨_, rfl, _, rfl, ?_⟩
      refine lc_wishes (a := a) (m := m') (n := n + 20 * (((m' : Int) - 6).toNat : Nat)) rfl (by omega) (fun v => rfl) (fun v => rfl) pu' (by omega) (fun v H2 Q' bt2 pu2 q => ?_) fun D ws H2 nD eD lw hw bt2 pu2 => ?_
      · refine ⟨by show 3 ≤ sizeLine; decide, fun b nb => q b ["odd", "odd", "even"] _ (same_new nb) upd_same (by decide) (by decide) fun x hx => ?_⟩
        simp only [List.mem_cons, List.not_mem_nil, or_false] at hx
        rcases hx with rfl | rfl | rfl
        · exact wish_odd
        · exact wish_odd
        · exact wish_even
      · have La : L ≠ a := by
          rintro rfl
          obtain ⟨_, _, _, _, e1, _⟩ := pu'
          rw [eL] at e1
          have e2 := HO.lst.inj (Option.some.inj e1)
          cases us with
          | nil => cases e2
          | cons t us =>
            unfold irefs at e2
            rw [List.map_cons] at e2
            injection e2 with e2 _
            cases e2
        refine ⟨by show 3 ≤ sizeLine; decide, fun R nR => ?_⟩
        have sR := same_new (o := .lst [.int (m' : Int), .ref L, .ref D]) nR
        have btf := (bt.trans bt2).trans (But.of sR)
        refine kk R _ (But.free (bt.trans bt2) pu2 nR) ⟨L, D, us, ws, upd_same, sR _ _ (bt2 L _ La eL), by omega, ip.tu ((Tu.but pu' bt2).trans (Tu.of sR)), sR _ _ eD, lw, hw⟩ (NewE.of upd_same nL0) ((pu2.same sR).mono (by omega)) btf
end
end NK
/-! a family's part, any part -/
namespace NK
open PySem PySem.Spec PyProof.Rows L2 He K1
theorem room65 {k : Nat} {A : Around} (hr : Room k A) : A.units + 65 < cLine := by
  have := hr.un
  omega
/-- a new tuple of two ints, then the list that grows by it -/
theorem edge_step {H' : Hp} {D T : Addr} {us : IIs} {R : Int → Int → Prop} {x y : Int} (eD : H' D = some (.lst (irefs us))) (ip : IPs H' us R) (r : R x y) (nT : H' T = none) :
    upd H' T (.tup [.int x, .int y]) D = some (.lst (irefs us)) ∧
    upd (upd H' T (.tup [.int x, .int y])) D (.lst (irefs us ++ [V.ref T])) D = some (.lst (irefs (us ++ [(T, x, y)]))) ∧
    IPs (upd (upd H' T (.tup [.int x, .int y])) D (.lst (irefs us ++ [V.ref T]))) (us ++ [(T, x, y)]) R := by
  have sT := same_new (o := .tup [.int x, .int y]) nT
  have eD2 := sT _ _ eD
  refine ⟨eD2, by rw [upd_same, irefs_snoc], ?_⟩
  exact ((ip.tu (Tu.of sT)).snoc upd_same r).tu (Tu.upd eD2)
theorem edge_cat {H : Hp} {M : Addr} {us vs : IIs} {R : Int → Int → Prop} (p : IPs H us R) (q : IPs H vs R) (nM : H M = none) :
    upd H M (.lst (irefs us ++ irefs vs)) M = some (.lst (irefs (us ++ vs))) ∧ IPs (upd H M (.lst (irefs us ++ irefs vs))) (us ++ vs) R := by
  refine ⟨?_, (p.append q).tu (Tu.of (same_new nM))⟩
  rw [upd_same]
  unfold irefs
  rw [List.map_append]
theorem irefs_ne {H : Hp} {a L : Addr} {n : Int} {us : IIs} (pu : Purse H a n) (e : H L = some (.lst (irefs us))) : L ≠ a := by
  rintro rfl
  obtain ⟨_, _, _, _, e1, _⟩ := pu
  rw [e] at e1
  have e2 := HO.lst.inj (Option.some.inj e1)
  cases us with
  | nil => cases e2
  | cons t us =>
    unfold irefs at e2
    rw [List.map_cons] at e2
    injection e2 with e2 _
    cases e2
section
variable {P : Program} {w : World} {K : PySem.W.Frag} {mg : Str → Option Value} {base : Heap}
theorem ok_family {f : Addr} {fd : FuncData} (F : FnP K "_law_family_part" s_l_family_part f fd) (B : FreeN mg) (G__law_draw : Has P w K mg base 2 "_law_draw" ["_law_purse_here", "_law_many"] spDraw) (G__law_one_of : Has P w K mg base 3 "_law_one_of" ["_law_purse_here", "_law_some"] spOne) : FnOk P w K mg base CX0 4 f fd ["_law_purse_here", "_law_many"] spPart := by
  refine fnP_ok F sc_l_family_part (fun vs H Q E h => ?_) (fun cdv A outer s H vs Q E hr h => ?_)
  · obtain ⟨a, m, n, rfl, _⟩ := h
    rfl
  · obtain ⟨a, m, n, rfl, m1, m8, pu, n1, kk⟩ := h
    have nd := sc_l_family_part.nd
    have hu := hr.units
    have hu65 := room65 hr
    refine ⟨_, (pss_cons (ps_set (i := 2) nd rfl (.inl rfl) (pe_has G__law_draw (hr.mono (by decide)) (pa_cons (pv 0) (pa_cons pe_int pa_nil))))
      (pss_cons (ps_par (i := 3) (j := 4) rfl nd rfl rfl (by decide) rfl rfl (pa_cons (pe_lc (own := [("_law_at", 8)]) (g := gName 8) (tt := tYes) rfl nd (pi_range1 (by rfl) B.range (pa_cons (pe_op op_sub (pv 1) pe_int) pa_nil)) (blkOk_by (N := nm_l_family_part) (sc := defScope s_l_family_part) (by decide +kernel)) (fun _ _ _ _ _ => (pg_name (i := 8) nd rfl (Or.inl rfl))) (fun _ _ _ _ _ => pts_nil) (fun _ _ _ _ _ => (pe_tup (pa_cons (pv 8) (pa_cons (pe_op op_add (pv 8) pe_int) pa_nil))))) (pa_cons (pe_lst pa_nil) pa_nil)) rfl)
      (pss_cons (ps_for PassesOwn.never rfl (pi_range1 (by rfl) B.range (pa_cons (pv 1) pa_nil)) (pg_name (i := 5) nd rfl (.inr rfl)) (pss_one (ps_set (i := 4) nd rfl (.inl rfl) (pe_op op_cat (pv 4) (pe_lc (own := [("_law_one", 9)]) (g := gName 9) (tt := tYes) rfl nd (pi_range1 (by rfl) B.range (pa_cons (pv 5) pa_nil)) (blkOk_by (N := nm_l_family_part) (sc := defScope s_l_family_part) (by decide +kernel)) (fun _ _ _ _ _ => (pg_name (i := 9) nd rfl (Or.inl rfl))) (fun _ _ _ _ _ => pts_nil) (fun _ _ _ _ _ => (pe_tup (pa_cons (pv 9) (pa_cons (pv 5) pa_nil)))))))))
      (C8.pss_cut (ps_if (pt_cmpR op_eq (pv 2) pe_int (nomark _)) (pss_one (ps_set (i := 6) nd rfl (.inr rfl) (pv 3))) (pss_one (ps_if (pt_cmpR op_eq (pv 2) pe_int (nomark _)) (pss_one (ps_set (i := 6) nd rfl (.inr rfl) (pe_op op_cat (pv 3) (pe_op op_rep (pe_lst (pa_cons (pe_tup (pa_cons pe_int (pa_cons (pe_op op_sub (pv 1) pe_int) pa_nil))) pa_nil)) (pe_callTy call_int1 (by rfl) B.int (by decide +kernel) (pa_cons (pe_cmpR op_gt (pv 1) pe_int (nomark _)) pa_nil)))))) (pss_one (ps_if (pt_cmpR op_eq (pv 2) pe_int (nomark _)) (pss_one (ps_set (i := 6) nd rfl (.inr rfl) (pe_lc (own := [("_law_at", 8)]) (g := gName 8) (tt := tYes) rfl nd (pi_range2 (by rfl) B.range (pa_cons pe_int (pa_cons (pv 1) pa_nil))) (blkOk_by (N := nm_l_family_part) (sc := defScope s_l_family_part) (by decide +kernel)) (fun _ _ _ _ _ => (pg_name (i := 8) nd rfl (Or.inl rfl))) (fun _ _ _ _ _ => pts_nil) (fun _ _ _ _ _ => (pe_tup (pa_cons pe_int (pa_cons (pv 8) pa_nil))))))) (pss_one (ps_if (pt_cmpR op_eq (pv 2) pe_int (nomark _)) (pss_one (ps_set (i := 6) nd rfl (.inr rfl) (pv 4))) (pss_cons (ps_set (i := 6) nd rfl (.inr rfl) (pe_lc (own := [("_law_late", 10)]) (g := gName 10) (tt := tYes) rfl nd (pi_range2 (by rfl) B.range (pa_cons pe_int (pa_cons (pv 1) pa_nil))) (blkOk_by (N := nm_l_family_part) (sc := defScope s_l_family_part) (by decide +kernel)) (fun _ _ _ _ _ => (pg_name (i := 10) nd rfl (Or.inl rfl))) (fun _ _ _ _ _ => pts_nil) (fun _ _ _ _ _ => (pe_tup (pa_cons (pe_has G__law_draw (hr.mono (by decide)) (pa_cons (pv 0) (pa_cons (pv 10) pa_nil))) (pa_cons (pv 10) pa_nil))))))
      (pss_one (ps_set (i := 6) nd rfl (.inr rfl) (pe_op op_cat (pv 6) (pe_lc (own := [("_law_pair", 11)]) (g := gName 11) rfl nd (k_pil (K := K) rfl (pv 4)) (blkOk_by (N := nm_l_family_part) (sc := defScope s_l_family_part) (by decide +kernel)) (fun _ _ _ _ _ => (pg_name (i := 11) nd rfl (Or.inl rfl))) (fun _ _ _ _ _ => (pts_one (PW.pt (pw_and (pt_cmpR (k_notinD (K := K) rfl hu65) (pv 11) (pv 6) (by rfl)) (pw_and1 (pt_cmpR op_eq (pe_has G__law_draw (hr.mono (by decide)) (pa_cons (pv 0) (pa_cons pe_int pa_nil))) pe_int (nomark _))))))) (fun _ _ _ _ _ => (pv 11))))))))))))))
      (pss_cons (ps_set (i := 7) nd rfl (.inr rfl) (pe_ix (k_ixl (K := K) rfl) (pe_lst (pa_cons (pe_lst (pa_cons pe_str pa_nil)) (pa_cons (pe_lst (pa_cons pe_str pa_nil)) (pa_cons (pe_lst (pa_cons pe_str (pa_cons pe_str pa_nil))) pa_nil)))) (pe_has G__law_draw (hr.mono (by decide)) (pa_cons (pv 0) (pa_cons pe_int pa_nil))) (fun _ _ => rfl)))
      (pss_one (ps_ret (pe_lst (pa_cons (pv 1) (pa_cons (pv 6) (pa_cons (pe_lc (own := [("_law_at", 8)]) (g := gName 8) (tt := tYes) rfl nd (pi_range1 (by rfl) B.range (pa_cons (pv 1) pa_nil)) (blkOk_by (N := nm_l_family_part) (sc := defScope s_l_family_part) (by decide +kernel)) (fun _ _ _ _ _ => (pg_name (i := 8) nd rfl (Or.inl rfl))) (fun _ _ _ _ _ => pts_nil) (fun _ _ _ _ _ => (pe_has G__law_one_of (hr.mono (by decide)) (pa_cons (pv 0) (pa_cons (pv 7) pa_nil))))) pa_nil))))))))))), ?_⟩
    refine ⟨_, rfl, a, 5, n, rfl, by decide, by decide, pu, by omega, fun kd H1 k0 k1 pu1 bt1 => ?_⟩
    -- the row
    refine ⟨_, rfl, _, _, rfl, rfl, ((m : Int) - 1), rfl, by omega, by omega, fun D nD => ?_⟩
    refine lc_range (lo := 0) (n := ((m : Int) - 1).toNat) (fun i H' => Same H1 H' ∧ ∃ us : IIs, H' D = some (.lst (irefs us)) ∧ us.length = i ∧ IPs H' us (edge (m : Int))) ⟨same_new nD, [], upd_same, rfl, .nil⟩ ?_ ?_
    · rintro i H' hi ⟨sm, us, eD, lu, ip⟩
      refine ⟨rfl, _, rfl, _, rfl, _, _, rfl, rfl, by show 2 ≤ sizeLine; decide, fun T nT => ?_⟩
      have sT := same_new (o := .tup [.int (0 + (i : Int)), .int (0 + (i : Int) + 1)]) nT
      obtain ⟨e1, e2, e3⟩ := edge_step (x := 0 + (i : Int)) (y := 0 + (i : Int) + 1) eD ip (by unfold edge; omega) nT
      exact ⟨_, e1, by rw [irefs_len]; exact room_str _ (by omega), upd_same' (sm.trans sT) nD, _, e2, by rw [List.length_append, lu]; rfl, e3⟩
    rintro H2 ⟨sm2, rs, eD, lr, ipr⟩
    refine ⟨by show 0 ≤ sizeLine; decide, fun F0 nF => ?_⟩
    have sF := same_new (o := .lst []) nF
    refine ⟨_, _, rfl, ?_⟩
    have DF : D ≠ F0 := ne_of_none eD nF
    -- all pairs
    refine ⟨_, rfl, (m : Int), rfl, by omega, by omega, for_range (lo := 0) (n := (m : Int).toNat) (fun j σ H' => ∃ (v5 : Option V) (L : Addr) (us : IIs), σ = [some (.ref a), some (.int (m : Int)), some (.int kd), some (.ref D), some (.ref L), v5, none, none, none, none, none, none] ∧ H L = none ∧ Same H1 H' ∧ H' D = some (.lst (irefs rs)) ∧ IPs H' rs (edge (m : Int)) ∧ H' L = some (.lst (irefs us)) ∧ us.length ≤ 8 * j ∧ IPs H' us (edge (m : Int)))
      ⟨none, F0, [], rfl, But.free bt1 pu1 (none_of_same sm2 nF), sm2.trans sF, sF _ _ eD, ipr.tu (Tu.of sF), upd_same, Nat.zero_le _, .nil⟩ ?_ ?_⟩
    · rintro j σ H' hj ⟨v5, L, us, rfl, nL0, sm, eR, ipr, eL, lu, ip⟩
      refine ⟨_, rfl, _, rfl, (0 + (j : Int)), rfl, by omega, by omega, fun C nC => ?_⟩
      refine lc_range (lo := 0) (n := (0 + (j : Int)).toNat) (fun i H2 => Same H' H2 ∧ ∃ vs : IIs, H2 C = some (.lst (irefs vs)) ∧ vs.length = i ∧ IPs H2 vs (edge (m : Int))) ⟨same_new nC, [], upd_same, rfl, .nil⟩ ?_ ?_
      · rintro i H2 hi ⟨s2, vs, eC, lv, iv⟩
        refine ⟨rfl, _, rfl, _, rfl, by show 2 ≤ sizeLine; decide, fun T nT => ?_⟩
        have sT := same_new (o := .tup [.int (0 + (i : Int)), .int (0 + (j : Int))]) nT
        obtain ⟨e1, e2, e3⟩ := edge_step (x := 0 + (i : Int)) (y := 0 + (j : Int)) eC iv (by unfold edge; omega) nT
        exact ⟨_, e1, by rw [irefs_len]; exact room_str _ (by omega), upd_same' (s2.trans sT) nC, _, e2, by rw [List.length_append, lv]; rfl, e3⟩
      · rintro H2 ⟨s2, vs, eC, lv, iv⟩
        refine ⟨L, C, _, _, rfl, rfl, s2 _ _ eL, eC, by rw [irefs_len, irefs_len]; exact room_le _ (by omega), fun M nM => ?_⟩
        have sM := same_new (o := .lst (irefs us ++ irefs vs)) nM
        obtain ⟨e1, e2⟩ := edge_cat (ip.tu (Tu.of s2)) iv nM
        exact ⟨_, M, us ++ vs, rfl, But.free bt1 pu1 (none_of_same (sm.trans s2) nM), (sm.trans s2).trans sM, sM _ _ (s2 _ _ eR), ipr.tu ((Tu.of s2).trans (Tu.of sM)), e1, by rw [List.length_append]; omega, e2⟩
    rintro σ H3 ⟨v5, L, fs, rfl, nL0, sm3, eD3, ipr3, eL, lf, ipf⟩
    have bt3 : But a H H3 := bt1.trans (But.of sm3)
    have pu3 := pu1.same sm3
    refine ⟨fun σ' H4 => ∃ (Z : Addr) (us : IIs), σ' = [some (.ref a), some (.int (m : Int)), some (.int kd), some (.ref D), some (.ref L), v5, some (.ref Z), none, none, none, none, none] ∧ H Z = none ∧ But a H H4 ∧ Purse H4 a (n + 100) ∧ H4 Z = some (.lst (irefs us)) ∧ us.length ≤ 200 ∧ IPs H4 us (edge (m : Int)), ?_, ?_⟩
    · refine ⟨_, rfl, rfl, _, rfl, ?_⟩
      refine ite2 (fun _ => ?_) (fun _ => ?_)
      · exact ⟨_, rfl, D, rs, rfl, But.free bt1 pu1 nD, bt3, pu3.mono (by omega), eD3, by omega, ipr3⟩
      refine ⟨_, rfl, rfl, _, rfl, ?_⟩
      refine ite2 (fun _ => ?_) (fun _ => ?_)
      · refine ⟨_, rfl, _, rfl, _, _, rfl, rfl, by show 2 ≤ sizeLine; decide, fun T nT => ⟨by show 1 ≤ sizeLine; decide, fun L1 nL1 => ?_⟩⟩
        have sT := same_new (o := .tup [.int 0, .int ((m : Int) - 1)]) nT
        have sL1 := same_new (o := .lst [.ref T]) nL1
        have fin : ∀ (z : Int), (z = 0 ∨ (z = 1 ∧ 2 < m)) → ∀ (M : Addr), True := fun _ _ _ => trivial
        refine ⟨_, rfl, _, _, rfl, rfl, .inr ⟨_, rfl, ?_⟩⟩
        by_cases h2 : (2 : Int) < m
        · refine ⟨L1, 1, _, rfl, ?_, upd_same, by decide, by decide, by show 1 * 1 ≤ sizeLine; decide, fun L2 nL2 => ?_⟩
          · rw [decide_eq_true h2]
            rfl
          have sL2 := same_new (o := .lst [.ref T]) nL2
          have sA := (sT.trans sL1).trans sL2
          refine ⟨D, L2, _, irefs [(T, 0, (m : Int) - 1)], rfl, rfl, sA _ _ eD3, upd_same, by rw [irefs_len, irefs_len]; exact room_le _ (by show rs.length + 1 ≤ 10000; omega), fun M nM => ?_⟩
          have sM := same_new (o := .lst (irefs rs ++ irefs [(T, 0, (m : Int) - 1)])) nM
          have iT : IPs _ [(T, 0, (m : Int) - 1)] (edge (m : Int)) := ⟨fun t ht => by
            rw [List.mem_singleton.mp ht]
            exact ⟨sL2 _ _ (sL1 _ _ upd_same), by show (0 : Int) ≤ 0 ∧ (0 : Int) < (m : Int) - 1 ∧ (m : Int) - 1 < m; omega⟩⟩
          obtain ⟨e1, e2⟩ := edge_cat (ipr3.tu (Tu.of sA)) iT nM
          exact ⟨M, _, rfl, But.free (bt3.trans (But.of sA)) (pu3.same sA) nM, (bt3.trans (But.of sA)).trans (But.of sM), ((pu3.same sA).same sM).mono (by omega), e1, by rw [List.length_append]; show rs.length + 1 ≤ 200; omega, e2⟩
        · refine ⟨L1, 0, _, rfl, ?_, upd_same, by decide, by decide, by show 1 * 0 ≤ sizeLine; decide, fun L2 nL2 => ?_⟩
          · rw [decide_eq_false h2]
            rfl
          have sL2 := same_new (o := .lst []) nL2
          have sA := (sT.trans sL1).trans sL2
          refine ⟨D, L2, _, irefs [], rfl, rfl, sA _ _ eD3, upd_same, by rw [irefs_len, irefs_len]; exact room_le _ (by show rs.length + 0 ≤ 10000; omega), fun M nM => ?_⟩
          have sM := same_new (o := .lst (irefs rs ++ irefs [])) nM
          obtain ⟨e1, e2⟩ := edge_cat (ipr3.tu (Tu.of sA)) (vs := []) .nil nM
          exact ⟨M, _, rfl, But.free (bt3.trans (But.of sA)) (pu3.same sA) nM, (bt3.trans (But.of sA)).trans (But.of sM), ((pu3.same sA).same sM).mono (by omega), e1, by rw [List.length_append]; show rs.length + 0 ≤ 200; omega, e2⟩
      refine ⟨_, rfl, rfl, _, rfl, ?_⟩
      refine ite2 (fun _ => ?_) (fun _ => ?_)
      · refine ⟨_, rfl, 1, (m : Int), rfl, ⟨by decide, by decide, by omega, by omega⟩, fun C nC => ?_⟩
        refine lc_range (lo := 1) (n := ((m : Int) - 1).toNat) (fun i H2 => Same H3 H2 ∧ ∃ vs : IIs, H2 C = some (.lst (irefs vs)) ∧ vs.length = i ∧ IPs H2 vs (edge (m : Int))) ⟨same_new nC, [], upd_same, rfl, .nil⟩ ?_ ?_
        · rintro i H2 hi ⟨s2, vs, eC, lv, iv⟩
          refine ⟨rfl, _, rfl, by show 2 ≤ sizeLine; decide, fun T nT => ?_⟩
          have sT := same_new (o := .tup [.int 0, .int (1 + (i : Int))]) nT
          obtain ⟨e1, e2, e3⟩ := edge_step (x := 0) (y := 1 + (i : Int)) eC iv (by unfold edge; omega) nT
          exact ⟨_, e1, by rw [irefs_len]; exact room_str _ (by omega), upd_same' (s2.trans sT) nC, _, e2, by rw [List.length_append, lv]; rfl, e3⟩
        · rintro H2 ⟨s2, vs, eC, lv, iv⟩
          exact ⟨C, vs, rfl, But.free bt3 pu3 nC, bt3.trans (But.of s2), (pu3.same s2).mono (by omega), eC, by omega, iv⟩
      refine ⟨_, rfl, rfl, _, rfl, ?_⟩
      refine ite2 (fun _ => ?_) (fun _ => ?_)
      · exact ⟨_, rfl, L, fs, rfl, nL0, bt3, pu3.mono (by omega), eL, by omega, ipf⟩
      refine ⟨_, rfl, 1, (m : Int), rfl, ⟨by decide, by decide, by omega, by omega⟩, fun C nC => ?_⟩
      have Ca := pu3.ne_new nC
      have nC0 : H C = none := But.free bt3 pu3 nC
      refine lc_range (lo := 1) (n := ((m : Int) - 1).toNat) (fun i H2 => But a H3 H2 ∧ Purse H2 a (n + 1 + i) ∧ ∃ vs : IIs, H2 C = some (.lst (irefs vs)) ∧ vs.length = i ∧ IPs H2 vs (edge (m : Int))) ⟨But.of (same_new nC), (pu3.upd Ca).mono (by omega), [], upd_same, rfl, .nil⟩ ?_ ?_
      · rintro i H2 hi ⟨b2, p2, vs, eC, lv, iv⟩
        refine ⟨rfl, _, rfl, _, rfl, a, _, _, rfl, by omega, by omega, p2, by omega, fun r H4 r0 r1 p4 b4 => ?_⟩
        refine ⟨_, rfl, by show 2 ≤ sizeLine; decide, fun T nT => ?_⟩
        have sT := same_new (o := .tup [.int r, .int (1 + (i : Int))]) nT
        obtain ⟨e1, e2, e3⟩ := edge_step (x := r) (y := 1 + (i : Int)) (b4 _ _ Ca eC) (iv.tu (Tu.but p2 b4)) (by unfold edge; omega) nT
        exact ⟨_, e1, by rw [irefs_len]; exact room_str _ (by omega), upd_but ((b2.trans b4).trans (But.of sT)) nC, ((p4.same sT).upd Ca).mono (by omega), _, e2, by rw [List.length_append, lv]; rfl, e3⟩
      rintro H4 ⟨b4, p4, vs, eC, lv, iv⟩
      have La := irefs_ne pu3 eL
      have eL4 := b4 _ _ La eL
      have ipf4 := ipf.tu (Tu.but pu3 b4)
      refine ⟨_, rfl, _, rfl, L, rfl, ⟨_, SqL.of eL4⟩, fun G nG => ?_⟩
      have Ga := p4.ne_new nG
      have Lg := ne_of_none eL4 nG
      have Cg := ne_of_none eC nG
      refine lc_list (K := K) (a := L) (xs := irefs fs) (fun i H5 => But a H4 H5 ∧ Purse H5 a (n + 20 + i) ∧ H5 L = some (.lst (irefs fs)) ∧ H5 C = some (.lst (irefs vs)) ∧ IPs H5 fs (edge (m : Int)) ∧ IPs H5 vs (edge (m : Int)) ∧ ∃ us : IIs, H5 G = some (.lst (irefs us)) ∧ us.length ≤ i ∧ IPs H5 us (edge (m : Int)))
        ⟨But.of (same_new nG), (p4.upd Ga).mono (by omega), by rw [upd_ne Lg]; exact eL4, by rw [upd_ne Cg]; exact eC, ipf4.tu (Tu.of (same_new nG)), iv.tu (Tu.of (same_new nG)), [], upd_same, Nat.zero_le _, .nil⟩ (fun i H5 _ h => SqL.of h.2.2.1) ?_ ?_
      · rintro i x H5 hx ⟨b5, p5, eL5, eC5, ip5, iv5, us, eG, lu, iu⟩
        obtain ⟨t, et, rfl⟩ := irefs_at hx
        have hi := (List.getElem?_eq_some_iff.mp et).1
        have ht := ip5.at_ t (List.mem_of_getElem? et)
        refine ⟨rfl, _, rfl, _, rfl, .tuple [.int t.2.1, .int t.2.2], iiD vs, .tup (SqT.of ht.1) (.cons (.int _) (.cons (.int _) .nil)), .lst (SqL.of eC5) (dp_iis iv5), rfl, shaped_iis vs, _, rfl, ?_⟩
        refine ite2 (fun _ => ?_) (fun _ => ?_)
        · refine ⟨_, rfl, a, 4, _, rfl, by decide, by decide, p5, by omega, fun r H6 _ _ p6 b6 => ⟨rfl, _, rfl, ?_⟩⟩
          have eG6 := b6 _ _ Ga eG
          have t6 := Tu.but p5 b6
          refine ite2 (fun _ => ?_) (fun _ => ?_)
          · refine ⟨_, rfl, _, eG6, by rw [irefs_len]; exact room_str _ (by omega), upd_but (b5.trans b6) nG, (p6.upd Ga).mono (by omega), ?_, ?_, (ip5.tu t6).tu (Tu.upd eG6), (iv5.tu t6).tu (Tu.upd eG6), us ++ [t], by rw [upd_same, irefs_snoc], by rw [List.length_append]; simp; omega, ?_⟩
            · rw [upd_ne Lg]
              exact b6 _ _ La eL5
            · rw [upd_ne Cg]
              exact b6 _ _ Ca eC5
            · exact ((iu.tu t6).snoc (t6 _ _ ht.1) ht.2).tu (Tu.upd eG6)
          · exact ⟨b5.trans b6, p6.mono (by omega), b6 _ _ La eL5, b6 _ _ Ca eC5, ip5.tu t6, iv5.tu t6, us, eG6, by omega, iu.tu t6⟩
        · exact ⟨b5, p5.mono (by omega), eL5, eC5, ip5, iv5, us, eG, by omega, iu⟩
      · rintro H5 ⟨b5, p5, eL5, eC5, ip5, iv5, us, eG, lu, iu⟩
        rw [irefs_len] at lu
        refine ⟨C, G, _, _, rfl, rfl, eC5, eG, by rw [irefs_len, irefs_len]; exact room_le _ (by omega), fun M nM => ?_⟩
        have sM := same_new (o := .lst (irefs vs ++ irefs us)) nM
        obtain ⟨e1, e2⟩ := edge_cat iv5 iu nM
        refine ⟨M, _, rfl, But.free ((bt3.trans b4).trans b5) p5 nM, ((bt3.trans b4).trans b5).trans (But.of sM), (p5.same sM).mono (by rw [irefs_len]; omega), e1, by rw [List.length_append]; omega, e2⟩
    · rintro σ' H4 ⟨Z, us, rfl, nZ0, bt4, pu4, eZ, lu, ip⟩
      refine ⟨by show 1 ≤ sizeLine; decide, fun T1 n1' => ⟨by show 1 ≤ sizeLine; decide, fun T2 n2' => ⟨by show 2 ≤ sizeLine; decide, fun T3 n3' => ⟨by show 3 ≤ sizeLine; decide, fun TT nTT => ?_⟩⟩⟩⟩
      have s1 := same_new (o := .lst [.str "odd"]) n1'
      have s2 := same_new (o := .lst [.str "even"]) n2'
      have s3 := same_new (o := .lst [.str "odd", .str "even"]) n3'
      have sT := same_new (o := .lst [.ref T1, .ref T2, .ref T3]) nTT
      have sA := ((s1.trans s2).trans s3).trans sT
      have pu5 := pu4.same sA
      refine ⟨_, rfl, a, 3, _, rfl, by decide, by decide, pu5, by omega, fun r H5 r0 r1 pu6 bt6 => ?_⟩
      have TTa := pu4.same ((s1.trans s2).trans s3) |>.ne_new nTT
      have T1a := pu4.ne_new n1'
      have T2a := (pu4.same s1).ne_new n2'
      have T3a := (pu4.same (s1.trans s2)).ne_new n3'
      have pick : ∃ (Tr : Addr) (ws : List Str), atI [V.ref T1, V.ref T2, V.ref T3] r = some (V.ref Tr) ∧ Tr ≠ a ∧ H5 Tr = some (.lst (ws.map V.str)) ∧ 0 < ws.length ∧ ws.length < 100 ∧ ∀ x ∈ ws, wishF x := by
        rcases (show r = 0 ∨ r = 1 ∨ r = 2 by omega) with rfl | rfl | rfl
        · exact ⟨T1, ["odd"], rfl, T1a, bt6 _ _ T1a (sT _ _ (s3 _ _ (s2 _ _ upd_same))), by decide, by decide, fun x hx => by rw [List.mem_singleton.mp hx]; exact wish_odd⟩
        · exact ⟨T2, ["even"], rfl, T2a, bt6 _ _ T2a (sT _ _ (s3 _ _ upd_same)), by decide, by decide, fun x hx => by rw [List.mem_singleton.mp hx]; exact wish_even⟩
        · refine ⟨T3, ["odd", "even"], rfl, T3a, bt6 _ _ T3a (sT _ _ upd_same), by decide, by decide, fun x hx => ?_⟩
          simp only [List.mem_cons, List.not_mem_nil, or_false] at hx
          rcases hx with rfl | rfl
          · exact wish_odd
          · exact wish_even
      obtain ⟨Tr, ws, ep, Tra, eTr, w0, w1, hw⟩ := pick
      refine ⟨TT, _, r, .ref Tr, rfl, rfl, SqL.of (bt6 _ _ TTa upd_same), ep, ?_⟩
      refine ⟨_, rfl, _, rfl, ?_⟩
      have bt7 := (bt4.trans (But.of sA)).trans bt6
      refine lc_wishes (a := a) (m := m) (n := n + 100 + 1) rfl (by omega) (fun v => rfl) (fun v => rfl) pu6 (by omega) (fun v H2 Q' bt2 pu2 q => ?_) fun D2 ws2 H2 nD2 eD2 lw hw2 bt2 pu2 => ?_
      · exact ⟨_, rfl, q Tr ws H2 (fun _ _ e => e) (bt2 _ _ Tra eTr) w0 w1 hw⟩
      · have Za := irefs_ne pu4 eZ
        refine ⟨by show 3 ≤ sizeLine; decide, fun R nR => ?_⟩
        have sR := same_new (o := .lst [.int (m : Int), .ref Z, .ref D2]) nR
        have btf := (bt7.trans bt2).trans (But.of sR)
        refine kk R _ (But.free (bt7.trans bt2) pu2 nR) ⟨Z, D2, us, ws2, upd_same, sR _ _ (bt2 _ _ Za (bt6 _ _ Za (sA _ _ eZ))), by omega, ip.tu ((Tu.of sA).trans ((Tu.but pu5 bt6).trans ((Tu.but pu6 bt2).trans (Tu.of sR)))), sR _ _ eD2, lw, hw2⟩ (NewE.of upd_same nZ0) ((pu2.same sR).mono (by omega)) btf
abbrev spCore : Sp := fun vs H Q E => (∃ (a : Addr) (m : Nat), vs = [.ref a, .int (m : Int)] ∧ 6 ≤ m) ∧ spPart vs H Q E
def spAny : Sp := fun vs H Q _ => ∃ (a : Addr) (m : Nat) (n : Int), vs = [.ref a, .int (m : Int)] ∧ 1 ≤ m ∧ m ≤ 8 ∧ Purse H a n ∧ n ≤ 60000 ∧
  ∀ (p : Addr) (H' : Hp), H p = none → PartAt H' p m → NewE H H' p → Purse H' a (n + 1001) → But a H H' → Q (.ref p) H'
theorem ok_part {f : Addr} {fd : FuncData} (F : FnP K "_law_part" s_l_part f fd) (B : FreeN mg) (G__law_draw : Has P w K mg base 2 "_law_draw" ["_law_purse_here", "_law_many"] spDraw) (G__law_paired_part : Has P w K mg base 4 "_law_paired_part" ["_law_purse_here", "_law_many"] spPart) (G__law_core_part : Has P w K mg base 4 "_law_core_part" ["_law_purse_here", "_law_many"] spCore) (G__law_family_part : Has P w K mg base 4 "_law_family_part" ["_law_purse_here", "_law_many"] spPart) : FnOk P w K mg base CX0 5 f fd ["_law_purse_here", "_law_many"] spAny := by
  refine fnP_ok F sc_l_part (fun vs H Q E h => ?_) (fun cdv A outer s H vs Q E hr h => ?_)
  · obtain ⟨a, m, n, rfl, _⟩ := h
    rfl
  · obtain ⟨a, m, n, rfl, m1, m8, pu, n1, kk⟩ := h
    have nd := sc_l_part.nd
    refine ⟨_, (pss_cons (ps_set (i := 2) nd rfl (.inl rfl) (pe_has G__law_draw (hr.mono (by decide)) (pa_cons (pv 0) (pa_cons pe_int pa_nil))))
      (pss_cons (ps_if (pt_cmpR op_lt (pv 2) pe_int (nomark _)) (pss_one (ps_ret (pe_has G__law_paired_part (hr.mono (by decide)) (pa_cons (pv 0) (pa_cons (pv 1) pa_nil))))) pss_nil)
      (pss_one (ps_ret (pe_ifExp (PW.pt (pw_and (pt_cmpR op_lt (pv 2) pe_int (nomark _)) (pw_and1 (pt_cmpR op_gt (pv 1) pe_int (nomark _))))) (pe_has G__law_core_part (hr.mono (by decide)) (pa_cons (pv 0) (pa_cons (pv 1) pa_nil))) (pe_has G__law_family_part (hr.mono (by decide)) (pa_cons (pv 0) (pa_cons (pv 1) pa_nil)))))))), ?_⟩
    refine ⟨_, rfl, a, 7, n, rfl, by decide, by decide, pu, by omega, fun kd H1 k0 k1 pu1 bt1 => ?_⟩
    have done : ∀ (p : Addr) (H' : Hp), H1 p = none → PartAt H' p m → NewE H1 H' p → Purse H' a (n + 1 + 1000) → But a H1 H' → Q (.ref p) H' := fun p H' np pa ne pu' bt => kk p H' (But.free bt1 pu1 np) pa (fun x w e q => But.free bt1 pu1 (ne x w e q)) (pu'.mono (by omega)) (bt1.trans bt)
    refine ⟨_, rfl, _, _, rfl, rfl, _, rfl, ?_⟩
    refine ite2 (fun _ => ?_) (fun _ => ?_)
    · exact ⟨_, rfl, _, rfl, a, m, n + 1, rfl, m1, m8, pu1, by omega, done⟩
    have fam : (tCall spPart [] E0 (tCons (tVar 0) (tCons (tVar 1) tNil))) [some (.ref a), some (.int (m : Int)), some (.int kd)] H1 Q := ⟨_, rfl, _, rfl, a, m, n + 1, rfl, m1, m8, pu1, by omega, done⟩
    refine ⟨_, rfl, _, _, rfl, rfl, _, rfl, ?_⟩
    refine ite2 (fun _ => ?_) (fun _ => ?_)
    · refine ⟨_, rfl, _, _, rfl, rfl, _, rfl, ?_⟩
      refine ite2 (fun h6 => ?_) (fun _ => ?_)
      · exact ⟨_, rfl, _, rfl, ⟨a, m, rfl, by have := of_decide_eq_true h6; omega⟩, a, m, n + 1, rfl, m1, m8, pu1, by omega, done⟩
      · exact fam
    · exact fam
end
end NK
/-! a net's data, of parts -/
namespace NK
open PySem PySem.Spec PyProof.Rows L2 He K1
theorem room1 {k : Nat} {A : Around} (hr : Room k A) : A.units + 1 < cLine := by
  have := hr.un
  omega
/-! ### tables -/
theorem valV_app_none {κ : Type} [DecidableEq κ] (kvs : List (κ × V)) (k : κ) (h : k ∉ kvs.map (·.1)) : valV kvs k = none := by
  induction kvs with
  | nil => rfl
  | cons p r ih =>
    rw [List.map_cons, List.mem_cons, not_or] at h
    rw [valV_neg fun e => h.1 e.symm]
    exact ih h.2
theorem merge_new : ∀ (kvs acc : List (Key × V)), (kvs.map (·.1)).Nodup → (∀ k ∈ kvs.map (·.1), k ∉ acc.map (·.1)) → mergeK acc kvs = acc ++ kvs
  | [], acc, _, _ => (List.append_nil acc).symm
  | p :: r, acc, nd, h => by
    rw [List.map_cons, List.nodup_cons] at nd
    show mergeK (putK acc p.1 p.2) r = _
    rw [putK_new p.2 (valV_app_none _ _ (h p.1 List.mem_cons_self)), merge_new r (acc ++ [(p.1, p.2)]) nd.2 ?_, List.append_assoc]
    · rfl
    · intro k hk
      rw [List.map_append, List.mem_append, not_or]
      refine ⟨h k (List.mem_cons_of_mem _ hk), fun e => ?_⟩
      rw [List.map_cons, List.map_nil, List.mem_singleton] at e
      exact nd.1 (by rw [← e]; exact hk)
theorem inr_nodup {bs : List Str} (nd : bs.Nodup) : (bs.map fun x => (Sum.inr x : Key)).Nodup := by
  unfold List.Nodup at nd ⊢
  rw [List.pairwise_map]
  exact nd.imp fun {a b} h e => h (Sum.inr.inj e)
def wtab (bs : List Str) (wf : Str → Str) : List (Key × V) := bs.map fun x => (Sum.inr x, V.str (wf x))
theorem wtab_keys (bs : List Str) (wf : Str → Str) : (wtab bs wf).map (·.1) = bs.map fun x => (Sum.inr x : Key) := by
  unfold wtab
  rw [List.map_map]
  rfl
theorem wtab_merge {bs : List Str} (wf : Str → Str) (nd : bs.Nodup) : mergeK [] (wtab bs wf) = wtab bs wf := by
  rw [merge_new _ [] (by rw [wtab_keys]; exact inr_nodup nd) fun k _ h => nomatch h]
  rfl
theorem wtab_at {bs : List Str} {wf : Str → Str} {x : Str} (h : x ∈ bs) : valV (wtab bs wf) (Sum.inr x) = some (V.str (wf x)) := by
  induction bs with
  | nil => nomatch h
  | cons b bs ih =>
    by_cases e : b = x
    · subst e
      exact valV_pos rfl
    · have h2 : x ∈ bs := by
        rcases List.mem_cons.mp h with h | h
        · exact absurd h.symm e
        · exact h
      exact (valV_neg fun q => e (Sum.inr.inj q)).trans (ih h2)
theorem first_nodup {κ : Type} [DecidableEq κ] (ps : List κ) : (firstKeys ps).Nodup := by
  have go : ∀ (ps acc : List κ), acc.Nodup → (ps.foldl (fun acc k => if k ∈ acc then acc else acc ++ [k]) acc).Nodup := by
    intro ps
    induction ps with
    | nil => intro acc h; exact h
    | cons p ps ih =>
      intro acc h
      rw [List.foldl_cons]
      refine ih _ ?_
      by_cases m : p ∈ acc
      · rw [if_pos m]
        exact h
      · rw [if_neg m]
        exact List.nodup_append.mpr ⟨h, List.nodup_cons.mpr ⟨List.not_mem_nil, List.nodup_nil⟩, fun a ha b hb e => m (by rw [← List.mem_singleton.mp hb, ← e]; exact ha)⟩
  exact go ps [] List.nodup_nil
theorem first_map {κ μ : Type} [DecidableEq κ] [DecidableEq μ] (f : κ → μ) (inj : ∀ {a b}, f a = f b → a = b) (ps : List κ) : firstKeys (ps.map f) = (firstKeys ps).map f := by
  unfold firstKeys
  have go : ∀ (ps acc : List κ), (ps.map f).foldl (fun acc k => if k ∈ acc then acc else acc ++ [k]) (acc.map f) = (ps.foldl (fun acc k => if k ∈ acc then acc else acc ++ [k]) acc).map f := by
    intro ps
    induction ps with
    | nil => intro acc; rfl
    | cons p ps ih =>
      intro acc
      rw [List.map_cons, List.foldl_cons, List.foldl_cons]
      by_cases m : p ∈ acc
      · rw [if_pos m, if_pos (List.mem_map.mpr ⟨p, m, rfl⟩)]
        exact ih acc
      · rw [if_neg m, if_neg fun h => by
          obtain ⟨q, hq, e⟩ := List.mem_map.mp h
          rw [inj e] at hq
          exact m hq]
        have z := ih (acc ++ [p])
        rw [List.map_append] at z
        exact z
  exact go ps []
theorem nodup_le {α : Type} [DecidableEq α] : ∀ {l m : List α}, l.Nodup → (∀ x ∈ l, x ∈ m) → l.length ≤ m.length
  | [], _, _, _ => Nat.zero_le _
  | a :: l, m, nd, h => by
    rw [List.nodup_cons] at nd
    have ha := h a List.mem_cons_self
    have z := nodup_le (l := l) (m := m.erase a) nd.2 fun x hx => by
      refine (List.mem_erase_of_ne fun e => nd.1 (by rw [← e]; exact hx)).mpr (h x (List.mem_cons_of_mem _ hx))
    rw [List.length_erase_of_mem ha] at z
    have := List.length_pos_of_mem ha
    rw [List.length_cons]
    omega
/-! ### a net's data -/
structure NetD where
  bs : List Str
  ts : List Pr
  wf : Str → Str
def wish3 (x : Str) : Prop := x = "odd" ∨ x = "even" ∨ x = "stuck"
theorem wishF.three {x : Str} (h : wishF x) : wish3 x := h.elim .inl fun h => .inr (.inl h)
structure NetOk (N : NetD) : Prop where
  asc : Asc sl N.bs
  word : ∀ z ∈ N.bs, Word z
  pos : 1 ≤ N.bs.length
  le : N.bs.length ≤ 10
  tasc : Asc pl N.ts
  tin : ∀ t ∈ N.ts, t.1 ∈ N.bs ∧ t.2 ∈ N.bs ∧ sl t.1 t.2 = true
  wish : ∀ z ∈ N.bs, wish3 (N.wf z)
  fre : ∃ z ∈ N.bs, wishF (N.wf z)
theorem NetOk.ts_le {N : NetD} (O : NetOk N) : N.ts.length ≤ 100 := by
  have z := nodup_le (asc_nodup ord_pl O.tasc) (m := N.bs.flatMap fun a => N.bs.map fun b => (a, b)) fun x hx => by
    obtain ⟨h1, h2, _⟩ := O.tin x hx
    exact List.mem_flatMap.mpr ⟨x.1, h1, List.mem_map.mpr ⟨x.2, h2, rfl⟩⟩
  have e : (N.bs.flatMap fun a => N.bs.map fun b => (a, b)).length = N.bs.length * N.bs.length := by
    rw [List.length_flatMap]
    simp [List.length_map, List.map_const']
  rw [e] at z
  have := Nat.mul_le_mul O.le O.le
  omega
/-- pairs of texts, each a tuple -/
def QAt (H : Hp) (qs : Qs) : Prop := ∀ q ∈ qs, H q.1 = some (.tup [.str q.2.1, .str q.2.2])
def qrefs (qs : Qs) : List V := qs.map fun q => V.ref q.1
theorem QAt.tu {H H' : Hp} {qs : Qs} (h : QAt H qs) (s : Tu H H') : QAt H' qs := fun q m => s _ _ (h q m)
structure NetAt (H : Hp) (R : Addr) (N : NetD) : Prop where
  ok : NetOk N
  ex : ∃ (b t w : Addr) (qs : Qs), H R = some (.lst [.ref b, .ref t, .ref w]) ∧ H b = some (.lst (N.bs.map V.str)) ∧ H t = some (.lst (qrefs qs)) ∧ qs.map (·.2) = N.ts ∧ QAt H qs ∧ H w = some (.dK (wtab N.bs N.wf))
theorem NetAt.same {H H' : Hp} {R : Addr} {N : NetD} (s : Same H H') (h : NetAt H R N) : NetAt H' R N := by
  obtain ⟨b, t, w, qs, a1, a2, a3, a4, a5, a6⟩ := h.ex
  exact ⟨h.ok, b, t, w, qs, s _ _ a1, s _ _ a2, s _ _ a3, a4, a5.tu (Tu.of s), s _ _ a6⟩
theorem paired_us {K : PySem.W.Frag} {H : Hp} {wf : Str → Str} : ∀ {us : List (Addr × Str)}, (∀ u ∈ us, H u.1 = some (.tup [.str u.2, .str (wf u.2)])) → Paired (fun p kv => SqT K H p [kV kv.1, kv.2]) (us.map (·.1)) (wtab (us.map (·.2)) wf)
  | [], _ => .nil
  | u :: us, h => .cons (SqT.of (h u List.mem_cons_self)) (paired_us fun x m => h x (List.mem_cons_of_mem _ m))
/-- what stands in a table for a text -/
def wOf (kvs : List (Key × V)) (z : Str) : Str := match valV kvs (Sum.inr z) with
  | some (.str s) => s
  | _ => ""
theorem wOf_at {kvs : List (Key × V)} {z y : Str} (h : valV kvs (Sum.inr z) = some (.str y)) : wOf kvs z = y := by
  unfold wOf
  rw [h]
/-- how many in all -/
def tot (l : List (Addr × Nat)) : Nat := (l.map (·.2)).sum
theorem tot_app (l m : List (Addr × Nat)) : tot (l ++ m) = tot l + tot m := by
  unfold tot
  rw [List.map_append, List.sum_append]
theorem tot_succ {l : List (Addr × Nat)} {i : Nat} {x : Addr × Nat} (h : l[i]? = some x) : tot (l.take (i + 1)) = tot (l.take i) + x.2 := by
  rw [List.take_add_one, h, tot_app]
  show tot (l.take i) + (x.2 + 0) = _
  rfl
theorem tot_le (l : List (Addr × Nat)) (i : Nat) : tot (l.take i) ≤ tot l := by
  have z := tot_app (l.take i) (l.drop i)
  rw [List.take_append_drop] at z
  omega
def prefs (l : List (Addr × Nat)) : List V := l.map fun t => V.ref t.1
section
variable {P : Program} {w : World} {K : PySem.W.Frag} {mg : Str → Option Value} {base : Heap}
def spNetOf : Sp := fun vs H Q _ => ∃ (p q u : Addr) (zs : List Str) (ps : List (Addr × Nat)) (us : IIs), vs = [.ref p, .ref q, .ref u] ∧ H p = some (.lst (zs.map V.str)) ∧ zs.Nodup ∧ (∀ z ∈ zs, Word z) ∧ zs.length ≤ 10 ∧
  H q = some (.lst (prefs ps)) ∧ ps.length ≤ 3 ∧ (∀ t ∈ ps, PartAt H t.1 t.2) ∧ 1 ≤ tot ps ∧ tot ps ≤ zs.length ∧ H u = some (.lst (irefs us)) ∧ us.length ≤ 100 ∧ IPs H us (edge zs.length) ∧
  ∀ (R : Addr) (N : NetD) (H' : Hp), H R = none → NetAt H' R N → N.bs.length = zs.length → Same H H' → Q (.ref R) H'
theorem ok_net_of {f : Addr} {fd : FuncData} (F : FnP K "_law_net_of" s_l_net_of f fd) (B : FreeN mg) : FnOk P w K mg base CX0 1 f fd ["_law_words_here", "_law_parts", "_law_stuck"] spNetOf := by
  refine fnP_ok F sc_l_net_of (fun vs H Q E h => ?_) (fun cdv A outer s H vs Q E hr h => ?_)
  · obtain ⟨p, q, u, zs, ps, us, rfl, _⟩ := h
    rfl
  · obtain ⟨p, q, u, zs, ps, us, rfl, ep, znd, zw, z10, eq, lp, hp, t1, tz, eu, lu, ipu, kk⟩ := h
    have nd := sc_l_net_of.nd
    have hu := hr.units
    have hu1 := room1 hr
    refine ⟨_, (pss_cons (ps_asg (pe_tup (pa_cons (pe_callTy (k_list (K := K) rfl) (by rfl) B.list (by decide +kernel) (pa_cons (pv 0) pa_nil)) (pa_cons (pe_lst pa_nil) (pa_cons pe_dnewK (pa_cons pe_int pa_nil))))) (pg_tup rfl (pgs_cons (pg_name (i := 3) nd rfl (.inr rfl)) (pgs_cons (pg_name (i := 4) nd rfl (.inl rfl)) (pgs_cons (pg_name (i := 5) nd rfl (.inr rfl)) (pgs_cons (pg_name (i := 6) nd rfl (.inr rfl)) pgs_nil))))))
      (pss_cons (ps_for PassesOwn.never rfl (k_pil (K := K) rfl (pv 1)) (pg_lst rfl (pgs_cons (pg_name (i := 7) nd rfl (.inl rfl)) (pgs_cons (pg_name (i := 8) nd rfl (.inl rfl)) (pgs_cons (pg_name (i := 9) nd rfl (.inl rfl)) pgs_nil)))) (pss_cons (ps_set (i := 4) nd rfl (.inl rfl) (pe_op op_cat (pv 4) (pe_lc (own := [("_law_one", 13), ("_law_other", 14)]) (g := gTup K 2 (gCons (gName 13) (gCons (gName 14) gNil))) (tt := tYes) rfl nd (k_pil (K := K) rfl (pv 8)) (blkOk_by (N := nm_l_net_of) (sc := defScope s_l_net_of) (by decide +kernel)) (fun _ _ _ _ _ => (pg_tup rfl (pgs_cons (pg_name (i := 13) nd rfl (Or.inl rfl)) (pgs_cons (pg_name (i := 14) nd rfl (Or.inl rfl)) pgs_nil)))) (fun _ _ _ _ _ => pts_nil) (fun _ _ _ _ _ => (pe_tup (pa_cons (pe_op op_add (pv 6) (pv 13)) (pa_cons (pe_op op_add (pv 6) (pv 14)) pa_nil)))))))
      (pss_cons (ps_for PassesOwn.never rfl (pi_range1 (by rfl) B.range (pa_cons (pv 7) pa_nil)) (pg_name (i := 10) nd rfl (.inl rfl)) (pss_one (ps_asg (pe_ix (k_ixl (K := K) rfl) (pv 9) (pv 10) (fun _ _ => rfl)) (pg_sub (pv 5) (pe_ix (k_ixl (K := K) rfl) (pv 3) (pe_op op_add (pv 6) (pv 10)) (fun _ _ => rfl)) (set_dict hu1)))))
      (pss_one (ps_set (i := 6) nd rfl (.inr rfl) (pe_op op_add (pv 6) (pv 7)))))))
      (pss_cons (ps_for PassesOwn.never rfl (pi_range2 (by rfl) B.range (pa_cons (pv 6) (pa_cons (pe_callB (k_len (K := K) rfl) (by rfl) B.len (by decide +kernel) (pa_cons (pv 3) pa_nil)) pa_nil))) (pg_name (i := 11) nd rfl (.inl rfl)) (pss_one (ps_asg pe_str (pg_sub (pv 5) (pe_ix (k_ixl (K := K) rfl) (pv 3) (pv 11) (fun _ _ => rfl)) (set_dict hu1)))))
      (pss_cons (ps_setLc (i := 12) (own := [("_law_one", 13), ("_law_other", 14)]) (g := gTup K 2 (gCons (gName 13) (gCons (gName 14) gNil))) (tt := tYes) rfl nd rfl rfl (sw_true rfl rfl rfl (by decide +kernel)) (k_pil (K := K) rfl (pe_op op_cat (pv 4) (pv 2))) (blkOk_by (N := nm_l_net_of) (sc := defScope s_l_net_of) (by decide +kernel)) (fun _ _ _ _ _ => (pg_tup rfl (pgs_cons (pg_name (i := 13) nd rfl (Or.inl rfl)) (pgs_cons (pg_name (i := 14) nd rfl (Or.inl rfl)) pgs_nil)))) (fun _ _ _ _ _ => pts_nil) (fun _ _ _ _ _ => (pe_tup (pa_cons (pe_callB (call_minS rfl) (by rfl) B.min (by decide +kernel) (pa_cons (pe_ix (k_ixl (K := K) rfl) (pv 3) (pv 13) (fun _ _ => rfl)) (pa_cons (pe_ix (k_ixl (K := K) rfl) (pv 3) (pv 14) (fun _ _ => rfl)) pa_nil))) (pa_cons (pe_callB (call_maxS rfl) (by rfl) B.max (by decide +kernel) (pa_cons (pe_ix (k_ixl (K := K) rfl) (pv 3) (pv 13) (fun _ _ => rfl)) (pa_cons (pe_ix (k_ixl (K := K) rfl) (pv 3) (pv 14) (fun _ _ => rfl)) pa_nil))) pa_nil)))))
      (pss_cons (ps_set (i := 3) nd rfl (.inr rfl) (pe_callB (k_sortS (K := K) rfl) (by rfl) B.sorted (by decide +kernel) (pa_cons (pv 3) pa_nil)))
      (pss_one (ps_ret (pe_lst (pa_cons (pv 3) (pa_cons (pe_callB (cr_sortDT rfl) (by rfl) B.sorted (by decide +kernel) (pa_cons (pe_callTy (k_dictPT (K := K) rfl rfl hu) (by rfl) B.dict (by decide +kernel) (pa_cons (pe_lc (own := [("_law_edge", 16)]) (g := gName 16) (tt := tYes) rfl nd (k_pil (K := K) rfl (pv 12)) (blkOk_by (N := nm_l_net_of) (sc := defScope s_l_net_of) (by decide +kernel)) (fun _ _ _ _ _ => (pg_name (i := 16) nd rfl (Or.inl rfl))) (fun _ _ _ _ _ => pts_nil) (fun _ _ _ _ _ => (pe_tup (pa_cons (pv 16) (pa_cons pe_bl pa_nil))))) pa_nil)) pa_nil)) (pa_cons (pe_callTy (k_dictP (K := K) rfl rfl) (by rfl) B.dict (by decide +kernel) (pa_cons (pe_lc (own := [("_law_lamp", 15)]) (g := gName 15) (tt := tYes) rfl nd (k_pil (K := K) rfl (pv 3)) (blkOk_by (N := nm_l_net_of) (sc := defScope s_l_net_of) (by decide +kernel)) (fun _ _ _ _ _ => (pg_name (i := 15) nd rfl (Or.inl rfl))) (fun _ _ _ _ _ => pts_nil) (fun _ _ _ _ _ => (pe_tup (pa_cons (pv 15) (pa_cons (pe_dget hu1 (pv 5) (pv 15) (fun _ _ => rfl)) pa_nil))))) pa_nil)) pa_nil))))))))))), ?_⟩
    refine ⟨_, rfl, p, _, rfl, .inl (SqL.of ep), fun B0 nB => ⟨by show 0 ≤ sizeLine; decide, fun E0' nE => fun D nD => ⟨by show 4 ≤ sizeLine; decide, fun T nT => ?_⟩⟩⟩
    have sB := same_new (o := .lst (zs.map V.str)) nB
    have sE := same_new (o := .lst []) nE
    have sD := same_new (o := .dK []) nD
    have sT := same_new (o := .tup [.ref B0, .ref E0', .ref D, .int 0]) nT
    refine ⟨T, _, rfl, SqT.of upd_same, rfl, _, _, rfl, _, _, rfl, _, _, rfl, _, _, rfl, rfl, ?_⟩
    have s0 := (sB.trans sE).trans (sD.trans sT)
    have nD0 : H D = none := none_of_same (sB.trans sE) nD
    refine ⟨_, rfl, q, rfl, ⟨_, SqL.of (s0 _ _ eq)⟩, for_list (K := K) (a := q) (xs := prefs ps) (fun i σ H' => ∃ (L : Addr) (es : IIs) (kvs : List (Key × V)) (v7 v8 v9 v10 : Option V), σ = [some (.ref p), some (.ref q), some (.ref u), some (.ref B0), some (.ref L), some (.ref D), some (.int (tot (ps.take i) : Nat)), v7, v8, v9, v10, none, none, none, none, none, none] ∧ Same H H' ∧
        H' B0 = some (.lst (zs.map V.str)) ∧ H' L = some (.lst (irefs es)) ∧ es.length ≤ 1000 * i ∧ IPs H' es (edge zs.length) ∧ H' D = some (.dK kvs) ∧ kvs.length ≤ tot (ps.take i) ∧ ∀ (j : Nat) (z : Str), j < tot (ps.take i) → zs[j]? = some z → ∃ y, valV kvs (Sum.inr z) = some (V.str y) ∧ wishF y)
      ⟨E0', [], [], none, none, none, none, rfl, s0, sT _ _ (sD _ _ (sE _ _ upd_same)), sT _ _ (sD _ _ upd_same), Nat.zero_le _, .nil, sT _ _ upd_same, Nat.zero_le _, fun j z hj => absurd hj (Nat.not_lt_zero _)⟩ (fun i σ H' _ h => by
        obtain ⟨L, es, kvs, v7, v8, v9, v10, _, sm, _⟩ := h
        exact SqL.of (sm _ _ eq)) ?_ ?_⟩
    · rintro i x σ H' hx ⟨L, es, kvs, v7, v8, v9, v10, rfl, sm, eB, eL, le, ie, eD, lk, hk⟩
      unfold prefs at hx
      rw [List.getElem?_map] at hx
      cases ex : ps[i]? with
      | none =>
        rw [ex] at hx
        cases hx
      | some pm =>
      rw [ex] at hx
      cases hx
      obtain ⟨pa, m⟩ := pm
      have hi := (List.getElem?_eq_some_iff.mp ex).1
      have hp0 : PartAt H pa m := hp (pa, m) (List.mem_of_getElem? ex)
      have hps := tot_succ ex
      have hpl := tot_le ps (i + 1)
      rw [hps] at hpl
      generalize hg : tot (ps.take i) = g at *
      obtain ⟨e0, w0, vs, ws, a1, a2, a3, a4, a5, a6, a7⟩ := hp0.ex
      refine ⟨pa, _, rfl, SqL.of (sm _ _ a1), rfl, _, _, rfl, _, _, rfl, _, _, rfl, rfl, ?_⟩
      -- the edges, moved
      refine ⟨_, rfl, _, rfl, e0, rfl, ⟨_, SqL.of (sm _ _ a2)⟩, fun C nC => ?_⟩
      have nC0 := none_of_same sm nC
      refine lc_list (K := K) (a := e0) (xs := irefs vs) (fun j H2 => Same H' H2 ∧ ∃ cs : IIs, H2 C = some (.lst (irefs cs)) ∧ cs.length = j ∧ IPs H2 cs (edge zs.length)) ⟨same_new nC, [], upd_same, rfl, .nil⟩ (fun j H2 _ ⟨s2, _⟩ => SqL.of (s2 _ _ (sm _ _ a2))) ?_ ?_
      · rintro j x H2 hx ⟨s2, cs, eC, lc, ic⟩
        obtain ⟨t, et, rfl⟩ := irefs_at hx
        have hj := (List.getElem?_eq_some_iff.mp et).1
        obtain ⟨h1, h2⟩ := a4.at_ t (List.mem_of_getElem? et)
        refine ⟨t.1, _, rfl, SqT.of (s2 _ _ (sm _ _ h1)), rfl, _, _, rfl, _, _, rfl, rfl, rfl, ?_⟩
        refine ⟨_, rfl, _, rfl, _, _, rfl, rfl, _, rfl, _, rfl, _, _, rfl, rfl, by show 2 ≤ sizeLine; decide, fun T2 nT2 => ?_⟩
        have sT2 := same_new (o := .tup [.int ((g : Nat) + t.2.1), .int ((g : Nat) + t.2.2)]) nT2
        obtain ⟨e1, e2, e3⟩ := edge_step (x := (g : Nat) + t.2.1) (y := (g : Nat) + t.2.2) eC ic (by unfold edge at h2 ⊢; omega) nT2
        exact ⟨_, e1, by rw [irefs_len]; exact room_str _ (by omega), upd_same' (s2.trans sT2) nC, _, e2, by rw [List.length_append, lc]; rfl, e3⟩
      rintro H2 ⟨s2, cs, eC, lc, ic⟩
      rw [irefs_len] at lc
      refine ⟨L, C, _, _, rfl, rfl, s2 _ _ eL, eC, by rw [irefs_len, irefs_len]; exact room_le _ (by omega), fun M nM => ?_⟩
      have sM := same_new (o := .lst (irefs es ++ irefs cs)) nM
      obtain ⟨eM, iM⟩ := edge_cat (ie.tu (Tu.of s2)) ic nM
      have sm2 := (sm.trans s2).trans sM
      -- the wishes
      refine ⟨_, rfl, (m : Int), rfl, by omega, by omega, for_range (lo := 0) (n := (m : Int).toNat) (fun j σ H3 => ∃ (kvs : List (Key × V)) (v10 : Option V), σ = [some (.ref p), some (.ref q), some (.ref u), some (.ref B0), some (.ref M), some (.ref D), some (.int (g : Nat)), some (.int (m : Int)), some (.ref e0), some (.ref w0), v10, none, none, none, none, none, none] ∧ Same H H3 ∧
          H3 B0 = some (.lst (zs.map V.str)) ∧ H3 M = some (.lst (irefs (es ++ cs))) ∧ IPs H3 (es ++ cs) (edge zs.length) ∧ H3 D = some (.dK kvs) ∧ kvs.length ≤ g + j ∧ ∀ (j' : Nat) (z : Str), j' < g + j → zs[j']? = some z → ∃ y, valV kvs (Sum.inr z) = some (V.str y) ∧ wishF y)
        ⟨kvs, v10, rfl, sm2, sM _ _ (s2 _ _ eB), eM, iM, sM _ _ (s2 _ _ eD), lk, hk⟩ ?_ ?_⟩
      · rintro j σ H3 hj ⟨kvs, v10, rfl, sm3, eB3, eM3, iM3, eD3, lk3, hk3⟩
        have hjw : j < ws.length := by omega
        have hjz : g + j < zs.length := by omega
        refine ⟨_, rfl, _, rfl, w0, _, _, .str ws[j], rfl, rfl, SqL.of (sm3 _ _ a5), by rw [Int.zero_add]; exact atI_nat (by rw [List.getElem?_map, List.getElem?_eq_getElem hjw]; rfl), ?_⟩
        refine ⟨_, rfl, _, rfl, _, rfl, _, rfl, _, _, rfl, rfl, B0, _, _, .str zs[g + j], rfl, rfl, SqL.of eB3, ?_, D, _, rfl, .inl ⟨kvs, .inr zs[g + j], eD3, rfl, room_str _ (by omega), rfl⟩, ?_⟩
        · have e : ((g : Nat) : Int) + (0 + (j : Int)) = ((g + j : Nat) : Int) := by omega
          rw [e]
          exact atI_nat (by rw [List.getElem?_map, List.getElem?_eq_getElem hjz]; rfl)
        have DB : B0 ≠ D := ne_of_none (sE _ _ upd_same) nD
        have MD : M ≠ D := by
          rintro rfl
          rw [eM3] at eD3
          cases eD3
        refine ⟨_, _, rfl, upd_same' sm3 nD0, by rw [upd_ne DB]; exact eB3, by rw [upd_ne MD]; exact eM3, iM3.tu (fun b xs h => by
          rw [upd_ne]
          · exact h
          · rintro rfl
            rw [eD3] at h
            cases h), upd_same, ?_, fun j' z hj' hz => ?_⟩
        · have := DSub.putK_len kvs (Sum.inr zs[g + j] : Key) (V.str ws[j])
          omega
        · rw [valV_put]
          by_cases e : (Sum.inr z : Key) = Sum.inr zs[g + j]
          · rw [if_pos e]
            exact ⟨ws[j], rfl, a7 _ (List.getElem_mem hjw)⟩
          · rw [if_neg e]
            refine hk3 j' z ?_ hz
            rcases Nat.lt_or_ge j' (g + j) with h | h
            · exact h
            · have : j' = g + j := by omega
              subst this
              rw [List.getElem?_eq_getElem hjz] at hz
              exact absurd (congrArg Sum.inr (Option.some.inj hz).symm) e
      · rintro σ H3 ⟨kvs, v10, rfl, sm3, eB3, eM3, iM3, eD3, lk3, hk3⟩
        have em : (m : Int).toNat = m := by omega
        rw [em] at lk3 hk3
        refine ⟨_, rfl, _, rfl, _, _, rfl, rfl, ?_⟩
        exact ⟨M, es ++ cs, kvs, _, _, _, _, congrArg (fun z => [some (V.ref p), some (.ref q), some (.ref u), some (.ref B0), some (.ref M), some (.ref D), some (.int z), some (.int (m : Int)), some (.ref e0), some (.ref w0), v10, none, none, none, none, none, none]) (by rw [hps]; omega), sm3, eB3, eM3, by rw [List.length_append]; omega, iM3, eD3, by rw [hps]; exact lk3, fun j' z hj' => hk3 j' z (by rw [hps] at hj'; exact hj')⟩
    rintro σ H1 ⟨L, es, kvs, v7, v8, v9, v10, rfl, sm, eB, eL, le, ie, eD, lk, hk⟩
    have lps : (prefs ps).length = ps.length := List.length_map ..
    rw [lps] at le lk hk ⊢
    rw [List.take_length] at lk hk ⊢
    have DB : B0 ≠ D := ne_of_none (sE _ _ upd_same) nD
    -- the stuck ones
    refine ⟨_, rfl, _, rfl, B0, _, rfl, .inl (SqL.of eB), ((tot ps : Nat) : Int), (zs.length : Int), by rw [List.length_map], ⟨by omega, by omega, by omega, by omega⟩, for_range (lo := ((tot ps : Nat) : Int)) (n := ((zs.length : Int) - ((tot ps : Nat) : Int)).toNat) (fun j σ H3 => ∃ (kvs : List (Key × V)) (v11 : Option V), σ = [some (.ref p), some (.ref q), some (.ref u), some (.ref B0), some (.ref L), some (.ref D), some (.int (tot ps : Nat)), v7, v8, v9, v10, v11, none, none, none, none, none] ∧ Same H H3 ∧
        H3 B0 = some (.lst (zs.map V.str)) ∧ H3 L = some (.lst (irefs es)) ∧ IPs H3 es (edge zs.length) ∧ H3 D = some (.dK kvs) ∧ kvs.length ≤ tot ps + j ∧ ∀ (j' : Nat) (z : Str), j' < tot ps + j → zs[j']? = some z → ∃ y, valV kvs (Sum.inr z) = some (V.str y) ∧ wish3 y ∧ (j' < tot ps → wishF y))
      ⟨kvs, none, rfl, sm, eB, eL, ie, eD, lk, fun j' z hj' hz => let ⟨y, e, wy⟩ := hk j' z hj' hz; ⟨y, e, wy.three, fun _ => wy⟩⟩ ?_ ?_⟩
    · rintro j σ H3 hj ⟨kvs, v11, rfl, sm3, eB3, eL3, iL3, eD3, lk3, hk3⟩
      have hjz : tot ps + j < zs.length := by omega
      refine ⟨_, rfl, _, rfl, _, rfl, B0, _, _, .str zs[tot ps + j], rfl, rfl, SqL.of eB3, ?_, D, _, rfl, .inl ⟨kvs, .inr zs[tot ps + j], eD3, rfl, room_str _ (by omega), rfl⟩, ?_⟩
      · have e : ((tot ps : Nat) : Int) + (j : Int) = ((tot ps + j : Nat) : Int) := by omega
        rw [e]
        exact atI_nat (by rw [List.getElem?_map, List.getElem?_eq_getElem hjz]; rfl)
      have LD : L ≠ D := by
        rintro rfl
        rw [eL3] at eD3
        cases eD3
      refine ⟨_, _, rfl, upd_same' sm3 nD0, by rw [upd_ne DB]; exact eB3, by rw [upd_ne LD]; exact eL3, iL3.tu (fun b xs h => by
        rw [upd_ne]
        · exact h
        · rintro rfl
          rw [eD3] at h
          cases h), upd_same, ?_, fun j' z hj' hz => ?_⟩
      · have := DSub.putK_len kvs (Sum.inr zs[tot ps + j] : Key) (V.str "stuck")
        omega
      · rw [valV_put]
        by_cases e : (Sum.inr z : Key) = Sum.inr zs[tot ps + j]
        · rw [if_pos e]
          refine ⟨"stuck", rfl, .inr (.inr rfl), fun q => ?_⟩
          obtain ⟨b1, b2⟩ := List.getElem?_eq_some_iff.mp hz
          have := (List.getElem_inj znd).mp (b2.trans (Sum.inr.inj e))
          omega
        · rw [if_neg e]
          refine hk3 j' z ?_ hz
          rcases Nat.lt_or_ge j' (tot ps + j) with h | h
          · exact h
          · have : j' = tot ps + j := by omega
            subst this
            rw [List.getElem?_eq_getElem hjz] at hz
            exact absurd (congrArg Sum.inr (Option.some.inj hz).symm) e
    rintro σ H3 ⟨kvs, v11, rfl, sm3, eB3, eL3, iL3, eD3, lk3, hk3⟩
    have en : tot ps + ((zs.length : Int) - ((tot ps : Nat) : Int)).toNat = zs.length := by omega
    rw [en] at lk3 hk3
    have told : ∀ z ∈ zs, ∃ y, valV kvs (Sum.inr z) = some (V.str y) ∧ wish3 y := fun z hz => by
      obtain ⟨j', hj', e⟩ := List.getElem_of_mem hz
      obtain ⟨y, e1, e2, _⟩ := hk3 j' z hj' (by rw [List.getElem?_eq_getElem hj', e])
      exact ⟨y, e1, e2⟩
    have told0 : ∃ z ∈ zs, ∃ y, valV kvs (Sum.inr z) = some (V.str y) ∧ wishF y := by
      have l0 : 0 < zs.length := by omega
      obtain ⟨y, e1, _, e3⟩ := hk3 0 zs[0] l0 (List.getElem?_eq_getElem l0)
      exact ⟨zs[0], List.getElem_mem l0, y, e1, e3 (by omega)⟩
    -- the named ties
    refine ⟨_, rfl, _, rfl, L, u, _, _, rfl, rfl, eL3, sm3 _ _ eu, by rw [irefs_len, irefs_len]; exact room_le _ (by omega), fun Z nZ => ?_⟩
    have sZ := same_new (o := .lst (irefs es ++ irefs us)) nZ
    obtain ⟨eZ, iZ⟩ := edge_cat iL3 (ipu.tu (Tu.of sm3)) nZ
    refine ⟨Z, rfl, ⟨_, SqL.of eZ⟩, fun C nC => ?_⟩
    have smZ := sm3.trans sZ
    have lZ : (es ++ us).length ≤ 3100 := by rw [List.length_append]; omega
    refine lc_list (K := K) (a := Z) (xs := irefs (es ++ us)) (fun j H2 => Same (upd H3 Z (.lst (irefs es ++ irefs us))) H2 ∧ ∃ qs : Qs, H2 C = some (.lst (qrefs qs)) ∧ qs.length = j ∧ QAt H2 qs ∧ ∀ x ∈ qs, x.2.1 ∈ zs ∧ x.2.2 ∈ zs ∧ sl x.2.1 x.2.2 = true) ⟨same_new nC, [], upd_same, rfl, fun x h => (nomatch h), fun x h => (nomatch h)⟩ (fun j H2 _ ⟨s2, _⟩ => SqL.of (s2 _ _ eZ)) ?_ ?_
    · rintro j x H2 hx ⟨s2, qs, eC, lc, qa, qin⟩
      obtain ⟨t, et, rfl⟩ := irefs_at hx
      have hj := (List.getElem?_eq_some_iff.mp et).1
      obtain ⟨h1, r1, r2, r3⟩ := iZ.at_ t (List.mem_of_getElem? et)
      obtain ⟨i1, e1⟩ := Int.eq_ofNat_of_zero_le r1
      obtain ⟨i2, e2⟩ := Int.eq_ofNat_of_zero_le (show 0 ≤ t.2.2 by omega)
      have b1 : i1 < zs.length := by omega
      have b2 : i2 < zs.length := by omega
      have xy : zs[i1] ≠ zs[i2] := fun e => by
        have := (List.getElem_inj znd).mp e
        omega
      have eB2 := s2 _ _ (sZ _ _ eB3)
      have at1 : atI (zs.map V.str) t.2.1 = some (V.str zs[i1]) := by rw [e1]; exact atI_nat (by rw [List.getElem?_map, List.getElem?_eq_getElem b1]; rfl)
      have at2 : atI (zs.map V.str) t.2.2 = some (V.str zs[i2]) := by rw [e2]; exact atI_nat (by rw [List.getElem?_map, List.getElem?_eq_getElem b2]; rfl)
      refine ⟨t.1, _, rfl, SqT.of (s2 _ _ h1), rfl, _, _, rfl, _, _, rfl, rfl, rfl, ?_⟩
      refine ⟨_, rfl, _, rfl, B0, _, _, _, rfl, rfl, SqL.of eB2, at1, _, rfl, _, rfl, B0, _, _, _, rfl, rfl, SqL.of eB2, at2, _, _, rfl, ?_⟩
      refine ⟨_, rfl, _, rfl, B0, _, _, _, rfl, rfl, SqL.of eB2, at1, _, rfl, _, rfl, B0, _, _, _, rfl, rfl, SqL.of eB2, at2, _, _, rfl, ?_⟩
      refine ⟨by show 2 ≤ sizeLine; decide, fun T2 nT2 => ?_⟩
      generalize hmn : (if sl zs[i2] zs[i1] = true then zs[i2] else zs[i1]) = mn at *
      generalize hmx : (if sl zs[i1] zs[i2] = true then zs[i2] else zs[i1]) = mx at *
      have fin : mn ∈ zs ∧ mx ∈ zs ∧ sl mn mx = true := by
        rcases sl_tot zs[i1] zs[i2] with h | h | h
        · rw [if_pos h] at hmx
          rw [ord_sl.asym h] at hmn
          rw [← hmn, ← hmx]
          exact ⟨List.getElem_mem b1, List.getElem_mem b2, h⟩
        · exact absurd h xy
        · rw [if_pos h] at hmn
          rw [ord_sl.asym h] at hmx
          rw [← hmn, ← hmx]
          exact ⟨List.getElem_mem b2, List.getElem_mem b1, h⟩
      have sT2 := same_new (o := .tup [.str mn, .str mx]) nT2
      have eC2 := sT2 _ _ eC
      refine ⟨_, eC2, by unfold qrefs; rw [List.length_map]; exact room_str _ (by omega), upd_same' (s2.trans sT2) nC, qs ++ [(T2, mn, mx)], ?_, by rw [List.length_append, lc]; rfl, ?_, fun x hx => ?_⟩
      · rw [upd_same]
        unfold qrefs
        rw [List.map_append]
        rfl
      · refine QAt.tu (fun x hx => ?_) (Tu.upd eC2)
        rcases List.mem_append.mp hx with hx | hx
        · exact sT2 _ _ (qa x hx)
        · rw [List.mem_singleton.mp hx]
          exact upd_same
      · rcases List.mem_append.mp hx with hx | hx
        · exact qin x hx
        · rw [List.mem_singleton.mp hx]
          exact fin
    rintro H4 ⟨s4, qs, eC, lq, qa, qin⟩
    rw [irefs_len] at lq
    have sm4 := smZ.trans s4
    have eB4 := s4 _ _ (sZ _ _ eB3)
    have eD4 := s4 _ _ (sZ _ _ eD3)
    -- the bulbs, sorted
    refine ⟨_, rfl, B0, zs, rfl, SqL.of eB4, by omega, fun bs B1 pm srt nB1 => ?_⟩
    have bnd : bs.Nodup := pm.nodup_iff.mpr znd
    have basc := asc_sortedS bnd srt
    have lb : bs.length = zs.length := pm.length_eq
    have sB1 := same_new (o := .lst (bs.map V.str)) nB1
    have sm5 := sm4.trans sB1
    -- the answer
    refine ⟨_, rfl, ?_⟩
    refine ⟨_, rfl, C, rfl, ⟨_, SqL.of (sB1 _ _ eC)⟩, fun G nG => ?_⟩
    have lqs : (qrefs qs).length = qs.length := List.length_map ..
    have qaB : QAt (upd H4 B1 (.lst (bs.map V.str))) qs := qa.tu (Tu.of sB1)
    refine lc_list (K := K) (a := C) (xs := qrefs qs) (fun j H2 => Same (upd H4 B1 (.lst (bs.map V.str))) H2 ∧ ∃ ts : List (Addr × Addr × Pr), H2 G = some (.lst (ts.map fun t => V.ref t.1)) ∧ ts.length = j ∧ (ts.map fun t => (t.2.1, t.2.2)) = qs.take j ∧ ∀ t ∈ ts, H2 t.1 = some (.tup [V.ref t.2.1, .bl true]) ∧ H2 t.2.1 = some (.tup [.str t.2.2.1, .str t.2.2.2])) ⟨same_new nG, [], upd_same, rfl, rfl, fun x h => (nomatch h)⟩ (fun j H2 _ ⟨s2, _⟩ => SqL.of (s2 _ _ (sB1 _ _ eC))) ?_ ?_
    · rintro j x H2 hx ⟨s2, ts, eG, lt, et, ht⟩
      unfold qrefs at hx
      rw [List.getElem?_map] at hx
      cases ex : qs[j]? with
      | none =>
        rw [ex] at hx
        cases hx
      | some q0 =>
      rw [ex] at hx
      cases hx
      have hj := (List.getElem?_eq_some_iff.mp ex).1
      have hq := s2 _ _ (qaB q0 (List.mem_of_getElem? ex))
      refine ⟨rfl, _, rfl, by show 2 ≤ sizeLine; decide, fun T2 nT2 => ?_⟩
      have sT2 := same_new (o := .tup [.ref q0.1, .bl true]) nT2
      have eG2 := sT2 _ _ eG
      have tu : Tu H2 _ := (Tu.of sT2).trans (Tu.upd (o := .lst ((ts.map fun t => V.ref t.1) ++ [V.ref T2])) eG2)
      refine ⟨_, eG2, by rw [List.length_map]; exact room_str _ (by omega), upd_same' (s2.trans sT2) nG, ts ++ [(T2, q0.1, q0.2)], ?_, by rw [List.length_append, lt]; rfl, ?_, fun t ht' => ?_⟩
      · rw [upd_same, List.map_append]
        rfl
      · rw [List.map_append, et, List.take_add_one, ex]
        rfl
      · rcases List.mem_append.mp ht' with ht' | ht'
        · exact ⟨tu _ _ (ht t ht').1, tu _ _ (ht t ht').2⟩
        · rw [List.mem_singleton.mp ht']
          exact ⟨Tu.upd eG2 _ _ upd_same, tu _ _ hq⟩
    rintro H6 ⟨s6, ts, eG, lt, et, ht⟩
    rw [lqs, List.take_length] at et
    refine ⟨G, ts, rfl, SqL.of eG, ht, fun dkv P1 ek nP1 => ?_⟩
    have sP1 := same_new (o := .dT dkv) nP1
    have e7 : (ts.map fun t => kP t.2.2) = (qs.map (·.2)).map kP := by
      rw [← et, List.map_map, List.map_map]
      rfl
    rw [e7, first_map kP kP_inj] at ek
    refine ⟨P1, dkv, _, rfl, upd_same, ek, fun rs P2 pr sr ha nP2 => ?_⟩
    have sP2 := same_new (o := .lst (rs.map fun q => V.ref q.1)) nP2
    have rnd : (rs.map (·.2)).Nodup := pr.nodup_iff.mpr (first_nodup _)
    have s8 := (s6.trans sP1).trans sP2
    have sm8 := sm5.trans s8
    have eB8 := s8 _ _ (upd_same (H := H4) (a := B1) (o := .lst (bs.map V.str)))
    have eD8 := s8 _ _ (sB1 _ _ eD4)
    -- the wishes, in order
    refine ⟨_, rfl, B1, rfl, ⟨_, SqL.of eB8⟩, fun W nW => ?_⟩
    refine lc_list (K := K) (a := B1) (xs := bs.map V.str) (fun j H2 => Same (upd (upd H6 P1 (.dT dkv)) P2 (.lst (rs.map fun q => V.ref q.1))) H2 ∧ ∃ us : List (Addr × Str), H2 W = some (.lst ((us.map (·.1)).map V.ref)) ∧ us.length = j ∧ us.map (·.2) = bs.take j ∧ ∀ u ∈ us, H2 u.1 = some (.tup [.str u.2, .str (wOf kvs u.2)])) ⟨same_new nW, [], upd_same, rfl, rfl, fun x h => (nomatch h)⟩ (fun j H2 _ ⟨s2, _⟩ => SqL.of (s2 _ _ eB8)) ?_ ?_
    · rintro j x H2 hx ⟨s2, us, eW, lu', eu', hus⟩
      rw [List.getElem?_map] at hx
      cases ex : bs[j]? with
      | none =>
        rw [ex] at hx
        cases hx
      | some z =>
      rw [ex] at hx
      cases hx
      have hj := (List.getElem?_eq_some_iff.mp ex).1
      obtain ⟨y, ey, wy⟩ := told z (pm.mem_iff.mp (List.mem_of_getElem? ex))
      refine ⟨rfl, _, rfl, _, rfl, _, rfl, D, .str y, rfl, .inl ⟨kvs, .inr z, .inl (s2 _ _ eD8), rfl, ey.symm⟩, by show 2 ≤ sizeLine; decide, fun T2 nT2 => ?_⟩
      have sT2 := same_new (o := .tup [.str z, .str y]) nT2
      have eW2 := sT2 _ _ eW
      refine ⟨_, eW2, by rw [List.length_map, List.length_map]; exact room_str _ (by omega), upd_same' (s2.trans sT2) nW, us ++ [(T2, z)], ?_, by rw [List.length_append, lu']; rfl, ?_, fun t ht' => ?_⟩
      · rw [upd_same, List.map_append, List.map_append]
        rfl
      · rw [List.map_append, eu', List.take_add_one, ex]
        rfl
      · refine Tu.upd eW2 _ _ ?_
        rcases List.mem_append.mp ht' with ht' | ht'
        · exact sT2 _ _ (hus t ht')
        · rw [List.mem_singleton.mp ht', upd_same, wOf_at ey]
    rintro H9 ⟨s9, us, eW, lu', eu', hus⟩
    rw [List.length_map, List.take_length] at eu'
    refine ⟨W, us.map (·.1), wtab (us.map (·.2)) (wOf kvs), rfl, SqL.of eW, paired_us hus, fun W2 nW2 => ?_⟩
    rw [eu', wtab_merge (wOf kvs) bnd]
    have sW2 := same_new (o := .dK (wtab bs (wOf kvs))) nW2
    refine ⟨by show 3 ≤ sizeLine; decide, fun R nR => ?_⟩
    have sR := same_new (o := .lst [.ref B1, .ref P2, .ref W2]) nR
    have s10 := (s9.trans sW2).trans sR
    have smf := sm8.trans s10
    refine kk R ⟨bs, rs.map (·.2), wOf kvs⟩ _ (none_of_same (sm8.trans (s9.trans sW2)) nR) ⟨⟨basc, fun z hz => zw z (pm.mem_iff.mp hz), by show 1 ≤ bs.length; omega, by show bs.length ≤ 10; omega, ?_, ?_, ?_, ?_⟩, B1, P2, W2, rs, upd_same, s10 _ _ eB8, s10 _ _ upd_same, rfl, ?_, sR _ _ upd_same⟩ lb smf
    · refine asc_of ord_pl rnd ?_
      rw [List.pairwise_map]
      exact sr
    · intro t ht'
      have z := (pr.mem_iff.mp ht')
      rw [first_mem] at z
      obtain ⟨x, hx, rfl⟩ := List.mem_map.mp z
      obtain ⟨h1, h2, h3⟩ := qin x hx
      exact ⟨pm.mem_iff.mpr h1, pm.mem_iff.mpr h2, h3⟩
    · intro z hz
      obtain ⟨y, ey, wy⟩ := told z (pm.mem_iff.mp hz)
      show wish3 (wOf kvs z)
      rw [wOf_at ey]
      exact wy
    · obtain ⟨z, hz, y, ey, wy⟩ := told0
      refine ⟨z, pm.mem_iff.mpr hz, ?_⟩
      show wishF (wOf kvs z)
      rw [wOf_at ey]
      exact wy
    · intro r hr'
      exact s10 _ _ (sP2 _ _ (ha r hr'))
end
end NK
/-! scenes, three parts -/
namespace NK
open PySem PySem.Spec PyProof.Rows L2 He K1
theorem purse_ne {H : Hp} {a b : Addr} {n : Int} {o : HO} (pu : Purse H a n) (e : H b = some o) (h : ∀ p s t c : Int, o ≠ .lst [.int p, .int s, .int t, .int c]) : b ≠ a := by
  rintro rfl
  obtain ⟨p, s, t, c, e1, _⟩ := pu
  rw [e] at e1
  exact h p s t c (Option.some.inj e1)
theorem strs_ne {H : Hp} {a b : Addr} {n : Int} {ws : List Str} (pu : Purse H a n) (e : H b = some (.lst (ws.map V.str))) : b ≠ a := purse_ne pu e fun p s t c q => by
  have z := HO.lst.inj q
  cases ws with
  | nil => cases z
  | cons x ws => cases z
theorem mrefs_ne {α : Type} {f : α → Addr} {H : Hp} {a b : Addr} {n : Int} {ws : List α} (pu : Purse H a n) (e : H b = some (.lst (ws.map fun t => V.ref (f t)))) : b ≠ a := purse_ne pu e fun p s t c q => by
  have z := HO.lst.inj q
  cases ws with
  | nil => cases z
  | cons x ws => cases z
theorem PartAt.but {H H' : Hp} {a p : Addr} {n : Int} {m : Nat} (pu : Purse H a n) (bt : But a H H') (h : PartAt H p m) : PartAt H' p m := by
  obtain ⟨e, w, us, ws, a1, a2, a3, a4, a5, a6⟩ := h.ex
  exact ⟨e, w, us, ws, bt _ _ (purse_ne pu a1 fun _ _ _ _ q => by cases q) a1, bt _ _ (irefs_ne pu a2) a2, a3, a4.tu (Tu.but pu bt), bt _ _ (strs_ne pu a5) a5, a6⟩
theorem PartAt.updL {H : Hp} {L p1 p : Addr} {xs : List V} {m : Nat} {o : HO} (eL : H L = some (.lst [.ref p1])) (e1 : H p1 = some (.lst xs)) (h : PartAt H p m) : PartAt (upd H L o) p m := by
  obtain ⟨e, w, us, ws, a1, a2, a3, a4, a5, a6⟩ := h.ex
  refine ⟨e, w, us, ws, ?_, ?_, a3, a4.tu (Tu.upd eL), ?_, a6⟩
  · rw [upd_ne]
    · exact a1
    · rintro rfl
      rw [eL] at a1
      cases a1
  · rw [upd_ne]
    · exact a2
    · rintro rfl
      rw [eL] at a2
      have z := HO.lst.inj (Option.some.inj a2)
      cases us with
      | nil => cases z
      | cons t us =>
        unfold irefs at z
        rw [List.map_cons] at z
        injection z with z _
        injection z with z
        have := (a4.at_ t List.mem_cons_self).1
        rw [← z, e1] at this
        cases this
  · rw [upd_ne]
    · exact a5
    · rintro rfl
      rw [eL] at a5
      have z := HO.lst.inj (Option.some.inj a5)
      cases ws with
      | nil => cases z
      | cons t us => cases z
/-- which list of edges a part has -/
def EdgeNe (H : Hp) (p L : Addr) : Prop := ∀ (x w : V) (e : Addr), H p = some (.lst [x, .ref e, w]) → e ≠ L
theorem PartAt.updP {H : Hp} {L p : Addr} {ps : List (Addr × Nat)} {m : Nat} {o : HO} (eL : H L = some (.lst (prefs ps))) (ne : EdgeNe H p L) (m1 : 1 ≤ m) (h : PartAt H p m) : PartAt (upd H L o) p m := by
  obtain ⟨e, w, us, ws, a1, a2, a3, a4, a5, a6, a7⟩ := h.ex
  refine ⟨e, w, us, ws, ?_, ?_, a3, a4.tu (Tu.upd eL), ?_, a6, a7⟩
  · rw [upd_ne]
    · exact a1
    · rintro rfl
      rw [eL] at a1
      have z := HO.lst.inj (Option.some.inj a1)
      cases ps with
      | nil => cases z
      | cons t us => cases z
  · rw [upd_ne (ne _ _ _ a1)]
    exact a2
  · rw [upd_ne]
    · exact a5
    · rintro rfl
      rw [eL] at a5
      have z := HO.lst.inj (Option.some.inj a5)
      cases ws with
      | nil =>
        rw [List.length_nil] at a6
        omega
      | cons t us =>
        cases ps with
        | nil => cases z
        | cons u ps => cases z
theorem head_inj {H : Hp} {p e w : Addr} {L : Addr} {x : V} (h : H p = some (.lst [x, .ref e, .ref w])) (n : e ≠ L) : EdgeNe H p L := fun x' w' e' q => by
  rw [h] at q
  cases q
  exact n
theorem NetAt.but {H H' : Hp} {a R : Addr} {n : Int} {N : NetD} (pu : Purse H a n) (bt : But a H H') (h : NetAt H R N) : NetAt H' R N := by
  obtain ⟨b, t, w, qs, a1, a2, a3, a4, a5, a6⟩ := h.ex
  exact ⟨h.ok, b, t, w, qs, bt _ _ (purse_ne pu a1 fun _ _ _ _ q => by cases q) a1, bt _ _ (strs_ne pu a2) a2, bt _ _ (mrefs_ne pu a3) a3, a4, a5.tu (Tu.but pu bt), bt _ _ (purse_ne pu a6 fun _ _ _ _ q => by cases q) a6⟩
theorem tot_sum (l : List (Addr × Nat)) : (l.map fun t => (t.2 : Int)).sum = (tot l : Nat) := by
  unfold tot
  induction l with
  | nil => rfl
  | cons x l ih =>
    rw [List.map_cons, List.sum_cons, ih, List.map_cons, List.sum_cons]
    omega
theorem PartAt.head {H : Hp} {p : Addr} {m : Nat} (h : PartAt H p m) : ∃ e w : Addr, H p = some (.lst [.int (m : Int), .ref e, .ref w]) := let ⟨e, w, _, _, a, _⟩ := h.ex; ⟨e, w, a⟩
section
variable {P : Program} {w : World} {K : PySem.W.Frag} {mg : Str → Option Value} {base : Heap}
def spScene : Sp := fun vs H Q _ => ∃ (a : Addr) (m : Nat) (n : Int), vs = [.ref a, .int (m : Int)] ∧ 1 ≤ m ∧ m ≤ 8 ∧ Purse H a n ∧ n ≤ 50000 ∧
  ∀ (R : Addr) (N : NetD) (H' : Hp), H R = none → NetAt H' R N → N.bs.length ≤ m + 2 → Purse H' a (n + 5000) → But a H H' → Q (.ref R) H'
theorem ok_scene {f : Addr} {fd : FuncData} (F : FnP K "_law_scene" s_l_scene f fd) (B : FreeN mg) (G__law_draw : Has P w K mg base 2 "_law_draw" ["_law_purse_here", "_law_many"] spDraw) (G__law_part : Has P w K mg base 5 "_law_part" ["_law_purse_here", "_law_many"] spAny) (G__law_net_of : Has P w K mg base 1 "_law_net_of" ["_law_words_here", "_law_parts", "_law_stuck"] spNetOf) (G__law_words : Has P w K mg base 4 "_law_words" ["_law_purse_here", "_law_many"] spWords) : FnOk P w K mg base CX0 6 f fd ["_law_purse_here", "_law_most"] spScene := by
  refine fnP_ok F sc_l_scene (fun vs H Q E h => ?_) (fun cdv A outer s H vs Q E hr h => ?_)
  · obtain ⟨a, m, n, rfl, _⟩ := h
    rfl
  · obtain ⟨a, m, n, rfl, m1, m8, pu, n1, kk⟩ := h
    have nd := sc_l_scene.nd
    refine ⟨_, (pss_cons (ps_set (i := 2) nd rfl (.inl rfl) (pe_lst (pa_cons (pe_has G__law_part (hr.mono (by decide)) (pa_cons (pv 0) (pa_cons (pe_op op_sub (pv 1) (pe_has G__law_draw (hr.mono (by decide)) (pa_cons (pv 0) (pa_cons (pe_callB (call_max2 rfl) (by rfl) B.max (by decide +kernel) (pa_cons pe_int (pa_cons (pe_op op_sub (pv 1) pe_int) pa_nil))) pa_nil)))) pa_nil))) pa_nil)))
      (pss_cons (ps_set (i := 3) nd rfl (.inl rfl) (pe_op op_sub (pv 1) (pe_ix (k_ixl (K := K) rfl) (pe_ix (k_ixl (K := K) rfl) (pv 2) pe_int (fun _ _ => rfl)) pe_int (fun _ _ => rfl))))
      (C8.pss_cut (ps_if (PW.pt (pw_and (pt_cmpR op_gt (pv 3) pe_int (nomark _)) (pw_and1 (pt_cmpR op_eq (pe_has G__law_draw (hr.mono (by decide)) (pa_cons (pv 0) (pa_cons pe_int pa_nil))) pe_int (nomark _))))) (pss_one (ps_expr (pe_bm PySem.F.plainAttrs_list PySem.F.slot_list_append PySem.F.type_list_append mt_append (pv 2) (pa_cons (pe_has G__law_part (hr.mono (by decide)) (pa_cons (pv 0) (pa_cons (pe_op op_add pe_int (pe_has G__law_draw (hr.mono (by decide)) (pa_cons (pv 0) (pa_cons (pv 3) pa_nil)))) pa_nil))) pa_nil)))) pss_nil)
      (pss_cons (ps_par (i := 4) (j := 5) rfl nd rfl rfl (by decide) rfl rfl (pa_cons (pe_callB (k_sum (K := K) rfl rfl) (by rfl) B.sum (by decide +kernel) (pa_cons (pe_lc (own := [("_law_part_here", 8)]) (g := gName 8) (tt := tYes) rfl nd (k_pil (K := K) rfl (pv 2)) (blkOk_by (N := nm_l_scene) (sc := defScope s_l_scene) (by decide +kernel)) (fun _ _ _ _ _ => (pg_name (i := 8) nd rfl (Or.inl rfl))) (fun _ _ _ _ _ => pts_nil) (fun _ _ _ _ _ => (pe_ix (k_ixl (K := K) rfl) (pv 8) pe_int (fun _ _ => rfl)))) pa_nil)) (pa_cons (pe_ix (k_ixl (K := K) rfl) (pe_lst (pa_cons pe_int (pa_cons pe_int (pa_cons pe_int (pa_cons pe_int pa_nil))))) (pe_has G__law_draw (hr.mono (by decide)) (pa_cons (pv 0) (pa_cons pe_int pa_nil))) (fun _ _ => rfl)) pa_nil)) rfl)
      (pss_cons (ps_set (i := 6) nd rfl (.inl rfl) (pe_lst pa_nil))
      (pss_cons (ps_for PassesOwn.never rfl (pi_range2 (by rfl) B.range (pa_cons (pv 4) (pa_cons (pe_op op_add (pv 4) (pv 5)) pa_nil))) (pg_name (i := 7) nd rfl (.inr rfl)) (pss_one (ps_set (i := 6) nd rfl (.inl rfl) (pe_op op_cat (pv 6) (pe_lc (own := [("_law_at", 9)]) (g := gName 9) rfl nd (pi_range1 (by rfl) B.range (pa_cons (pv 7) pa_nil)) (blkOk_by (N := nm_l_scene) (sc := defScope s_l_scene) (by decide +kernel)) (fun _ _ _ _ _ => (pg_name (i := 9) nd rfl (Or.inl rfl))) (fun _ _ _ _ _ => (pts_one (pt_cmpR op_eq (pe_has G__law_draw (hr.mono (by decide)) (pa_cons (pv 0) (pa_cons pe_int pa_nil))) pe_int (nomark _)))) (fun _ _ _ _ _ => (pe_tup (pa_cons (pv 9) (pa_cons (pv 7) pa_nil)))))))))
      (pss_one (ps_ret (pe_has G__law_net_of (hr.mono (by decide)) (pa_cons (pe_has G__law_words (hr.mono (by decide)) (pa_cons (pv 0) (pa_cons (pe_op op_add (pv 4) (pv 5)) pa_nil))) (pa_cons (pv 2) (pa_cons (pv 6) pa_nil)))))))))))), ?_⟩
    refine ⟨_, rfl, _, rfl, _, rfl, _, rfl, _, _, rfl, rfl, _, _, rfl, a, _, n, rfl, ?_, ?_, pu, by omega, fun r H1 r0 r1 pu1 bt1 => ?_⟩
    · split <;> omega
    · split <;> omega
    have hm1 : ∃ k : Nat, (m : Int) - r = k ∧ 1 ≤ k ∧ k ≤ m := by
      refine ⟨((m : Int) - r).toNat, ?_, ?_, ?_⟩ <;> split at r1 <;> omega
    obtain ⟨k, ek, k1, km⟩ := hm1
    refine ⟨_, _, rfl, rfl, a, k, n + 1, congrArg (fun z => [V.ref a, V.int z]) ek, k1, by omega, pu1, by omega, fun p H2 np pa _ pu2 bt2 => ⟨by show 1 ≤ sizeLine; decide, fun L nL => ?_⟩⟩
    have bt02 := bt1.trans bt2
    have La := pu2.ne_new nL
    have nL0 : H L = none := But.free bt02 pu2 nL
    have sL := same_new (o := .lst [.ref p]) nL
    obtain ⟨e0, w0, ep⟩ := pa.head
    refine ⟨_, rfl, _, rfl, L, _, 0, .ref p, rfl, rfl, SqL.of upd_same, rfl, p, _, 0, .int (k : Int), rfl, rfl, SqL.of (sL _ _ ep), rfl, _, _, rfl, rfl, ?_⟩
    refine ⟨fun σ' H4 => ∃ ps : List (Addr × Nat), σ' = [some (.ref a), some (.int (m : Int)), some (.ref L), some (.int ((m : Int) - (k : Int))), none, none, none, none, none, none] ∧ But a H H4 ∧ Purse H4 a (n + 2100) ∧ H4 L = some (.lst (prefs ps)) ∧ ps.length ≤ 2 ∧ (∀ t ∈ ps, PartAt H4 t.1 t.2) ∧ 1 ≤ tot ps ∧ tot ps ≤ m, ?_, ?_⟩
    · have no : ∀ H4, But a H2 H4 → Purse H4 a (n + 2100) → H4 L = some (.lst [.ref p]) → ∃ ps : List (Addr × Nat), [some (V.ref a), some (.int (m : Int)), some (.ref L), some (.int ((m : Int) - (k : Int))), none, none, none, none, none, none] = [some (.ref a), some (.int (m : Int)), some (.ref L), some (.int ((m : Int) - (k : Int))), none, none, none, none, none, none] ∧ But a H H4 ∧ Purse H4 a (n + 2100) ∧ H4 L = some (.lst (prefs ps)) ∧ ps.length ≤ 2 ∧ (∀ t ∈ ps, PartAt H4 t.1 t.2) ∧ 1 ≤ tot ps ∧ tot ps ≤ m := fun H4 bt pu4 eL => by
        refine ⟨[(p, k)], rfl, bt02.trans bt, pu4, eL, by show 1 ≤ 2; decide, fun t ht => ?_, by show 1 ≤ k + 0; omega, by show k + 0 ≤ m; omega⟩
        rw [List.mem_singleton.mp ht]
        exact pa.but pu2 bt
      refine ⟨_, rfl, _, _, rfl, rfl, _, rfl, ?_⟩
      refine ite2 (fun hp => ?_) (fun _ => ?_)
      · have hp' : (0 : Int) < (m : Int) - (k : Int) := of_decide_eq_true hp
        refine ⟨_, rfl, a, 3, _, rfl, by decide, by decide, pu2.same sL, by omega, fun r2 H3 _ _ pu3 bt3 => ⟨rfl, _, rfl, ?_⟩⟩
        have eL3 := bt3 L _ La upd_same
        have bt23 : But a H2 H3 := (But.of sL).trans bt3
        refine ite2 (fun _ => ?_) (fun _ => ?_)
        · refine ⟨_, rfl, .inl ⟨rfl, _, SqL.of eL3⟩, _, rfl, _, rfl, _, rfl, a, _, _, rfl, hp', by omega, pu3, by omega, fun r3 H4 r30 r31 pu4 bt4 => ?_⟩
          refine ⟨_, _, rfl, rfl, a, (1 + r3).toNat, _, ?_, by omega, by omega, pu4, by omega, fun p2 H5 np2 pa2 _ pu5 bt5 => ?_⟩
          · have : (((1 + r3).toNat : Nat) : Int) = 1 + r3 := by omega
            rw [this]
            rfl
          have eL5 := bt5 _ _ La (bt4 _ _ La eL3)
          have bt25 := (bt23.trans bt4).trans bt5
          refine ⟨L, _, _, rfl, rfl, eL5, by show 1 < sizeLine; decide, ?_⟩
          refine ⟨[(p, k), (p2, (1 + r3).toNat)], rfl, upd_but (bt02.trans bt25) nL0, (pu5.upd La).mono (by omega), upd_same, by show 2 ≤ 2; decide, fun t ht => ?_, ?_, ?_⟩
          · simp only [List.mem_cons, List.not_mem_nil, or_false] at ht
            rcases ht with rfl | rfl
            · exact pa.but pu2 (upd_but bt25 nL)
            · exact pa2.updL eL5 (bt25 _ _ (purse_ne pu2 ep fun _ _ _ _ q => by cases q) ep)
          · show 1 ≤ k + ((1 + r3).toNat + 0)
            omega
          · show k + ((1 + r3).toNat + 0) ≤ m
            omega
        · exact no H3 bt23 (pu3.mono (by omega)) eL3
      · exact no _ (But.of sL) ((pu2.same sL).mono (by omega)) upd_same
    · rintro σ' H4 ⟨ps, rfl, bt4, pu4, eL, lp, hp, t1, tm⟩
      refine ⟨_, rfl, L, rfl, ⟨_, SqL.of eL⟩, fun C nC => ?_⟩
      refine lc_list (K := K) (a := L) (xs := prefs ps) (fun j H5 => Same H4 H5 ∧ H5 C = some (.lst (((ps.take j).map fun t => (t.2 : Int)).map V.int))) ⟨same_new nC, upd_same⟩ (fun j H5 _ ⟨s5, _⟩ => SqL.of (s5 _ _ eL)) ?_ ?_
      · rintro j x H5 hx ⟨s5, eC⟩
        unfold prefs at hx
        rw [List.getElem?_map] at hx
        cases ex : ps[j]? with
        | none =>
          rw [ex] at hx
          cases hx
        | some t =>
        rw [ex] at hx
        cases hx
        have hj := (List.getElem?_eq_some_iff.mp ex).1
        obtain ⟨e1, w1, et⟩ := (hp t (List.mem_of_getElem? ex)).head
        refine ⟨rfl, _, rfl, t.1, _, 0, .int (t.2 : Int), rfl, rfl, SqL.of (s5 _ _ et), rfl, ?_⟩
        refine ⟨_, eC, by rw [List.length_map, List.length_map, List.length_take]; exact room_str _ (by omega), upd_same' s5 nC, ?_⟩
        rw [upd_same, List.take_add_one, ex, List.map_append, List.map_append]
        rfl
      rintro H5 ⟨s5, eC⟩
      rw [show (prefs ps).length = ps.length from List.length_map .., List.take_length] at eC
      refine ⟨C, _, rfl, SqL.of eC, ?_⟩
      rw [tot_sum]
      refine ⟨by show 4 ≤ sizeLine; decide, fun Z nZ => ?_⟩
      have sZ := same_new (o := .lst [.int 0, .int 0, .int 1, .int 2]) nZ
      have pu5 := (pu4.same s5).same sZ
      have Za := (pu4.same s5).ne_new nZ
      refine ⟨_, rfl, a, 4, _, rfl, by decide, by decide, pu5, by omega, fun r6 H6 r60 r61 pu6 bt6 => ?_⟩
      have pick : ∃ k : Nat, atI [V.int 0, .int 0, .int 1, .int 2] r6 = some (.int (k : Int)) ∧ k ≤ 2 := by
        rcases (show r6 = 0 ∨ r6 = 1 ∨ r6 = 2 ∨ r6 = 3 by omega) with rfl | rfl | rfl | rfl
        · exact ⟨0, rfl, by decide⟩
        · exact ⟨0, rfl, by decide⟩
        · exact ⟨1, rfl, by decide⟩
        · exact ⟨2, rfl, by decide⟩
      obtain ⟨kr, ekr, kr2⟩ := pick
      refine ⟨Z, _, r6, .int (kr : Int), rfl, rfl, SqL.of (bt6 _ _ Za upd_same), ekr, _, _, rfl, ?_⟩
      have bt46 : But a H4 H6 := ((But.of s5).trans (But.of sZ)).trans bt6
      refine ⟨by show 0 ≤ sizeLine; decide, fun S0 nS => ?_⟩
      have sS := same_new (o := .lst []) nS
      refine ⟨_, rfl, _, rfl, _, rfl, _, _, rfl, rfl, ((tot ps : Nat) : Int), ((tot ps : Nat) : Int) + (kr : Int), rfl, ⟨by omega, by omega, by omega, by omega⟩, for_range (lo := ((tot ps : Nat) : Int)) (n := ((((tot ps : Nat) : Int) + (kr : Int)) - ((tot ps : Nat) : Int)).toNat) (fun i σ H' => ∃ (v7 : Option V) (S : Addr) (us : IIs), σ = [some (.ref a), some (.int (m : Int)), some (.ref L), some (.int ((m : Int) - (k : Int))), some (.int (tot ps : Nat)), some (.int (kr : Int)), some (.ref S), v7, none, none] ∧ But a H4 H' ∧ Purse H' a (n + 2200 + 20 * i) ∧ H' S = some (.lst (irefs us)) ∧ us.length ≤ 20 * i ∧ IPs H' us (edge ((tot ps + kr : Nat) : Int)))
        ⟨none, S0, [], rfl, bt46.trans (But.of sS), (pu6.same sS).mono (by omega), upd_same, Nat.zero_le _, .nil⟩ ?_ ?_⟩
      · rintro i σ H' hi ⟨v7, S, us, rfl, bt, pu', eS, lu, ip⟩
        refine ⟨_, rfl, _, rfl, ((tot ps : Nat) : Int) + (i : Int), rfl, by omega, by omega, fun D nD => ?_⟩
        have Da := pu'.ne_new nD
        have nD4 : H4 D = none := But.free bt pu' nD
        refine lc_range (lo := 0) (n := (((tot ps : Nat) : Int) + (i : Int)).toNat) (fun j H7 => But a H' H7 ∧ Purse H7 a (n + 2200 + 20 * i + j) ∧ ∃ vs : IIs, H7 D = some (.lst (irefs vs)) ∧ vs.length ≤ j ∧ IPs H7 vs (edge ((tot ps + kr : Nat) : Int))) ⟨But.of (same_new nD), (pu'.upd Da).mono (by omega), [], upd_same, Nat.le_refl _, .nil⟩ ?_ ?_
        · rintro j H7 hj ⟨bt7, pu7, vs, eD, lv, iv⟩
          refine ⟨rfl, _, rfl, a, 3, _, rfl, by decide, by decide, pu7, by omega, fun r H8 _ _ pu8 bt8 => ⟨rfl, _, rfl, ?_⟩⟩
          have eD8 := bt8 D _ Da eD
          have iv8 := iv.tu (Tu.but pu7 bt8)
          refine ite2 (fun _ => ?_) (fun _ => ?_)
          · refine ⟨_, rfl, _, rfl, by show 2 ≤ sizeLine; decide, fun T nT => ?_⟩
            have sT := same_new (o := .tup [.int (0 + (j : Int)), .int (((tot ps : Nat) : Int) + (i : Int))]) nT
            obtain ⟨e1, e2, e3⟩ := edge_step (x := 0 + (j : Int)) (y := ((tot ps : Nat) : Int) + (i : Int)) eD8 iv8 (by unfold edge; omega) nT
            exact ⟨_, e1, by rw [irefs_len]; exact room_str _ (by omega), upd_but ((bt7.trans bt8).trans (But.of sT)) nD, ((pu8.same sT).upd Da).mono (by omega), _, e2, by rw [List.length_append]; simp; omega, e3⟩
          · exact ⟨bt7.trans bt8, pu8.mono (by omega), vs, eD8, by omega, iv8⟩
        · rintro H7 ⟨bt7, pu7, vs, eD, lv, iv⟩
          have eS7 := bt7 _ _ (irefs_ne pu' eS) eS
          refine ⟨S, D, _, _, rfl, rfl, eS7, eD, by rw [irefs_len, irefs_len]; exact room_le _ (by omega), fun M nM => ?_⟩
          have sM := same_new (o := .lst (irefs us ++ irefs vs)) nM
          obtain ⟨e1, e2⟩ := edge_cat (ip.tu (Tu.but pu' bt7)) iv nM
          exact ⟨_, M, us ++ vs, rfl, (bt.trans bt7).trans (But.of sM), (pu7.same sM).mono (by omega), e1, by rw [List.length_append]; omega, e2⟩
      · rintro σ H' ⟨v7, S, us, rfl, bt, pu', eS, lu, ip⟩
        refine ⟨_, rfl, _, rfl, _, rfl, _, _, rfl, rfl, a, tot ps + kr, _, congrArg (fun z => [V.ref a, V.int z]) (show ((tot ps : Nat) : Int) + (kr : Int) = ((tot ps + kr : Nat) : Int) by omega), by omega, pu', by omega, fun pz zs H9 lz znd zw npz ez pu9 bt9 => ?_⟩
        have bt49 := bt.trans bt9
        refine ⟨_, rfl, _, rfl, pz, L, S, zs, ps, us, rfl, ez, znd, zw, by omega, bt49 _ _ (mrefs_ne pu4 eL) eL, by omega, fun t ht => (hp t ht).but pu4 bt49, t1, by omega, bt9 _ _ (irefs_ne pu' eS) eS, by omega, by rw [lz]; exact ip.tu (Tu.but pu' bt9), fun R N Hf nR at_ lb sm => ?_⟩
        exact kk R N Hf (But.free (bt4.trans bt49) pu9 nR) at_ (by omega) ((pu9.same sm).mono (by omega)) ((bt4.trans bt49).trans (But.of sm))
def spThree : Sp := fun vs H Q _ => ∃ (a : Addr) (n : Int), vs = [.ref a] ∧ Purse H a n ∧ n ≤ 50000 ∧
  ∀ (R : Addr) (N : NetD) (H' : Hp), H R = none → NetAt H' R N → Purse H' a (n + 5000) → But a H H' → Q (.ref R) H'
end
end NK
/-! the program's checks of words, ties, wishes -/
namespace NK
open PySem PySem.Spec PyProof.Rows L2 He K1
theorem ifT {A B : Prop} (h : A) : if true = true then A else B := by rw [if_pos rfl]; exact h
theorem ifF {A B : Prop} (h : B) : if false = true then A else B := by rw [if_neg (by decide)]; exact h
theorem all_rep (n : Nat) : (List.replicate n true).all id = true := by
  rw [List.all_eq_true]
  intro x hx
  exact List.eq_of_mem_replicate hx
theorem rep_snoc (n : Nat) : (List.replicate n true).map V.bl ++ [V.bl true] = (List.replicate (n + 1) true).map V.bl := by
  rw [List.replicate_succ', List.map_append]
  rfl
theorem abc_has {c : Nat} (h0 : 97 ≤ c) (h1 : c ≤ 122) : c ∈ abc.cps.toList := by
  have h : ∀ c : Fin 123, 97 ≤ c.val → c.val ∈ abc.cps.toList := by decide +kernel
  exact h ⟨c, by omega⟩ h0
/-- what the top holds -/
structure TopG (K : PySem.W.Frag) (mg : Str → Option Value) (C W : Addr) : Prop where
  letters : ∃ u, mg "LETTERS" = some u ∧ RelV (.str abc) u
  most : ∃ u, mg "MOST_LETTERS" = some u ∧ RelV (.int 8) u
  net : mg "Net" = some (.ref C)
  wishes : mg "WISHES" = some (.ref W)
  tup : ∀ H : Hp, SqT K H W [.str "odd", .str "even", .str "stuck"]
section
variable {P : Program} {w : World} {K : PySem.W.Frag} {mg : Str → Option Value} {base : Heap} {C W : Addr}
/-- a def that says yes -/
def yes (Q : VK) (H : Hp) : Prop := ∀ H', Same H H' → Q (.bl true) H'
def spIsWord : Sp := fun vs H Q _ => ∃ z : Str, vs = [.str z] ∧ Word z ∧ yes Q H
theorem ok_is_word {f : Addr} {fd : FuncData} (F : FnP K "is_word" s_is_word f fd) (B : FreeN mg) (TG : TopG K mg C W) : FnOk P w K mg base CX0 1 f fd ["value"] spIsWord := by
  refine fnP_ok F sc_is_word (fun vs H Q E h => ?_) (fun cdv A outer s H vs Q E hr h => ?_)
  · obtain ⟨z, rfl, _⟩ := h
    rfl
  · obtain ⟨z, rfl, ⟨z1, z8, zc⟩, kk⟩ := h
    have nd := sc_is_word.nd
    refine ⟨_, (pss_one (ps_ret (pe_and (pe_callB (k_isi (K := K) rfl) (by rfl) B.isi (by decide +kernel) (pa_cons (pv 0) (pa_cons (pe_bltn (v := .ty "str") (by rfl) B.str (by decide +kernel) rfl) pa_nil))) (pe_and (pe_chain op_le op_le pe_int (pe_callB call_len_str (by rfl) B.len (by decide +kernel) (pa_cons (pv 0) pa_nil)) (C8.pe_gc rfl TG.most)) (pe_one (pe_callB (k_all (K := K) rfl rfl) (by rfl) B.all (by decide +kernel) (pa_cons (pe_lc (own := [("sign", 1)]) (g := gName 1) (tt := tYes) rfl nd (pi_str (pv 0)) (blkOk_by (N := nm_is_word) (sc := defScope s_is_word) (by decide +kernel)) (fun _ _ _ _ _ => (pg_name (i := 1) nd rfl (Or.inl rfl))) (fun _ _ _ _ _ => pts_nil) (fun _ _ _ _ _ => (pe_cmpR op_in_sign (pv 1) (C8.pe_gc rfl TG.letters) (by rfl)))) pa_nil))))))), ?_⟩
    refine ⟨_, rfl, _, _, _, _, true, rfl, .ty "str", .base (.str z), rfl, true, rfl, ifT ?_⟩
    refine ⟨_, rfl, z, rfl, room_le _ (by omega), _, _, rfl, rfl, _, rfl, ?_⟩
    rw [decide_eq_true (by omega : (1 : Int) ≤ (z.length : Int))]
    refine ifT ⟨_, _, rfl, rfl, ?_⟩
    refine ⟨true, congrArg V.bl (decide_eq_true (by omega)), ifT ?_⟩
    refine ⟨_, rfl, z, rfl, fun D nD => ?_⟩
    refine lc_it walk_str (fun i H' => Same H H' ∧ H' D = some (.lst ((List.replicate i true).map V.bl))) ⟨same_new nD, upd_same⟩ (fun _ _ _ _ => True.intro) ?_ ?_
    · rintro i x H1 H' hi ⟨sm, eD⟩ ⟨rfl, c, ec, rfl⟩
      have hc : c ∈ z.cps.toList := by
        rw [← Array.getElem?_toList] at ec
        exact List.mem_of_getElem? ec
      obtain ⟨c0, c1⟩ := zc c hc
      have hz : z.cps.size ≤ 8 := z8
      refine ⟨rfl, _, rfl, c, abc, rfl, rfl, _, eD, by rw [List.length_map, List.length_replicate]; exact room_str _ (by omega), upd_same' sm nD, ?_⟩
      rw [upd_same, decide_eq_true (abc_has c0 c1), rep_snoc]
    · rintro H' ⟨sm, eD⟩
      refine ⟨D, _, rfl, SqL.of eD, ?_⟩
      rw [all_rep]
      exact kk H' sm
def spAreWords : Sp := fun vs H Q _ => ∃ (p : Addr) (zs : List Str), vs = [.ref p] ∧ H p = some (.lst (zs.map V.str)) ∧ zs.length ≤ 1000 ∧ (∀ z ∈ zs, Word z) ∧ yes Q H
theorem ok_are_words {f : Addr} {fd : FuncData} (F : FnP K "are_words" s_are_words f fd) (B : FreeN mg) (G_is_word : Has P w K mg base 1 "is_word" ["value"] spIsWord) : FnOk P w K mg base CX0 2 f fd ["value"] spAreWords := by
  refine fnP_ok F sc_are_words (fun vs H Q E h => ?_) (fun cdv A outer s H vs Q E hr h => ?_)
  · obtain ⟨p, zs, rfl, _⟩ := h
    rfl
  · obtain ⟨p, zs, rfl, ep, lz, zw, kk⟩ := h
    have nd := sc_are_words.nd
    refine ⟨_, (pss_one (ps_ret (pe_and (pe_callB (k_isi (K := K) rfl) (by rfl) B.isi (by decide +kernel) (pa_cons (pv 0) (pa_cons (pe_bltn (v := .ty "list") (by rfl) B.list (by decide +kernel) rfl) pa_nil))) (pe_one (pe_callB (k_all (K := K) rfl rfl) (by rfl) B.all (by decide +kernel) (pa_cons (pe_lc (own := [("word", 1)]) (g := gName 1) (tt := tYes) rfl nd (k_pil (K := K) rfl (pv 0)) (blkOk_by (N := nm_are_words) (sc := defScope s_are_words) (by decide +kernel)) (fun _ _ _ _ _ => (pg_name (i := 1) nd rfl (Or.inl rfl))) (fun _ _ _ _ _ => pts_nil) (fun _ _ _ _ _ => (pe_has G_is_word (hr.mono (by decide)) (pa_cons (pv 1) pa_nil)))) pa_nil)))))), ?_⟩
    refine ⟨_, rfl, _, _, _, _, true, rfl, .ty "list", .base (.lst ep), rfl, true, rfl, ifT ?_⟩
    refine ⟨_, rfl, p, rfl, ⟨_, SqL.of ep⟩, fun D nD => ?_⟩
    refine lc_list (K := K) (a := p) (xs := zs.map V.str) (fun i H' => Same H H' ∧ H' D = some (.lst ((List.replicate i true).map V.bl))) ⟨same_new nD, upd_same⟩ (fun i H' _ ⟨sm, _⟩ => SqL.of (sm _ _ ep)) ?_ ?_
    · rintro i x H' hx ⟨sm, eD⟩
      rw [List.getElem?_map] at hx
      cases ex : zs[i]? with
      | none =>
        rw [ex] at hx
        cases hx
      | some z =>
      rw [ex] at hx
      cases hx
      have hi := (List.getElem?_eq_some_iff.mp ex).1
      refine ⟨rfl, _, rfl, z, rfl, zw z (List.mem_of_getElem? ex), fun H2 s2 => ?_⟩
      refine ⟨_, s2 _ _ eD, by rw [List.length_map, List.length_replicate]; exact room_str _ (by omega), upd_same' (sm.trans s2) nD, ?_⟩
      rw [upd_same, rep_snoc]
    · rintro H' ⟨sm, eD⟩
      refine ⟨D, _, rfl, SqL.of eD, ?_⟩
      rw [all_rep]
      exact kk H' sm
theorem un_nodup_len {κ : Type} [DecidableEq κ] (ks : List κ) (nd : ks.Nodup) : un ks ks.length = ks.length := un_nodup nd _ (Nat.le_refl _)
/-- a list of texts or of pairs of texts, all unlike -/
def Unlike (H : Hp) (p : Addr) : Prop := (∃ zs : List Str, H p = some (.lst (zs.map V.str)) ∧ zs.length < 1000 ∧ zs.Nodup) ∨ ∃ qs : Qs, H p = some (.lst (qrefs qs)) ∧ qs.length < 64 ∧ QAt H qs ∧ (qs.map (·.2)).Nodup
def spUnlike : Sp := fun vs H Q _ => ∃ p : Addr, vs = [.ref p] ∧ Unlike H p ∧ yes Q H
theorem ok_unlike {f : Addr} {fd : FuncData} (F : FnP K "are_unlike" s_are_unlike f fd) (B : FreeN mg) : FnOk P w K mg base CX0 1 f fd ["values"] spUnlike := by
  refine fnP_ok F sc_are_unlike (fun vs H Q E h => ?_) (fun cdv A outer s H vs Q E hr h => ?_)
  · obtain ⟨p, rfl, _⟩ := h
    rfl
  · obtain ⟨p, rfl, hu', kk⟩ := h
    have nd := sc_are_unlike.nd
    have hu := hr.units
    refine ⟨_, (pss_one (ps_ret (pe_cmpR op_eq (pe_callB call_lenSz (by rfl) B.len (by decide +kernel) (pa_cons (pe_callTy (k_set (K := K) rfl rfl hu) (by rfl) B.set (by decide +kernel) (pa_cons (pv 0) pa_nil)) pa_nil)) (pe_callB (k_len (K := K) rfl) (by rfl) B.len (by decide +kernel) (pa_cons (pv 0) pa_nil)) (nomark _)))), ?_⟩
    have go : ∀ (xs : List V) (n : Nat), H p = some (.lst xs) → xs.length = n → n < 1000 → Told K H xs n → (tOp rEq (tCB (fun xs H Q => ∃ (a : Addr) (n : Nat), xs = [V.ref a] ∧ H a = some (SzO a n) ∧ n < 1000000 ∧ Q (.int (n : Nat)) H) (tCons (tCB (rSetU K) (tCons (tVar 0) tNil)) tNil)) (tCB (rLenSeq K) (tCons (tVar 0) tNil))) [some (.ref p)] H Q := fun xs n ep ln nl told => by
      refine ⟨_, rfl, p, xs, n, rfl, SqL.of ep, told, fun a na => ?_⟩
      have sa := same_new (o := SzO a n) na
      refine ⟨a, n, rfl, upd_same, by omega, _, rfl, p, xs, rfl, .inl (SqL.of (sa _ _ ep)), ?_⟩
      rw [ln]
      refine ⟨by simp [scal], ?_⟩
      rw [decide_eq_true rfl]
      exact kk _ sa
    rcases hu' with ⟨zs, ep, lz, znd⟩ | ⟨qs, ep, lq, qa, qnd⟩
    · refine go _ zs.length ep (List.length_map ..) lz ?_
      have z := Told.keys (K := K) (H := H) (zs.map fun x => (Sum.inr x : Key)) (by rw [List.length_map]; exact lz)
      rw [un_nodup_len _ (inr_nodup znd), List.length_map, List.map_map] at z
      exact z
    · refine go _ qs.length ep (List.length_map ..) (by omega) ?_
      have z := Told.tups (K := K) (H := H) (qs.map fun q => (q.1, kP q.2)) (fun q hq => by
        obtain ⟨q0, h0, rfl⟩ := List.mem_map.mp hq
        exact SqT.of (qa q0 h0)) (by rw [List.length_map]; exact lq)
      have e1 : ((qs.map fun q => (q.1, kP q.2)).map (·.2)) = (qs.map (·.2)).map kP := by
        rw [List.map_map, List.map_map]
        rfl
      have n1 : ((qs.map (·.2)).map kP).Nodup := by
        unfold List.Nodup at qnd ⊢
        rw [List.pairwise_map]
        exact qnd.imp fun {a b} h e => h (kP_inj e)
      rw [e1] at z
      have l1 : (qs.map fun q => (q.1, kP q.2)).length = ((qs.map (·.2)).map kP).length := by simp only [List.length_map]
      rw [l1, un_nodup_len _ n1, List.map_map] at z
      have l2 : ((qs.map (·.2)).map kP).length = qs.length := by simp only [List.length_map]
      rw [l2] at z
      exact z
/-- a table's keys, as texts -/
def Keyed (H : Hp) (d : Addr) (zs : List Str) : Prop := ∃ kvs : List (Key × V), H d = some (.dK kvs) ∧ kvs.map (·.1) = zs.map fun z => (Sum.inr z : Key)
theorem valV_key {kvs : List (Key × V)} {k : Key} (h : k ∈ kvs.map (·.1)) : (valV kvs k).isSome = true := by
  induction kvs with
  | nil => nomatch h
  | cons p r ih =>
    by_cases e : p.1 = k
    · rw [valV_pos e]
      rfl
    · rw [valV_neg e]
      rcases List.mem_cons.mp h with h | h
      · exact absurd h.symm e
      · exact ih h
theorem Keyed.at {H : Hp} {d : Addr} {zs : List Str} {z : Str} (k : Keyed H d zs) (h : z ∈ zs) : ∃ o, DGet H d (.str z) o ∧ o.isSome = true := by
  obtain ⟨kvs, e, ek⟩ := k
  refine ⟨_, .inl ⟨kvs, .inr z, .inl e, rfl, rfl⟩, valV_key ?_⟩
  rw [ek]
  exact List.mem_map.mpr ⟨z, h, rfl⟩
theorem Keyed.same {H H' : Hp} {d : Addr} {zs : List Str} (s : Same H H') (k : Keyed H d zs) : Keyed H' d zs := let ⟨kvs, e, ek⟩ := k; ⟨kvs, s _ _ e, ek⟩
def spIsTie : Sp := fun vs H Q _ => ∃ (t d : Addr) (x y : Str) (zs : List Str), vs = [.ref d, .ref t] ∧ H t = some (.tup [.str x, .str y]) ∧ Keyed H d zs ∧ x ∈ zs ∧ y ∈ zs ∧ sl x y = true ∧ yes Q H
theorem ok_is_tie {f : Addr} {fd : FuncData} (F : FnP K "is_tie" s_is_tie f fd) (B : FreeN mg) : FnOk P w K mg base CX0 1 f fd ["near", "value"] spIsTie := by
  refine fnP_ok F sc_is_tie (fun vs H Q E h => ?_) (fun cdv A outer s H vs Q E hr h => ?_)
  · obtain ⟨t, d, x, y, zs, rfl, _⟩ := h
    rfl
  · obtain ⟨t, d, x, y, zs, rfl, et, kd, hx, hy, xy, kk⟩ := h
    have nd := sc_is_tie.nd
    have hu1 := room1 hr
    refine ⟨_, (pss_one (ps_ret (pe_and (pe_callB (k_isi (K := K) rfl) (by rfl) B.isi (by decide +kernel) (pa_cons (pv 1) (pa_cons (pe_bltn (v := .ty "tuple") (by rfl) B.tuple (by decide +kernel) rfl) pa_nil))) (pe_and (pe_cmpR op_eq (pe_callB (k_len (K := K) rfl) (by rfl) B.len (by decide +kernel) (pa_cons (pv 1) pa_nil)) pe_int (nomark _)) (pe_and (pe_callB (k_all (K := K) rfl rfl) (by rfl) B.all (by decide +kernel) (pa_cons (pe_lc (own := [("lamp", 2)]) (g := gName 2) (tt := tYes) rfl nd (pi_tup (pv 1)) (blkOk_by (N := nm_is_tie) (sc := defScope s_is_tie) (by decide +kernel)) (fun _ _ _ _ _ => (pg_name (i := 2) nd rfl (Or.inl rfl))) (fun _ _ _ _ _ => pts_nil) (fun _ _ _ _ _ => (pe_and (pe_callB (k_isi (K := K) rfl) (by rfl) B.isi (by decide +kernel) (pa_cons (pv 2) (pa_cons (pe_bltn (v := .ty "str") (by rfl) B.str (by decide +kernel) rfl) pa_nil))) (pe_one (pe_cmp (pc_din hu1 (pv 2) (pv 0)) rfl))))) pa_nil)) (pe_one (pe_cmpR op_lt_str (pe_ix (k_ixt (K := K) rfl) (pv 1) pe_int (fun _ _ => rfl)) (pe_ix (k_ixt (K := K) rfl) (pv 1) pe_int (fun _ _ => rfl)) (nomark _)))))))), ?_⟩
    refine ⟨_, rfl, _, _, _, _, true, rfl, .ty "tuple", .base (.tup et), rfl, true, rfl, ifT ?_⟩
    refine ⟨_, rfl, t, _, rfl, .inr (SqT.of et), rfl, true, congrArg V.bl (decide_eq_true rfl), ifT ?_⟩
    refine ⟨_, rfl, t, rfl, ⟨_, SqT.of et⟩, fun D nD => ?_⟩
    refine lc_tup (K := K) (a := t) (xs := [x, y].map V.str) (fun i H' => Same H H' ∧ H' D = some (.lst ((List.replicate i true).map V.bl))) ⟨same_new nD, upd_same⟩ (fun i H' _ ⟨sm, _⟩ => SqT.of (sm _ _ et)) ?_ ?_
    · rintro i z0 H' hz ⟨sm, eD⟩
      rw [List.getElem?_map] at hz
      cases ex : [x, y][i]? with
      | none =>
        rw [ex] at hz
        cases hz
      | some z =>
      rw [ex] at hz
      cases hz
      have hi : i < 2 := (List.getElem?_eq_some_iff.mp ex).1
      have hm : z ∈ zs := by
        have := List.mem_of_getElem? ex
        simp only [List.mem_cons, List.not_mem_nil, or_false] at this
        rcases this with rfl | rfl
        · exact hx
        · exact hy
      obtain ⟨o, g, eo⟩ := (kd.same sm).at hm
      refine ⟨rfl, _, rfl, _, _, _, _, true, rfl, .ty "str", .base (.str z), rfl, true, rfl, ifT ?_⟩
      refine ⟨_, rfl, _, rfl, d, o, rfl, g, _, eD, by rw [List.length_map, List.length_replicate]; exact room_str _ (by omega), upd_same' sm nD, ?_⟩
      rw [upd_same, eo, rep_snoc]
    · rintro H' ⟨sm, eD⟩
      refine ⟨D, _, rfl, SqL.of eD, true, congrArg V.bl (all_rep _), ifT ?_⟩
      refine ⟨_, rfl, t, _, 0, .str x, rfl, rfl, SqT.of (sm _ _ et), rfl, _, rfl, t, _, 1, .str y, rfl, rfl, SqT.of (sm _ _ et), rfl, x, y, rfl, rfl, ?_⟩
      have e : decide (x.cps.toList < y.cps.toList) = true := xy
      rw [e]
      exact kk H' sm
/-- ties: pairs of those, the lower first, all unlike -/
structure TiesAt (H : Hp) (p : Addr) (zs : List Str) (qs : Qs) : Prop where
  at_ : H p = some (.lst (qrefs qs))
  few : qs.length < 64
  qa : QAt H qs
  nd : (qs.map (·.2)).Nodup
  mem : ∀ q ∈ qs, q.2.1 ∈ zs ∧ q.2.2 ∈ zs ∧ sl q.2.1 q.2.2 = true
theorem TiesAt.same {H H' : Hp} {p : Addr} {zs : List Str} {qs : Qs} (s : Same H H') (t : TiesAt H p zs qs) : TiesAt H' p zs qs := ⟨s _ _ t.at_, t.few, t.qa.tu (Tu.of s), t.nd, t.mem⟩
def spAreTies : Sp := fun vs H Q _ => ∃ (p d : Addr) (zs : List Str) (qs : Qs), vs = [.ref p, .ref d] ∧ TiesAt H p zs qs ∧ Keyed H d zs ∧ yes Q H
theorem ok_are_ties {f : Addr} {fd : FuncData} (F : FnP K "_are_ties" s_are_ties f fd) (B : FreeN mg) (G_is_tie : Has P w K mg base 1 "is_tie" ["near", "value"] spIsTie) (G_are_unlike : Has P w K mg base 1 "are_unlike" ["values"] spUnlike) : FnOk P w K mg base CX0 2 f fd ["value", "near"] spAreTies := by
  refine fnP_ok F sc_are_ties (fun vs H Q E h => ?_) (fun cdv A outer s H vs Q E hr h => ?_)
  · obtain ⟨p, d, zs, qs, rfl, _⟩ := h
    rfl
  · obtain ⟨p, d, zs, qs, rfl, T, kd, kk⟩ := h
    have nd := sc_are_ties.nd
    refine ⟨_, (pss_one (ps_ret (pe_and (pe_callB (k_isi (K := K) rfl) (by rfl) B.isi (by decide +kernel) (pa_cons (pv 0) (pa_cons (pe_bltn (v := .ty "list") (by rfl) B.list (by decide +kernel) rfl) pa_nil))) (pe_and (pe_callB (k_all (K := K) rfl rfl) (by rfl) B.all (by decide +kernel) (pa_cons (pe_lc (own := [("tie", 2)]) (g := gName 2) (tt := tYes) rfl nd (k_pil (K := K) rfl (pv 0)) (blkOk_by (N := nm_are_ties) (sc := defScope s_are_ties) (by decide +kernel)) (fun _ _ _ _ _ => (pg_name (i := 2) nd rfl (Or.inl rfl))) (fun _ _ _ _ _ => pts_nil) (fun _ _ _ _ _ => (pe_has G_is_tie (hr.mono (by decide)) (pa_cons (pv 1) (pa_cons (pv 2) pa_nil))))) pa_nil)) (pe_one (pe_has G_are_unlike (hr.mono (by decide)) (pa_cons (pv 0) pa_nil))))))), ?_⟩
    refine ⟨_, rfl, _, _, _, _, true, rfl, .ty "list", .base (.lst T.at_), rfl, true, rfl, ifT ?_⟩
    refine ⟨_, rfl, p, rfl, ⟨_, SqL.of T.at_⟩, fun D nD => ?_⟩
    refine lc_list (K := K) (a := p) (xs := qrefs qs) (fun i H' => Same H H' ∧ H' D = some (.lst ((List.replicate i true).map V.bl))) ⟨same_new nD, upd_same⟩ (fun i H' _ ⟨sm, _⟩ => SqL.of (sm _ _ T.at_)) ?_ ?_
    · rintro i z0 H' hz ⟨sm, eD⟩
      unfold qrefs at hz
      rw [List.getElem?_map] at hz
      cases ex : qs[i]? with
      | none =>
        rw [ex] at hz
        cases hz
      | some q =>
      rw [ex] at hz
      cases hz
      have hi := (List.getElem?_eq_some_iff.mp ex).1
      have few := T.few
      have hm := List.mem_of_getElem? ex
      obtain ⟨h1, h2, h3⟩ := T.mem q hm
      refine ⟨rfl, _, rfl, _, rfl, q.1, d, _, _, zs, rfl, sm _ _ (T.qa q hm), kd.same sm, h1, h2, h3, fun H2 s2 => ?_⟩
      refine ⟨_, s2 _ _ eD, by rw [List.length_map, List.length_replicate]; exact room_str _ (by omega), upd_same' (sm.trans s2) nD, ?_⟩
      rw [upd_same, rep_snoc]
    · rintro H' ⟨sm, eD⟩
      refine ⟨D, _, rfl, SqL.of eD, true, congrArg V.bl (all_rep _), ifT ?_⟩
      exact ⟨_, rfl, p, rfl, .inr ⟨qs, sm _ _ T.at_, T.few, T.qa.tu (Tu.of sm), T.nd⟩, fun H2 s2 => kk H2 (sm.trans s2)⟩
theorem same_unlock {H H' : Hp} {d : Addr} {u f : HO} (e : H d = some u) (s : Same (upd H d f) H') : Same H (upd H' d u) := fun b o q => by
  by_cases h : b = d
  · subst h
    rw [upd_same]
    rw [e] at q
    exact q
  · rw [upd_ne h]
    refine s _ _ ?_
    rw [upd_ne h]
    exact q
/-- a table of wishes for all of those -/
structure WishAt (H : Hp) (w : Addr) (zs : List Str) (kvs : List (Key × V)) : Prop where
  at_ : H w = some (.dK kvs)
  len : kvs.length = zs.length
  told : ∀ z ∈ zs, ∃ y, valV kvs (Sum.inr z) = some (V.str y) ∧ wish3 y
theorem WishAt.same {H H' : Hp} {w : Addr} {zs : List Str} {kvs : List (Key × V)} (s : Same H H') (t : WishAt H w zs kvs) : WishAt H' w zs kvs := ⟨s _ _ t.at_, t.len, t.told⟩
theorem in_wishes {y : Str} (h : wish3 y) : inV (.str y) [.str "odd", .str "even", .str "stuck"] = true := by
  rcases h with rfl | rfl | rfl <;> rfl
def spAreWishes : Sp := fun vs H Q _ => ∃ (p d : Addr) (zs : List Str) (kvs : List (Key × V)), vs = [.ref p, .ref d] ∧ WishAt H p zs kvs ∧ zs.length ≤ 1000 ∧ Keyed H d zs ∧ p ≠ d ∧ yes Q H
theorem ok_are_wishes {f : Addr} {fd : FuncData} (F : FnP K "_are_wishes" s_are_wishes f fd) (B : FreeN mg) (TG : TopG K mg C W) : FnOk P w K mg base CX0 1 f fd ["value", "near"] spAreWishes := by
  refine fnP_ok F sc_are_wishes (fun vs H Q E h => ?_) (fun cdv A outer s H vs Q E hr h => ?_)
  · obtain ⟨p, d, zs, kvs, rfl, _⟩ := h
    rfl
  · obtain ⟨p, d, zs, kvs, rfl, T, lz, ⟨kd, ed, ek⟩, pd, kk⟩ := h
    have nd := sc_are_wishes.nd
    have hu1 := room1 hr
    refine ⟨_, (pss_one (ps_ret (pe_and (pe_callB (k_isi (K := K) rfl) (by rfl) B.isi (by decide +kernel) (pa_cons (pv 0) (pa_cons (pe_bltn (v := .ty "dict") (by rfl) B.dict (by decide +kernel) rfl) pa_nil))) (pe_and (pe_cmpR op_eq (pe_callB call_lenD (by rfl) B.len (by decide +kernel) (pa_cons (pv 0) pa_nil)) (pe_callB call_lenD (by rfl) B.len (by decide +kernel) (pa_cons (pv 1) pa_nil)) (nomark _)) (pe_one (pe_callB (k_all (K := K) rfl rfl) (by rfl) B.all (by decide +kernel) (pa_cons (pe_lock (pe_lc (own := [("lamp", 2)]) (g := gName 2) (tt := tYes) rfl nd (pi_keys (pv 1)) (blkOk_by (N := nm_are_wishes) (sc := defScope s_are_wishes) (by decide +kernel)) (fun _ _ _ _ _ => (pg_name (i := 2) nd rfl (Or.inl rfl))) (fun _ _ _ _ _ => pts_nil) (fun _ _ _ _ _ => (pe_and (pe_cmp (pc_din hu1 (pv 2) (pv 0)) rfl) (pe_one (pe_cmpR (k_in (K := K) rfl) (pe_dget hu1 (pv 0) (pv 2) (fun _ _ => rfl)) (pe_glob (v := .ref W) rfl TG.wishes rfl) (by rfl))))))) pa_nil))))))), ?_⟩
    have lkd : kd.length = zs.length := by
      have := congrArg List.length ek
      rw [List.length_map, List.length_map] at this
      exact this
    refine ⟨_, rfl, _, _, _, _, true, rfl, .ty "dict", .base (.dK T.at_), rfl, true, rfl, ifT ?_⟩
    refine ⟨_, rfl, p, _, rfl, T.at_, _, rfl, d, _, rfl, ed, by simp [scal], true, ?_, ifT ?_⟩
    · rw [T.len, lkd]
      exact congrArg V.bl (decide_eq_true rfl)
    refine ⟨d, _, ed, True.intro, fun od => ?_⟩
    have ep1 : upd H d (.frz od (.dK kd)) p = some (.dK kvs) := by rw [upd_ne pd]; exact T.at_
    refine ⟨_, rfl, d, od, rfl, .inl ⟨kd, upd_same, fun D nD => ?_⟩⟩
    refine lc_it walk_keys (fun i H' => Same (upd H d (.frz od (.dK kd))) H' ∧ H' D = some (.lst ((List.replicate i true).map V.bl))) ⟨same_new nD, upd_same⟩ (fun i H' _ h => h.1 _ _ upd_same) ?_ ?_
    · rintro i x H1 H' hi ⟨sm, eD⟩ ⟨rfl, k, v, ex, rfl⟩
      have hk : k ∈ kd.map (·.1) := List.mem_map.mpr ⟨_, List.mem_of_getElem? ex, rfl⟩
      rw [ek] at hk
      obtain ⟨z, hz, rfl⟩ := List.mem_map.mp hk
      obtain ⟨y, ey, hy⟩ := T.told z hz
      have g : ∀ o, valV kvs (Sum.inr z) = o → DGet H' p (.str z) o := fun o e => .inl ⟨kvs, .inr z, .inl (sm _ _ ep1), rfl, e.symm⟩
      refine ⟨rfl, _, rfl, _, rfl, p, _, rfl, g _ rfl, true, by rw [ey]; rfl, ifT ?_⟩
      refine ⟨_, rfl, _, rfl, p, .str y, rfl, g _ ey, W, _, rfl, .inr (TG.tup _), rfl, rfl, ?_⟩
      refine ⟨_, eD, by rw [List.length_map, List.length_replicate]; exact room_str _ (by omega), upd_same' sm nD, ?_⟩
      rw [upd_same, ← rep_snoc]
      show some (HO.lst (_ ++ [V.bl (inV _ _)])) = _
      rw [in_wishes hy]
    · rintro H' ⟨sm, eD⟩
      refine ⟨sm _ _ upd_same, D, List.replicate kd.length true, rfl, SqL.of (H := upd H' d (.dK kd)) ?_, ?_⟩
      · rw [upd_ne]
        · exact eD
        · rintro rfl
          rw [upd_same] at nD
          cases nD
      · rw [all_rep]
        exact kk _ (same_unlock ed sm)
end
end NK
/-! the head's tables -/
namespace NK
open PySem PySem.Spec PyProof.Rows L2 He K1
def dfn (x : Str) (st : Stmt) : DefD := ⟨(x, none), x, x, defArgs st, defBody st, defScope st, [], []⟩
def dme (m q : Str) (st : Stmt) : DefD := ⟨("Net", some m), m, q, defArgs st, defBody st, defScope st, [], []⟩
def fns : List DefD := [dfn "is_word" s_is_word, dfn "are_words" s_are_words, dfn "are_unlike" s_are_unlike, dfn "is_ascending" s_is_ascending, dme "__init__" "Net.__init__" s_Net___init, dme "lamps" "Net.lamps" s_Net_lamps, dme "ties" "Net.ties" s_Net_ties, dme "wishes" "Net.wishes" s_Net_wishes, dme "__eq__" "Net.__eq__" s_Net___eq, dfn "_are_ties" s_are_ties, dfn "is_tie" s_is_tie, dfn "_are_wishes" s_are_wishes, dfn "is_lamp" s_is_lamp, dfn "are_lamps" s_are_lamps, dfn "is_free" s_is_free, dfn "need_net" s_need_net, dfn "need_lamp" s_need_lamp, dfn "free_lamps" s_free_lamps, dfn "_reached" s_reached, dfn "_piece_with" s_piece_with, dfn "pieces" s_pieces, dfn "need_setting" s_need_setting, dfn "is_setting" s_is_setting, dfn "lit_neighbours" s_lit_neighbours, dfn "_lit_near" s_lit_near, dfn "is_ready_by" s_is_ready_by, dfn "is_ready" s_is_ready, dfn "ready_lamps" s_ready_lamps, dfn "switched" s_switched, dfn "_other_ones" s_other_ones, dfn "still_pieces" s_still_pieces, dfn "_law_purse" s_l_purse, dfn "_law_mixed" s_l_mixed, dfn "_law_draw" s_l_draw, dfn "_law_purses" s_l_purses, dfn "_law_one_of" s_l_one_of, dfn "_law_same" s_l_same, dfn "_law_exact" s_l_exact, dfn "_law_word" s_l_word, dfn "_law_words" s_l_words, dfn "_law_pairs_drawn" s_l_pairs_drawn, dfn "_law_ties_of_pairs" s_l_ties_of_pairs, dfn "_law_wishes_by" s_l_wishes_by, dfn "_law_paired_part" s_l_paired_part, dfn "_law_core_part" s_l_core_part, dfn "_law_family_part" s_l_family_part, dfn "_law_part" s_l_part, dfn "_law_net_of" s_l_net_of, dfn "_law_scene" s_l_scene, dfn "_law_free" s_l_free, dfn "_law_near" s_l_near, dfn "_law_is_ready" s_l_is_ready, dfn "_law_ready" s_l_ready, dfn "_law_flip" s_l_flip, dfn "_law_pieces" s_l_pieces, dfn "_law_setting" s_l_setting, dfn "_law_far" s_l_far, dfn "_law_net" s_l_net, dfn "_law_net_told" s_l_net_told, dfn "_law_bent_settings" s_l_bent_settings, dfn "_law_is_setting" s_l_is_setting, dfn "_law_deeds_right" s_l_deeds_right, dfn "_law_judged_settings" s_l_judged_settings, dfn "_law_still_net" s_l_still_net, dfn "law" s_law]
def fas : List Fa := [.glo "is_word", .glo "are_words", .glo "are_unlike", .glo "is_ascending", .glo "_are_ties", .glo "is_tie", .glo "_are_wishes", .glo "is_lamp", .glo "are_lamps", .glo "is_free", .glo "need_net", .glo "need_lamp", .glo "free_lamps", .glo "_reached", .glo "_piece_with", .glo "pieces", .glo "need_setting", .glo "is_setting", .glo "lit_neighbours", .glo "_lit_near", .glo "is_ready_by", .glo "is_ready", .glo "ready_lamps", .glo "switched", .glo "_other_ones", .glo "still_pieces", .glo "_law_purse", .glo "_law_mixed", .glo "_law_draw", .glo "_law_purses", .glo "_law_one_of", .glo "_law_same", .glo "_law_exact", .glo "_law_word", .glo "_law_words", .glo "_law_pairs_drawn", .glo "_law_ties_of_pairs", .glo "_law_wishes_by", .glo "_law_paired_part", .glo "_law_core_part", .glo "_law_family_part", .glo "_law_part", .glo "_law_net_of", .glo "_law_scene", .glo "_law_free", .glo "_law_near", .glo "_law_is_ready", .glo "_law_ready", .glo "_law_flip", .glo "_law_pieces", .glo "_law_setting", .glo "_law_far", .glo "_law_net", .glo "_law_net_told", .glo "_law_bent_settings", .glo "_law_is_setting", .glo "_law_deeds_right", .glo "_law_judged_settings", .glo "_law_still_net", .glo "law", .glo "READY_WISHES", .glo "Net", .glo "WISHES", .str "LETTERS" abc, .int "MOST_LETTERS" 8, .cls "Net", .noat "Net" "near", .noat "Net" "wish", .meth "Net" "lamps", .meth "Net" "ties", .meth "Net" "wishes", .mkr "Net", .free "sum", .free "int", .free "max", .free "min", .free "len", .free "range", .free "isinstance", .free "list", .free "dict", .free "tuple", .free "all", .free "any", .free "sorted", .free "zip", .free "set", .free "str", .free "bool", .free "reversed"]
def netB (K : PySem.W.Frag) : Bool := tupB K "WISHES" [.str "odd", .str "even", .str "stuck"] && (eqO (PySem.W.findIn K (.ref (ga K "Net")) "__class__") (some (some (.builtin "object.__class__"))) && (eqO (PySem.W.specialIn K (.builtin "object.__class__") "__get__") (some (some (.builtin "getset_descriptor.__get__"))) &&
  (eqB (PySem.W.takesIn K (.builtin "object.__class__")) (some true) && (eqB (PySem.W.mroIn K (ga K "Net") (.type "object")) (some true) && (eqB (PySem.W.kitOne K (.type "list") (.ref (ga K "Net"))) (some false) && (eqB (PySem.W.kitOne K (.type "tuple") (.ref (ga K "Net"))) (some false) && (eqB (PySem.W.kitOne K (.type "dict") (.ref (ga K "Net"))) (some false) &&
  (eqO (PySem.W.findIn K (.ref (ga K "Net")) "__eq__") (some (some (.ref (ma K (ga K "Net") "__eq__")))) && (PySem.W.isFn K (.ref (ma K (ga K "Net") "__eq__")) && eqO (PySem.W.findIn K (.ref (ga K "Net")) "__ne__") (some (some (.builtin "object.__ne__"))))))))))))
def moreN (K : PySem.W.Frag) : Bool := tupB K "READY_WISHES" [.str "even", .str "odd"] && (true && netB K)
def tabs : List Tab := []
def asL : List Addr := [3,6,4,24,45,65,85,105,125,145,152,157,164,171,172,213,222,227,232,239,244,251,258,265,270,275,280,285,286,293,300,307,312,319,326,331,338,343,348,355,362,369,374,381,386,391,396,401,406,411,416,421,426,431,438,443,448,453,458,463,468,473,478,483,488,493,500,505,510,515,522,529,534,0,23,44,64,84,104,124,144,151,156,163,170,212,221,226,231,238,243,250,257,264,269,274,279,284,292,299,306,311,318,325,330,337,342,347,354,361,368,373,380,385,390,395,400,405,410,415,420,425,430,437,442,447,452,457,462,467,472,477,482,487,492,499,504,509,514,521,528,533,22,25,42,43,62,63,82,83,102,103,122,123,142,143,148,149,150,153,154,155,158,159,160,161,162,165,166,167,168,169,184,191,196,203,210,211,214,215,218,219,220,223,224,225,228,229,230,233,234,235,236,237,240,241,242,245,246,247,248,249,252,253,254,255,256,259,260,261,262,263,266,267,268,271,272,273,276,277,278,281,282,283,287,288,289,290,291,294,295,296,297,298,301,302,303,304,305,308,309,310,313,314,315,316,317,320,321,322,323,324,327,328,329,332,333,334,335,336,339,340,341,344,345,346,349,350,351,352,353,356,357,358,359,360,363,364,365,366,367,370,371,372,375,376,377,378,379,382,383,384,387,388,389,392,393,394,397,398,399,402,403,404,407,408,409,412,413,414,417,418,419,422,423,424,427,428,429,432,433,434,435,436,439,440,441,444,445,446,449,450,451,454,455,456,459,460,461,464,465,466,469,470,471,474,475,476,479,480,481,484,485,486,489,490,491,494,495,496,497,498,501,502,503,506,507,508,511,512,513,516,517,518,519,520,523,524,525,526,527,530,531,532,41,35,61,55,81,75,101,95,121,115,141,135,183,190,195,202,209,36,37,38,39,40,56,57,58,59,60,76,77,78,79,80,96,97,98,99,100,116,117,118,119,120,136,137,138,139,140,180,181,182,185,186,187,188,189,192,193,194,197,198,199,200,201,204,205,206,207,208]
/-- the head's Hook, over written addresses, with tables -/
def hookY (al : List Addr) (fa : List Fa) (fn : List DefD) (ts : List Tab) (more : PySem.W.Frag → Bool) : PySem.W.Hook where
  α := AlT × Bool
  obs := fun s => (obsT fa fn ts (frG s.heap.get? al), more (frG s.heap.get? al))
  val := fun w => (valT fn ts w, true)
  says := fun w h => ∃ K : PySem.W.Frag, K.In h ∧ SaysT fa fn ts w K ∧ more K = true
  of := fun _ _ e => ⟨_, frG_in, congrArg Prod.fst e, congrArg Prod.snd e⟩
  keeps := fun _ _ _ ⟨K, hK, c⟩ k => ⟨K, PySem.W.Frag.In.keeps hK k, c⟩
def obY (al : List Addr) (fa : List Fa) (fn : List DefD) (ts : List Tab) (more : PySem.W.Frag → Bool) (s : PySem.W.SharedT) : AlT × Bool := (obsT fa fn ts (frG (HandSHeadRun.getT s) al), more (frG (HandSHeadRun.getT s) al))
theorem obY_eq {al : List Addr} {fa : List Fa} {fn : List DefD} {ts : List Tab} {more : PySem.W.Frag → Bool} (s : PySem.W.SharedT) : obY al fa fn ts more s = (hookY al fa fn ts more).obs s.abs := by
  have e : HandSHeadRun.getT s = s.abs.heap.get? := funext (HandSHeadRun.getT_eq s)
  unfold obY
  rw [e]
  rfl
abbrev hk : PySem.W.Hook := hookY asL fas fns tabs moreN
def ob (s : PySem.W.SharedT) : AlT × Bool := obY asL fas fns tabs moreN s
theorem ob_eq (s : PySem.W.SharedT) : ob s = hk.obs s.abs := obY_eq s
def loose0 : List Str := ["__name__", "LampError", "InvalidLamp", "InvalidLamps", "InvalidTies", "InvalidWishes", "InvalidNet", "InvalidSetting", "__name__", "LETTERS", "MOST_LETTERS", "is_word", "are_words", "are_unlike", "is_ascending", "__name__", "WISHES", "Net", "_are_ties", "is_tie", "_are_wishes", "is_lamp", "are_lamps", "is_free"]
def loose1 : List Str := ["need_net", "need_lamp", "free_lamps", "_reached", "_piece_with", "pieces", "__name__", "READY_WISHES", "need_setting", "is_setting", "lit_neighbours", "_lit_near", "is_ready_by", "is_ready", "ready_lamps", "switched", "_other_ones", "still_pieces", "__name__", "_law_purse", "_law_mixed", "_law_draw", "_law_purses", "_law_one_of"]
def loose2 : List Str := ["_law_same", "_law_exact", "_law_word", "_law_words", "_law_pairs_drawn", "_law_ties_of_pairs", "_law_wishes_by", "_law_paired_part", "_law_core_part", "_law_family_part", "_law_part", "_law_net_of", "_law_scene", "_law_free", "_law_near", "_law_is_ready", "_law_ready", "_law_flip", "_law_pieces", "_law_setting", "_law_far", "_law_net", "_law_net_told", "_law_bent_settings"]
def loose3 : List Str := ["_law_is_setting", "_law_deeds_right", "_law_judged_settings", "_law_still_net"]
def looseN : List Str := loose0 ++ loose1 ++ loose2 ++ loose3
abbrev RR : PySem.W.OpenRow := PySem.W.OpenLaw.row PySem.Challenge.rw_oddlamps_k06_whole_settings_and_ready_la
end NK
namespace NK
open PySem PySem.Spec PyProof.Rows L2 He K1
theorem run (w : World) : HandSHeadRun.RunEq RR (PySem.W.view RR.prog [76]) hk ob 20000 looseN w := by
  intro os
  kernel_rfl
end NK
/-! a net is made -/
namespace NK
open PySem PySem.Spec PyProof.Rows L2 He K1
/-! ### who is tied to whom -/
def oth (ps : List Pr) (x : Str) : List Str := ps.filterMap fun p => if p.1 = x then some p.2 else if p.2 = x then some p.1 else none
def adj (ps : List Pr) (x y : Str) : Bool := decide ((x, y) ∈ ps ∨ (y, x) ∈ ps)
def nbrs (bs : List Str) (ps : List Pr) (x : Str) : List Str := bs.filter fun y => adj ps x y
theorem mem_oth {ps : List Pr} (hs : ∀ p ∈ ps, sl p.1 p.2 = true) {x y : Str} : y ∈ oth ps x ↔ (x, y) ∈ ps ∨ (y, x) ∈ ps := by
  unfold oth
  rw [List.mem_filterMap]
  constructor
  · rintro ⟨p, hp, e⟩
    by_cases h1 : p.1 = x
    · rw [if_pos h1] at e
      cases e
      left
      rw [← h1]
      exact hp
    · rw [if_neg h1] at e
      by_cases h2 : p.2 = x
      · rw [if_pos h2] at e
        cases e
        right
        rw [← h2]
        exact hp
      · rw [if_neg h2] at e
        cases e
  · rintro (h | h)
    · exact ⟨_, h, if_pos rfl⟩
    · refine ⟨_, h, ?_⟩
      have z := hs _ h
      have ne : ¬ y = x := fun e => by
        subst e
        rw [show sl y y = false from sl_irr y] at z
        cases z
      show (if y = x then some x else if x = x then some y else none) = some y
      rw [if_neg ne, if_pos rfl]
theorem oth_nodup {x : Str} : ∀ {ps : List Pr}, ps.Nodup → (∀ p ∈ ps, sl p.1 p.2 = true) → (oth ps x).Nodup
  | [], _, _ => List.nodup_nil
  | p :: r, nd, hs => by
    rw [List.nodup_cons] at nd
    have hr : ∀ q ∈ r, sl q.1 q.2 = true := fun q hq => hs q (List.mem_cons_of_mem _ hq)
    have ih := oth_nodup (x := x) nd.2 hr
    have hp := hs p List.mem_cons_self
    unfold oth at ih ⊢
    rw [List.filterMap_cons]
    by_cases h1 : p.1 = x
    · rw [if_pos h1]
      refine List.nodup_cons.mpr ⟨fun m => ?_, ih⟩
      rcases (mem_oth hr).mp m with h | h
      · rw [← h1] at h
        exact nd.1 h
      · have z := hr _ h
        rw [← h1, ord_sl.asym hp] at z
        cases z
    · rw [if_neg h1]
      by_cases h2 : p.2 = x
      · rw [if_pos h2]
        refine List.nodup_cons.mpr ⟨fun m => ?_, ih⟩
        rcases (mem_oth hr).mp m with h | h
        · have z := hr _ h
          rw [← h2, ord_sl.asym hp] at z
          cases z
        · rw [← h2] at h
          exact nd.1 h
      · rw [if_neg h2]
        exact ih
theorem oth_len (ps : List Pr) (x : Str) : (oth ps x).length ≤ ps.length := List.length_filterMap_le _ _
theorem nbrs_asc {bs : List Str} (h : Asc sl bs) (ps : List Pr) (x : Str) : Asc sl (nbrs bs ps x) := List.Pairwise.filter _ h
theorem mem_nbrs {bs : List Str} {ps : List Pr} {x y : Str} : y ∈ nbrs bs ps x ↔ y ∈ bs ∧ ((x, y) ∈ ps ∨ (y, x) ∈ ps) := by
  unfold nbrs adj
  rw [List.mem_filter, decide_eq_true_eq]
/-- what sorting the others gives -/
theorem oth_sorted {bs : List Str} {ps : List Pr} {x : Str} {ys : List Str} (ha : Asc sl bs) (nd : ps.Nodup) (hs : ∀ p ∈ ps, p.1 ∈ bs ∧ p.2 ∈ bs ∧ sl p.1 p.2 = true) (pm : ys.Perm (oth ps x)) (srt : sortedS ys = true) : ys = nbrs bs ps x := by
  have h3 : ∀ p ∈ ps, sl p.1 p.2 = true := fun p hp => (hs p hp).2.2
  refine asc_uniq ord_sl (asc_sortedS (pm.nodup_iff.mpr (oth_nodup nd h3)) srt) (nbrs_asc ha ps x) fun y => ?_
  rw [pm.mem_iff, mem_oth h3, mem_nbrs]
  constructor
  · rintro (h | h)
    · exact ⟨(hs _ h).2.1, .inl h⟩
    · exact ⟨(hs _ h).1, .inr h⟩
  · exact fun h => h.2
theorem oth_snoc {ps : List Pr} {q : Pr} {i : Nat} (h : ps[i]? = some q) (x : Str) : oth (ps.take (i + 1)) x = oth (ps.take i) x ++ (if q.1 = x then [q.2] else if q.2 = x then [q.1] else []) := by
  unfold oth
  rw [List.take_add_one, h, List.filterMap_append]
  congr 1
  show List.filterMap _ [q] = _
  rw [List.filterMap_cons]
  by_cases h1 : q.1 = x
  · rw [if_pos h1, if_pos h1]
    rfl
  · rw [if_neg h1, if_neg h1]
    by_cases h2 : q.2 = x
    · rw [if_pos h2, if_pos h2]
      rfl
    · rw [if_neg h2, if_neg h2]
      rfl
/-! ### tables of addresses -/
def tabR (lt : List (Str × Addr)) : List (Key × V) := lt.map fun e => (Sum.inr e.1, V.ref e.2)
theorem tabR_keys (lt : List (Str × Addr)) : (tabR lt).map (·.1) = (lt.map (·.1)).map fun z => (Sum.inr z : Key) := by
  unfold tabR
  rw [List.map_map, List.map_map]
  rfl
theorem tabR_at {lt : List (Str × Addr)} (nd : (lt.map (·.1)).Nodup) {e : Str × Addr} (h : e ∈ lt) : valV (tabR lt) (Sum.inr e.1) = some (V.ref e.2) := by
  induction lt with
  | nil => nomatch h
  | cons f r ih =>
    rw [List.map_cons, List.nodup_cons] at nd
    rcases List.mem_cons.mp h with h | h
    · subst h
      exact valV_pos rfl
    · refine (valV_neg fun q => ?_).trans (ih nd.2 h)
      exact nd.1 (by rw [show f.1 = e.1 from Sum.inr.inj q]; exact List.mem_map.mpr ⟨e, h, rfl⟩)
theorem tabR_put {lt : List (Str × Addr)} {z : Str} {L : Addr} (h : z ∉ lt.map (·.1)) : putK (tabR lt) (Sum.inr z) (V.ref L) = tabR (lt ++ [(z, L)]) := by
  rw [putK_new _ (valV_app_none _ _ ?_)]
  · unfold tabR
    rw [List.map_append]
    rfl
  · rw [tabR_keys]
    intro m
    obtain ⟨y, hy, e⟩ := List.mem_map.mp m
    exact h (by rw [← Sum.inr.inj e]; exact hy)
theorem wtab_put {bs : List Str} {wf : Str → Str} {z : Str} (h : z ∉ bs) : putK (wtab bs wf) (Sum.inr z) (V.str (wf z)) = wtab (bs ++ [z]) wf := by
  rw [putK_new _ (valV_app_none _ _ ?_)]
  · unfold wtab
    rw [List.map_append]
    rfl
  · rw [wtab_keys]
    intro m
    obtain ⟨y, hy, e⟩ := List.mem_map.mp m
    exact h (by rw [← Sum.inr.inj e]; exact hy)
theorem take_new {bs : List Str} (nd : bs.Nodup) {i : Nat} {z : Str} (h : bs[i]? = some z) : z ∉ bs.take i := by
  intro m
  obtain ⟨j, hj, e⟩ := List.getElem_of_mem m
  have hi := (List.getElem?_eq_some_iff.mp h).1
  rw [List.length_take] at hj
  rw [List.getElem_take] at e
  have e2 := (List.getElem?_eq_some_iff.mp h).2
  have := (List.getElem_inj nd).mp (e.trans e2.symm)
  omega
/-- a list for each -/
def LTg (H : Hp) (lt : List (Str × Addr)) (g : Str → List Str) : Prop := ∀ e ∈ lt, H e.2 = some (.lst ((g e.1).map V.str))
theorem LTg.put {H : Hp} {lt : List (Str × Addr)} {g : Str → List Str} {e : Str × Addr} (n1 : (lt.map (·.1)).Nodup) (n2 : (lt.map (·.2)).Nodup) (h : LTg H lt g) (he : e ∈ lt) (y : Str) :
    LTg (upd H e.2 (.lst ((g e.1).map V.str ++ [V.str y]))) lt (fun z => if z = e.1 then g z ++ [y] else g z) := by
  intro f hf
  by_cases q : f = e
  · subst q
    dsimp only
    rw [upd_same, if_pos rfl, List.map_append]
    rfl
  · have a1 : f.1 ≠ e.1 := fun z => q (by
      obtain ⟨i, hi, ei⟩ := List.getElem_of_mem hf
      obtain ⟨j, hj, ej⟩ := List.getElem_of_mem he
      have := (List.getElem_inj (i := i) (j := j) (h₀ := by rw [List.length_map]; exact hi) (h₁ := by rw [List.length_map]; exact hj) n1).mp (by rw [List.getElem_map, List.getElem_map, ei, ej]; exact z)
      subst this
      rw [← ei, ← ej])
    have a2 : f.2 ≠ e.2 := fun z => q (by
      obtain ⟨i, hi, ei⟩ := List.getElem_of_mem hf
      obtain ⟨j, hj, ej⟩ := List.getElem_of_mem he
      have := (List.getElem_inj (i := i) (j := j) (h₀ := by rw [List.length_map]; exact hi) (h₁ := by rw [List.length_map]; exact hj) n2).mp (by rw [List.getElem_map, List.getElem_map, ei, ej]; exact z)
      subst this
      rw [← ei, ← ej])
    dsimp only
    rw [upd_ne a2, if_neg a1]
    exact h f hf
theorem LTg.cong {H : Hp} {lt : List (Str × Addr)} {g g' : Str → List Str} (h : LTg H lt g) (e : ∀ z, g z = g' z) : LTg H lt g' := fun f hf => by rw [← e]; exact h f hf
/-- a comprehension of a dict over anything that is walked -/
theorem dc_it {J : It} {n : Nat} {G : Hp → Prop} {Y : Nat → Hp → V → Hp → Prop} (w : Walk J n G Y) {g : TG} {tt : L2.TT} {tk tv : TE} {vs : List Nat} {σ : L2.St} {H1 : Hp} {D : Addr} {Qd : Hp → Prop} (Pv : Nat → Hp → Prop) (h0 : Pv 0 (upd H1 D (.dK []))) (hG : ∀ i H, i ≤ n → Pv i H → G H)
    (hs : ∀ i x H H', i < n → Pv i H → Y i H x H' → g x (wipe σ vs) H' fun σ2 H2 => wipe σ2 vs = wipe σ vs ∧ tt σ2 H2 fun b H3 =>
      if b = true then tk σ2 H3 fun y H4 => tv σ2 H4 fun z H5 => ∃ kvs k, y = kV k ∧ H5 D = some (.dK kvs) ∧ kvs.length < sizeLine ∧ Pv (i + 1) (upd H5 D (.dK (putK kvs k z))) else Pv (i + 1) H3) (hd : ∀ H, Pv n H → Qd H) :
    ∃ W : Nat → Nat → Hp → Prop, (∃ m, W 0 m (upd H1 D (.dK []))) ∧ ∀ i m H, W i m H →
      (J.stop i H ∧ Qd H) ∨ (J.go i H ∧ ∃ Nx : Hp → Prop, (∀ H', Nx H' → ∃ m', m' < m ∧ W (i + 1) m' H') ∧ ∀ x H', J.yld i H x H' → g x (wipe σ vs) H' fun σ2 H2 => wipe σ2 vs = wipe σ vs ∧ tt σ2 H2 fun b H3 =>
        if b = true then tk σ2 H3 fun y H4 => tv σ2 H4 fun z H5 => ∃ kvs k, y = kV k ∧ H5 D = some (.dK kvs) ∧ kvs.length < sizeLine ∧ Nx (upd H5 D (.dK (putK kvs k z))) else Nx H3) := by
  refine ⟨fun i m H => m = n - i ∧ i ≤ n ∧ Pv i H, ⟨n, by simp, Nat.zero_le _, h0⟩, ?_⟩
  rintro i m H ⟨rfl, hi, p⟩
  have q := hG i H hi p
  by_cases hlt : i < n
  · refine .inr ⟨w.goes i H hlt q, Pv (i + 1), fun H' p' => ⟨n - (i + 1), by omega, rfl, hlt, p'⟩, fun x H' y => hs i x H H' hlt p (w.yields i H x H' hlt q y)⟩
  · have e : i = n := by omega
    subst e
    exact .inl ⟨w.stops H q, hd H p⟩
/-- a made net -/
structure MadeAt (C : Addr) (H : Hp) (a : Addr) (bs : List Str) (ps : List Pr) (wf : Str → Str) : Prop where
  ex : ∃ (dx nr wr : Addr) (tt : List (Str × Addr)), H a = some (.ins C dx [("near", .ref nr), ("wish", .ref wr)]) ∧ H nr = some (.dK (tabR tt)) ∧ tt.map (·.1) = bs ∧ (∀ e ∈ tt, H e.2 = some (.tup ((nbrs bs ps e.1).map V.str))) ∧ H wr = some (.dK (wtab bs wf))
theorem MadeAt.same {C : Addr} {H H' : Hp} {a : Addr} {bs : List Str} {ps : List Pr} {wf : Str → Str} (s : Same H H') (m : MadeAt C H a bs ps wf) : MadeAt C H' a bs ps wf := by
  obtain ⟨dx, nr, wr, tt, a1, a2, a3, a4, a5⟩ := m.ex
  exact ⟨dx, nr, wr, tt, s _ _ a1, s _ _ a2, a3, fun e he => s _ _ (a4 e he), s _ _ a5⟩
/-- what the class must have -/
structure NetC (K : PySem.W.Frag) (C : Addr) : Prop where
  cls : Cls K C
  near : NoAttr K C "near"
  wish : NoAttr K C "wish"
  ha : PySem.W.findIn K (.ref C) "__class__" = some (some (.builtin "object.__class__"))
  hn : PySem.W.specialIn K (.builtin "object.__class__") "__get__" = some (some (.builtin "getset_descriptor.__get__"))
  htk : PySem.W.takesIn K (.builtin "object.__class__") = some true
  hm : PySem.W.mroIn K C (.type "object") = some true
  kl : PySem.W.kitOne K (.type "list") (.ref C) = some false
  kt : PySem.W.kitOne K (.type "tuple") (.ref C) = some false
  kd : PySem.W.kitOne K (.type "dict") (.ref C) = some false
section
variable {P : Program} {w : World} {K : PySem.W.Frag} {mg : Str → Option Value} {base : Heap} {C W : Addr}
abbrev FnM (K : PySem.W.Frag) (x q : Str) (st : Stmt) (f : Addr) (fd : FuncData) : Prop := FunD K x q (defArgs st) (defBody st) (defScope st) [] [] f fd
theorem fnM_ok {x q : Str} {st : Stmt} {f : Addr} {fd : FuncData} {N ps : List Str} {k : Nat} {sp : Sp} (F : FnM K x q st f fd) (S : FnScope N ps (defScope st)) (len : ∀ vs H Q E, sp vs H Q E → vs.length = ps.length)
    (hbody : ∀ (cdv : Value) (A : Around) (outer : List Env) (s : Shared) (H : Hp) (vs : List V) (Q : VK) (E : XK), Room k (A.deeper (envOfC q (defScope st) s.heap.objs.size f cdv)) → sp vs H Q E →
      ∃ t, PSs (cxOf CX0 P w K mg base N q (defScope st) f cdv A outer s H E).nox (defBody st) t ∧ t { nx := fun _ H' => Q .non H', rt := Q } (start N vs) H) : FnOk P w K mg base CX0 (k + 1) f fd ps sp :=
  F.ok S len fun cdv A outer s H vs Q E hr h => let ⟨t, a, b⟩ := hbody cdv A outer s H vs Q E hr h; ⟨t, a.nox, b⟩
/-- lamps, ties, wishes that make a net -/
structure NetIn (H : Hp) (p t w : Addr) (zs : List Str) (qs : Qs) (kvs : List (Key × V)) : Prop where
  lamps : H p = some (.lst (zs.map V.str))
  nd : zs.Nodup
  word : ∀ z ∈ zs, Word z
  pos : 1 ≤ zs.length
  few : zs.length < 64
  ties : TiesAt H t zs qs
  wish : WishAt H w zs kvs
/-- near and wish of the net at a are new -/
def NewF (C : Addr) (H H' : Hp) (a : Addr) : Prop := ∀ (dx nr wr : Addr), H' a = some (.ins C dx [("near", .ref nr), ("wish", .ref wr)]) → H nr = none ∧ H wr = none
def spInit (C : Addr) : Sp := fun vs H Q _ => ∃ (a p t w dx : Addr) (zs : List Str) (qs : Qs) (kvs : List (Key × V)), vs = [.ref a, .ref p, .ref t, .ref w] ∧ H a = some (.ins C dx []) ∧ NetIn H p t w zs qs kvs ∧
  ∀ (bs : List Str) (H' : Hp), bs.Perm zs → Asc sl bs → MadeAt C H' a bs (qs.map (·.2)) (wOf kvs) → But a H H' → NewF C H H' a → Q .non H'
theorem ok_net_init {f : Addr} {fd : FuncData} (F : FnM K "__init__" "Net.__init__" s_Net___init f fd) (B : FreeN mg) (NC : NetC K C) (G_are_words : Has P w K mg base 2 "are_words" ["value"] spAreWords) (G_are_unlike : Has P w K mg base 1 "are_unlike" ["values"] spUnlike) (G__are_ties : Has P w K mg base 2 "_are_ties" ["value", "near"] spAreTies) (G__are_wishes : Has P w K mg base 1 "_are_wishes" ["value", "near"] spAreWishes) : FnOk P w K mg base CX0 3 f fd ["self", "lamps", "ties", "wishes"] (spInit C) := by
  refine fnM_ok F sc_Net___init (fun vs H Q E h => ?_) (fun cdv A outer s H vs Q E hr h => ?_)
  · obtain ⟨a, p, t, w, dx, zs, qs, kvs, rfl, _⟩ := h
    rfl
  · obtain ⟨a, p, t, w, dx, zs, qs, kvs, rfl, ea, I, kk⟩ := h
    have nd := sc_Net___init.nd
    have hu1 := room1 hr
    refine ⟨_, (pss_cons (ps_if (pt_not (PW.pt (pw_and (pt_val (pe_has G_are_words (hr.mono (by decide)) (pa_cons (pv 1) pa_nil))) (pw_and (pt_truth (pv 1) (by intro _; rfl)) (pw_and1 (pt_val (pe_has G_are_unlike (hr.mono (by decide)) (pa_cons (pv 1) pa_nil)))))))) (pss_one ps_never) pss_nil)
      (pss_cons (ps_set (i := 4) nd rfl (.inr rfl) (pe_dc (own := [("lamp", 7)]) (g := gName 7) (tt := tYes) rfl nd (k_pil (K := K) rfl (pe_callB (k_sortS (K := K) rfl) (by rfl) B.sorted (by decide +kernel) (pa_cons (pv 1) pa_nil))) (blkOk_by (N := nm_Net___init) (sc := defScope s_Net___init) (by decide +kernel)) (fun _ _ _ _ _ => (pg_name (i := 7) nd rfl (Or.inl rfl))) (fun _ _ _ _ _ => pts_nil) (fun _ _ _ _ _ => (pv 7)) (fun _ _ _ _ _ => (pe_lst pa_nil))))
      (pss_cons (ps_if (pt_not (pt_val (pe_has G__are_ties (hr.mono (by decide)) (pa_cons (pv 2) (pa_cons (pv 4) pa_nil))))) (pss_one ps_never) pss_nil)
      (pss_cons (ps_if (pt_not (pt_val (pe_has G__are_wishes (hr.mono (by decide)) (pa_cons (pv 3) (pa_cons (pv 4) pa_nil))))) (pss_one ps_never) pss_nil)
      (pss_cons (ps_for PassesOwn.never rfl (k_pil (K := K) rfl (pv 2)) (pg_tup rfl (pgs_cons (pg_name (i := 5) nd rfl (.inl rfl)) (pgs_cons (pg_name (i := 6) nd rfl (.inl rfl)) pgs_nil))) (pss_cons (ps_expr (pe_bm PySem.F.plainAttrs_list PySem.F.slot_list_append PySem.F.type_list_append mt_append (pe_dget hu1 (pv 4) (pv 5) (fun _ _ => rfl)) (pa_cons (pv 6) pa_nil)))
      (pss_one (ps_expr (pe_bm PySem.F.plainAttrs_list PySem.F.slot_list_append PySem.F.type_list_append mt_append (pe_dget hu1 (pv 4) (pv 6) (fun _ _ => rfl)) (pa_cons (pv 5) pa_nil))))))
      (pss_cons (ps_fld (pv 0) (pe_lock (pe_dc (own := [("lamp", 7)]) (g := gName 7) (tt := tYes) rfl nd (pi_keys (pv 4)) (blkOk_by (N := nm_Net___init) (sc := defScope s_Net___init) (by decide +kernel)) (fun _ _ _ _ _ => (pg_name (i := 7) nd rfl (Or.inl rfl))) (fun _ _ _ _ _ => pts_nil) (fun _ _ _ _ _ => (pv 7)) (fun _ _ _ _ _ => (pe_callTy (k_tuple (K := K) rfl) (by rfl) B.tuple (by decide +kernel) (pa_cons (pe_callB (k_sortS (K := K) rfl) (by rfl) B.sorted (by decide +kernel) (pa_cons (pe_dget hu1 (pv 4) (pv 7) (fun _ _ => rfl)) pa_nil)) pa_nil))))) rfl)
      (pss_one (ps_fld (pv 0) (pe_lock (pe_dc (own := [("lamp", 7)]) (g := gName 7) (tt := tYes) rfl nd (pi_keys (pv 4)) (blkOk_by (N := nm_Net___init) (sc := defScope s_Net___init) (by decide +kernel)) (fun _ _ _ _ _ => (pg_name (i := 7) nd rfl (Or.inl rfl))) (fun _ _ _ _ _ => pts_nil) (fun _ _ _ _ _ => (pv 7)) (fun _ _ _ _ _ => (pe_dget hu1 (pv 3) (pv 7) (fun _ _ => rfl))))) rfl)))))))), ?_⟩
    have lz := I.few
    refine ⟨_, rfl, p, zs, rfl, I.lamps, by omega, I.word, fun H1 s1 => ⟨true, rfl, ifT ?_⟩⟩
    refine ⟨_, rfl, true, .inl ⟨_, SqL.of (s1 _ _ I.lamps), ?_⟩, ifT ?_⟩
    · have := I.pos
      cases zs with
      | nil => exact absurd this (by decide)
      | cons z zs => rfl
    refine ⟨_, rfl, p, rfl, .inl ⟨zs, s1 _ _ I.lamps, by omega, I.nd⟩, fun H2 s2 => ⟨true, rfl, ?_⟩⟩
    refine ite2 (fun h => by cases h) (fun _ => ?_)
    have s12 := s1.trans s2
    -- near
    refine ⟨_, rfl, p, zs, rfl, SqL.of (s12 _ _ I.lamps), by omega, fun bs B0 pm srt nB => ?_⟩
    have bnd : bs.Nodup := pm.nodup_iff.mpr I.nd
    have basc := asc_sortedS bnd srt
    have lb : bs.length = zs.length := pm.length_eq
    have sB := same_new (o := .lst (bs.map V.str)) nB
    refine ⟨B0, rfl, ⟨_, SqL.of upd_same⟩, fun D nD => ?_⟩
    have sm0 := s12.trans sB
    refine dc_it walk_list (fun i H' => Same (upd H2 B0 (.lst (bs.map V.str))) H' ∧ ∃ lt : List (Str × Addr), H' D = some (.dK (tabR lt)) ∧ lt.map (·.1) = bs.take i ∧ (lt.map (·.2)).Nodup ∧ LTg H' lt (fun _ => []) ∧ ∀ e ∈ lt, H e.2 = none) ⟨same_new nD, [], upd_same, rfl, List.nodup_nil, fun e h => (nomatch h), fun e h => (nomatch h)⟩ (fun i H' _ ⟨sm, _⟩ => SqL.of (xs := bs.map V.str) (sm _ _ upd_same)) ?_ ?_
    · rintro i x H' H'' hi ⟨sm, lt, eD, el, n2, g0, fr⟩ ⟨rfl, hx⟩
      rw [List.getElem?_map] at hx
      cases ex : bs[i]? with
      | none =>
        rw [ex] at hx
        cases hx
      | some z =>
      rw [ex] at hx
      cases hx
      refine ⟨rfl, _, rfl, by show 0 ≤ sizeLine; decide, fun L nL => ?_⟩
      have sL := same_new (o := .lst []) nL
      have ll : lt.length ≤ bs.length := by
        have := congrArg List.length el
        rw [List.length_map, List.length_take] at this
        omega
      refine ⟨tabR lt, .inr z, rfl, sL _ _ eD, by unfold tabR; rw [List.length_map]; exact room_str _ (by omega), upd_same' (sm.trans sL) nD, lt ++ [(z, L)], ?_, ?_, ?_, ?_, ?_⟩
      · rw [upd_same, tabR_put (by rw [el]; exact take_new bnd ex)]
      · rw [List.map_append, el, List.take_add_one, ex]
        rfl
      · rw [List.map_append]
        refine List.nodup_append.mpr ⟨n2, List.nodup_cons.mpr ⟨List.not_mem_nil, List.nodup_nil⟩, fun u hu v hv e => ?_⟩
        rw [List.mem_singleton.mp hv] at e
        obtain ⟨e0, he0, rfl⟩ := List.mem_map.mp hu
        have := g0 e0 he0
        rw [e, nL] at this
        cases this
      · intro e he
        have De : e.2 ≠ D ∧ upd H'' L (.lst []) e.2 = some (.lst (([] : List Str).map V.str)) := by
          rcases List.mem_append.mp he with he | he
          · refine ⟨fun q => ?_, sL _ _ (g0 e he)⟩
            have := g0 e he
            rw [q, eD] at this
            cases this
          · rw [List.mem_singleton.mp he]
            exact ⟨Ne.symm (ne_of_none eD nL), upd_same⟩
        rw [upd_ne De.1]
        exact De.2
      · intro e he
        rcases List.mem_append.mp he with he | he
        · exact fr e he
        · rw [List.mem_singleton.mp he]
          exact none_of_same (sm0.trans sm) nL
    rintro H3 ⟨sm3, lt, eD, el, n2, g0, fr⟩
    rw [List.length_map, List.take_length] at el
    have smH := sm0.trans sm3
    have nD0 : H D = none := none_of_same sm0 nD
    have n1 : (lt.map (·.1)).Nodup := by rw [el]; exact bnd
    have kD : Keyed H3 D bs := ⟨tabR lt, eD, by rw [tabR_keys, el]⟩
    have Tb : TiesAt H t bs qs := ⟨I.ties.at_, I.ties.few, I.ties.qa, I.ties.nd, fun q hq => let ⟨h1, h2, h3⟩ := I.ties.mem q hq; ⟨pm.mem_iff.mpr h1, pm.mem_iff.mpr h2, h3⟩⟩
    have Wb : WishAt H w bs kvs := ⟨I.wish.at_, by rw [lb]; exact I.wish.len, fun z hz => I.wish.told z (pm.mem_iff.mp hz)⟩
    refine ⟨_, rfl, _, rfl, t, D, bs, qs, rfl, Tb.same smH, kD, fun H4 s4 => ⟨true, rfl, ?_⟩⟩
    refine ite2 (fun h => by cases h) (fun _ => ?_)
    have wD : w ≠ D := ne_of_none I.wish.at_ nD0
    refine ⟨_, rfl, _, rfl, w, D, bs, kvs, rfl, Wb.same (smH.trans s4), by omega, kD.same s4, wD, fun H5 s5 => ⟨true, rfl, ?_⟩⟩
    refine ite2 (fun h => by cases h) (fun _ => ?_)
    have sm5 := (smH.trans s4).trans s5
    have s45 := s4.trans s5
    have few := I.ties.few
    -- the loop
    refine ⟨_, rfl, t, rfl, ⟨_, SqL.of (sm5 _ _ Tb.at_)⟩, for_list (K := K) (a := t) (xs := qrefs qs) (fun i σ H' => ∃ v5 v6 : Option V, σ = [some (.ref a), some (.ref p), some (.ref t), some (.ref w), some (.ref D), v5, v6, none] ∧ Same H H' ∧ H' D = some (.dK (tabR lt)) ∧ LTg H' lt (oth ((qs.map (·.2)).take i)))
      ⟨none, none, rfl, sm5, s45 _ _ eD, fun e he => s45 _ _ (g0 e he)⟩ (fun i σ H' _ h => by
        obtain ⟨v5, v6, _, sm, _⟩ := h
        exact SqL.of (sm _ _ Tb.at_)) ?_ ?_⟩
    · rintro i x σ H' hx ⟨v5, v6, rfl, sm, eD', g⟩
      unfold qrefs at hx
      rw [List.getElem?_map] at hx
      cases ex : qs[i]? with
      | none =>
        rw [ex] at hx
        cases hx
      | some q =>
      rw [ex] at hx
      cases hx
      have hi := (List.getElem?_eq_some_iff.mp ex).1
      have hq := List.mem_of_getElem? ex
      obtain ⟨m1, m2, lt12⟩ := Tb.mem q hq
      rw [← el] at m1 m2
      obtain ⟨e1, he1, ee1⟩ := List.mem_map.mp m1
      obtain ⟨e2, he2, ee2⟩ := List.mem_map.mp m2
      refine ⟨q.1, _, rfl, SqT.of (sm _ _ (Tb.qa q hq)), rfl, _, _, rfl, _, _, rfl, rfl, ?_⟩
      have g1 : ∀ (H : Hp) (e : Str × Addr) (z : Str), H D = some (.dK (tabR lt)) → e ∈ lt → e.1 = z → DGet H D (.str z) (some (.ref e.2)) := fun H e z hD he ez => by
        subst ez
        exact .inl ⟨tabR lt, .inr e.1, .inl hD, rfl, (tabR_at n1 he).symm⟩
      have Dne : ∀ e ∈ lt, D ≠ e.2 := fun e he q => by
        have := g e he
        rw [← q, eD'] at this
        cases this
      have lo : ∀ z : Str, (oth ((qs.map (·.2)).take i) z).length < 64 := fun z => by
        have := oth_len ((qs.map (·.2)).take i) z
        rw [List.length_take, List.length_map] at this
        omega
      refine ⟨_, rfl, _, rfl, D, .ref e1.2, rfl, g1 H' e1 _ eD' he1 ee1, .inl ⟨rfl, _, SqL.of (g e1 he1)⟩, _, rfl, e1.2, _, _, rfl, rfl, g e1 he1, by rw [List.length_map]; exact room_str _ (by have := lo e1.1; omega), ?_⟩
      have gA := g.put n1 n2 he1 q.2.2
      have eDA : upd H' e1.2 (.lst ((oth ((qs.map (·.2)).take i) e1.1).map V.str ++ [V.str q.2.2])) D = some (.dK (tabR lt)) := by rw [upd_ne (Dne e1 he1)]; exact eD'
      refine ⟨_, rfl, _, rfl, D, .ref e2.2, rfl, g1 _ e2 _ eDA he2 ee2, .inl ⟨rfl, _, SqL.of (gA e2 he2)⟩, _, rfl, e2.2, _, _, rfl, rfl, gA e2 he2, ?_, ?_⟩
      · rw [List.length_map]
        dsimp only
        have z := lo e2.1
        split
        · rw [List.length_append]
          exact room_str _ (by show _ + 1 ≤ 10000; omega)
        · exact room_str _ (by omega)
      have gB := gA.put n1 n2 he2 q.2.1
      refine ⟨_, _, rfl, upd_same' (upd_same' sm (fr e1 he1)) (fr e2 he2), ?_, gB.cong fun z => ?_⟩
      · rw [upd_ne (Dne e2 he2)]
        exact eDA
      · have ne : q.2.1 ≠ q.2.2 := fun e => by
          rw [e, sl_irr] at lt12
          cases lt12
        rw [oth_snoc (q := q.2) (by rw [List.getElem?_map, ex]; rfl), ee1, ee2]
        by_cases h2 : z = q.2.2
        · rw [if_pos h2, h2, if_neg (Ne.symm ne), if_neg ne, if_pos rfl]
        · rw [if_neg h2]
          by_cases h1 : z = q.2.1
          · rw [if_pos h1, h1, if_pos rfl]
          · rw [if_neg h1, if_neg (Ne.symm h1), if_neg (Ne.symm h2), List.append_nil]
    rintro σ H6 ⟨v5, v6, rfl, sm6, eD6, g6⟩
    rw [show (qrefs qs).length = (qs.map (·.2)).length by unfold qrefs; rw [List.length_map, List.length_map], List.take_length] at g6
    have Da : D ≠ a := Ne.symm (ne_of_none ea nD0)
    -- near, as tuples
    refine ⟨D, _, eD6, True.intro, fun od => ?_⟩
    refine ⟨_, rfl, D, od, rfl, .inl ⟨tabR lt, upd_same, fun N1 nN => ?_⟩⟩
    have DN : N1 ≠ D := by
      rintro rfl
      rw [upd_same] at nN
      cases nN
    have ltb : lt.length = bs.length := by
      have := congrArg List.length el
      rw [List.length_map] at this
      exact this
    refine dc_it walk_keys (fun i H' => Same (upd H6 D (.frz od (.dK (tabR lt)))) H' ∧ ∃ tt : List (Str × Addr), H' N1 = some (.dK (tabR tt)) ∧ tt.map (·.1) = bs.take i ∧ ∀ e ∈ tt, H' e.2 = some (.tup ((nbrs bs (qs.map (·.2)) e.1).map V.str))) ⟨same_new nN, [], upd_same, rfl, fun e h => (nomatch h)⟩ (fun i H' _ h => h.1 _ _ upd_same) ?_ ?_
    · rintro i x H' H'' hi ⟨sm, tt, eN, et, ht⟩ ⟨rfl, k, v, ex, rfl⟩
      unfold tabR at ex hi
      rw [List.length_map] at hi
      rw [List.getElem?_map, List.getElem?_eq_getElem hi] at ex
      cases ex
      generalize hE : lt[i] = e at *
      have he : e ∈ lt := by rw [← hE]; exact List.getElem_mem hi
      have ebi : bs[i]? = some e.1 := by
        rw [← el, List.getElem?_map, List.getElem?_eq_getElem hi, hE]
        rfl
      have eF : H'' D = some (.frz od (.dK (tabR lt))) := sm _ _ upd_same
      have eL : H'' e.2 = some (.lst ((oth (qs.map (·.2)) e.1).map V.str)) := by
        refine sm _ _ ?_
        rw [upd_ne]
        · exact g6 e he
        · intro q
          have := g6 e he
          rw [q, eD6] at this
          cases this
      have lo : (oth (qs.map (·.2)) e.1).length < 64 := by
        have := oth_len (qs.map (·.2)) e.1
        rw [List.length_map] at this
        omega
      refine ⟨rfl, _, rfl, _, rfl, _, rfl, D, .ref e.2, rfl, .inl ⟨tabR lt, .inr e.1, .inr ⟨od, eF⟩, rfl, (tabR_at n1 he).symm⟩, e.2, _, rfl, SqL.of eL, lo, fun ys l2 pm2 srt2 nl2 => ?_⟩
      have ey := oth_sorted basc Tb.nd (fun p hp => by
        obtain ⟨q, hq, rfl⟩ := List.mem_map.mp hp
        exact Tb.mem q hq) pm2 srt2
      subst ey
      have sl2 := same_new (o := .lst ((nbrs bs (qs.map (·.2)) e.1).map V.str)) nl2
      refine ⟨l2, _, rfl, .inl ⟨SqL.of upd_same, fun l3 nl3 => ?_⟩⟩
      have sl3 := same_new (o := .tup ((nbrs bs (qs.map (·.2)) e.1).map V.str)) nl3
      have s23 := sl2.trans sl3
      have ltt : tt.length ≤ bs.length := by
        have := congrArg List.length et
        rw [List.length_map, List.length_take] at this
        omega
      refine ⟨tabR tt, .inr e.1, rfl, s23 _ _ eN, by unfold tabR; rw [List.length_map]; exact room_str _ (by omega), upd_same' (sm.trans s23) nN, tt ++ [(e.1, l3)], ?_, ?_, ?_⟩
      · rw [upd_same, tabR_put (by rw [et]; exact take_new bnd ebi)]
      · rw [List.map_append, et, List.take_add_one, ebi]
        rfl
      · intro e' he'
        have ne : ∀ (ws : List V) (b : Addr), upd (upd H'' l2 (.lst ((nbrs bs (qs.map (·.2)) e.1).map V.str))) l3 (.tup ((nbrs bs (qs.map (·.2)) e.1).map V.str)) b = some (.tup ws) → b ≠ N1 := fun ws b h q => by
          rw [q, s23 _ _ eN] at h
          cases h
        rcases List.mem_append.mp he' with he' | he'
        · have := s23 _ _ (ht e' he')
          rw [upd_ne (ne _ _ this)]
          exact this
        · rw [List.mem_singleton.mp he', upd_ne (ne _ _ upd_same)]
          exact upd_same
    rintro H7 ⟨sm7, tt, eN7, et, ht⟩
    have ett : tt.map (·.1) = bs := by
      rw [et]
      unfold tabR
      rw [List.length_map, ltb, List.take_length]
    have s67 : Same H6 (upd H7 D (.dK (tabR lt))) := same_unlock eD6 sm7
    refine ⟨sm7 _ _ upd_same, ?_⟩
    have ea7 := s67 _ _ (sm6 _ _ ea)
    refine ⟨_, rfl, a, C, dx, [], rfl, ea7, NC.cls, NC.near, by decide, ?_⟩
    -- the wishes
    have aD := Ne.symm Da
    have ed8 : upd (upd H7 D (.dK (tabR lt))) a (.ins C dx (putF "near" (.ref N1) [])) D = some (.dK (tabR lt)) := by rw [upd_ne Da, upd_same]
    refine ⟨D, _, ed8, True.intro, fun od2 => ?_⟩
    have ea8 : upd (upd H7 D (.dK (tabR lt))) a (.ins C dx (putF "near" (.ref N1) [])) a = some (.ins C dx (putF "near" (.ref N1) [])) := upd_same
    have k8 : ∀ b o, b ≠ a → H6 b = some o → upd (upd H7 D (.dK (tabR lt))) a (.ins C dx (putF "near" (.ref N1) [])) b = some o := fun b o nb e => by
      rw [upd_ne nb]
      exact s67 _ _ e
    have k78 : ∀ b o, b ≠ a → b ≠ D → H7 b = some o → upd (upd H7 D (.dK (tabR lt))) a (.ins C dx (putF "near" (.ref N1) [])) b = some o := fun b o nb nD' e => by
      rw [upd_ne nb, upd_ne nD']
      exact e
    generalize upd (upd H7 D (.dK (tabR lt))) a (.ins C dx (putF "near" (.ref N1) [])) = H8 at *
    have wa : w ≠ a := fun q => by
      have := I.wish.at_
      rw [q, ea] at this
      cases this
    have ew8 : H8 w = some (.dK kvs) := k8 _ _ wa (sm6 _ _ I.wish.at_)
    refine ⟨_, rfl, D, od2, rfl, .inl ⟨tabR lt, upd_same, fun N2 nN2 => ?_⟩⟩
    have DN2 : N2 ≠ D := by
      rintro rfl
      rw [upd_same] at nN2
      cases nN2
    refine dc_it walk_keys (fun i H' => Same (upd H8 D (.frz od2 (.dK (tabR lt)))) H' ∧ H' N2 = some (.dK (wtab (bs.take i) (wOf kvs)))) ⟨same_new nN2, upd_same⟩ (fun i H' _ h => h.1 _ _ upd_same) ?_ ?_
    · rintro i x H' H'' hi ⟨sm, eN⟩ ⟨rfl, k, v, ex, rfl⟩
      unfold tabR at ex hi
      rw [List.length_map] at hi
      rw [List.getElem?_map, List.getElem?_eq_getElem hi] at ex
      cases ex
      have ebi : bs[i]? = some lt[i].1 := by
        rw [← el, List.getElem?_map, List.getElem?_eq_getElem hi]
        rfl
      obtain ⟨y, ey, wy⟩ := Wb.told _ (List.mem_of_getElem? ebi)
      have ew : H'' w = some (.dK kvs) := by
        refine sm _ _ ?_
        rw [upd_ne wD]
        exact ew8
      refine ⟨rfl, _, rfl, _, rfl, _, rfl, w, .str y, rfl, .inl ⟨kvs, .inr lt[i].1, .inl ew, rfl, ey.symm⟩, _, .inr lt[i].1, rfl, eN, ?_, upd_same' sm nN2, ?_⟩
      · unfold wtab
        rw [List.length_map, List.length_take]
        exact room_str _ (by omega)
      · rw [upd_same, ← wOf_at ey, wtab_put (take_new bnd ebi), List.take_add_one, ebi]
        rfl
    rintro H9 ⟨sm9, eN9⟩
    have s89 : Same H8 (upd H9 D (.dK (tabR lt))) := same_unlock ed8 sm9
    rw [show (tabR lt).length = bs.length by unfold tabR; rw [List.length_map, ltb], List.take_length] at eN9
    have ea9 := s89 _ _ ea8
    refine ⟨sm9 _ _ upd_same, _, rfl, a, C, dx, _, rfl, ea9, NC.cls, NC.wish, by show 1 < 1000; decide, ?_⟩
    have keep : ∀ b o, b ≠ a → H6 b = some o → upd (upd H9 D (.dK (tabR lt))) a (.ins C dx (putF "wish" (.ref N2) (putF "near" (.ref N1) []))) b = some o := fun b o nb e => by
      rw [upd_ne nb]
      exact s89 _ _ (k8 _ _ nb e)
    have keep7 : ∀ b o, b ≠ a → b ≠ D → H7 b = some o → upd (upd H9 D (.dK (tabR lt))) a (.ins C dx (putF "wish" (.ref N2) (putF "near" (.ref N1) []))) b = some o := fun b o nb nD' e => by
      rw [upd_ne nb]
      exact s89 _ _ (k78 _ _ nb nD' e)
    have ea7' : H7 a = some (.ins C dx []) := by
      rw [← ea7, upd_ne (Ne.symm Da)]
    refine kk bs _ pm basc ⟨dx, N1, N2, tt, upd_same, keep7 N1 _ ?_ DN eN7, ett, fun e he => keep7 _ _ ?_ ?_ (ht e he), ?_⟩ (fun b o nb e => keep b o nb (sm6 _ _ e)) (fun dx' nr' wr' e => by
      have e' : some (HO.ins C dx [("near", .ref N1), ("wish", .ref N2)]) = some (HO.ins C dx' [("near", .ref nr'), ("wish", .ref wr')]) := (upd_same (H := upd H9 D (.dK (tabR lt))) (a := a)).symm.trans e
      cases e'
      rw [upd_ne DN] at nN
      rw [upd_ne DN2] at nN2
      refine ⟨none_of_same sm6 nN, ?_⟩
      cases hN : H N2 with
      | none => rfl
      | some o =>
        have := k8 N2 o (fun q => by rw [q, ea8] at nN2; cases nN2) (sm6 _ _ hN)
        rw [nN2] at this
        cases this)
    · rintro rfl
      rw [eN7] at ea7'
      cases ea7'
    · intro q
      have := ht e he
      rw [q, ea7'] at this
      cases this
    · intro q
      have := ht e he
      have z := sm7 D _ upd_same
      rw [q, z] at this
      cases this
    · rw [upd_ne]
      · rw [upd_ne DN2]
        exact eN9
      · rintro rfl
        have := s89 _ _ ea8
        rw [upd_ne DN2, eN9] at this
        cases this
end
end NK
/-! who is reached -/
namespace NK
open PySem PySem.Spec PyProof.Rows L2 He K1
/-- reached from s by neighbours, among those of A -/
inductive Rch (nb : Str → List Str) (A : Str → Prop) (s : Str) : Str → Prop
  | base : Rch nb A s s
  | step {x y : Str} : Rch nb A s x → y ∈ nb x → A y → Rch nb A s y
theorem Rch.trans {nb : Str → List Str} {A : Str → Prop} {s x y : Str} (h : Rch nb A s x) (k : Rch nb A x y) : Rch nb A s y := by
  induction k with
  | base => exact h
  | step _ m a ih => exact .step ih m a
theorem Rch.mono {nb : Str → List Str} {A B : Str → Prop} {s y : Str} (h : ∀ z, A z → B z) (k : Rch nb A s y) : Rch nb B s y := by
  induction k with
  | base => exact .base
  | step _ m a ih => exact .step ih m (h _ a)
theorem Rch.in_ {nb : Str → List Str} {A : Str → Prop} {s y : Str} (hs : A s) (k : Rch nb A s y) : A y := by
  cases k with
  | base => exact hs
  | step _ _ a => exact a
theorem Rch.symm {nb : Str → List Str} {A : Str → Prop} (sy : ∀ x y, A x → y ∈ nb x → A y → x ∈ nb y) {s y : Str} (hs : A s) (k : Rch nb A s y) : Rch nb A y s := by
  induction k with
  | base => exact .base
  | step k0 m a ih => exact Rch.trans (.step .base (sy _ _ (k0.in_ hs) m a) (k0.in_ hs)) ih
/-- on the way: found, waiting -/
structure Dfs (nb : Str → List Str) (A : Str → Prop) (bs : List Str) (s : Str) (Fs Ws : List Str) : Prop where
  s_in : s ∈ Fs
  nd : Fs.Nodup
  ok : ∀ x ∈ Fs, Rch nb A s x ∧ x ∈ bs
  sub : ∀ x ∈ Ws, x ∈ Fs
  wnd : Ws.Nodup
  cl : ∀ x ∈ Fs, x ∉ Ws → ∀ y ∈ nb x, A y → y ∈ Fs
theorem Dfs.start {nb : Str → List Str} {A : Str → Prop} {bs : List Str} {s : Str} (h : s ∈ bs) : Dfs nb A bs s [s] [s] :=
  ⟨List.mem_singleton.mpr rfl, List.nodup_cons.mpr ⟨List.not_mem_nil, List.nodup_nil⟩, fun x m => by
    rw [List.mem_singleton.mp m]
    exact ⟨.base, h⟩, fun _ m => m, List.nodup_cons.mpr ⟨List.not_mem_nil, List.nodup_nil⟩, fun x m n => absurd m n⟩
theorem Dfs.done {nb : Str → List Str} {A : Str → Prop} {bs : List Str} {s : Str} {Fs : List Str} (d : Dfs nb A bs s Fs []) (y : Str) : y ∈ Fs ↔ Rch nb A s y := by
  refine ⟨fun m => (d.ok y m).1, fun k => ?_⟩
  induction k with
  | base => exact d.s_in
  | step _ m a ih => exact d.cl _ ih List.not_mem_nil _ m a
theorem Dfs.turn {nb : Str → List Str} {A : Str → Prop} {bs : List Str} {s : Str} {Fs Ws : List Str} {x : Str} (d : Dfs nb A bs s Fs (Ws ++ [x])) {fu : List Str} (fnd : fu.Nodup) (hf : ∀ y, y ∈ fu ↔ y ∈ nb x ∧ A y ∧ y ∉ Fs) (hb : ∀ y ∈ nb x, y ∈ bs) :
    Dfs nb A bs s (Fs ++ fu) (Ws ++ fu) := by
  have hx : x ∈ Fs := d.sub x (List.mem_append.mpr (.inr (List.mem_singleton.mpr rfl)))
  refine ⟨List.mem_append.mpr (.inl d.s_in), List.nodup_append.mpr ⟨d.nd, fnd, fun a ha b hb' e => ?_⟩, fun z hz => ?_, fun z hz => ?_, ?_, fun z hz nz y hy ay => ?_⟩
  · exact ((hf b).mp hb').2.2 (e ▸ ha)
  · rcases List.mem_append.mp hz with hz | hz
    · exact d.ok z hz
    · obtain ⟨h1, h2, _⟩ := (hf z).mp hz
      exact ⟨.step (d.ok x hx).1 h1 h2, hb z h1⟩
  · rcases List.mem_append.mp hz with hz | hz
    · exact List.mem_append.mpr (.inl (d.sub z (List.mem_append.mpr (.inl hz))))
    · exact List.mem_append.mpr (.inr hz)
  · have wn := List.nodup_append.mp d.wnd
    refine List.nodup_append.mpr ⟨wn.1, fnd, fun a ha b hb' e => ?_⟩
    exact ((hf b).mp hb').2.2 (d.sub b (List.mem_append.mpr (.inl (e ▸ ha))))
  · rw [List.mem_append, not_or] at nz
    rcases List.mem_append.mp hz with hz | hz
    · by_cases e : z = x
      · subst e
        by_cases m : y ∈ Fs
        · exact List.mem_append.mpr (.inl m)
        · exact List.mem_append.mpr (.inr ((hf y).mpr ⟨hy, ay, m⟩))
      · refine List.mem_append.mpr (.inl (d.cl z hz (fun m => ?_) y hy ay))
        rcases List.mem_append.mp m with m | m
        · exact nz.1 m
        · exact e (List.mem_singleton.mp m)
    · exact absurd hz nz.2
/-! ### tables of names, all true -/
def ktab (F : List Str) : List (Key × V) := F.map fun x => (Sum.inr x, V.bl true)
theorem ktab_keys (F : List Str) : (ktab F).map (·.1) = F.map fun x => (Sum.inr x : Key) := by
  unfold ktab
  rw [List.map_map]
  rfl
theorem ktab_mem {F : List Str} {y : Str} : (valV (ktab F) (Sum.inr y)).isSome = true ↔ y ∈ F := by
  constructor
  · intro h
    by_cases m : y ∈ F
    · exact m
    · rw [valV_app_none] at h
      · cases h
      · rw [ktab_keys]
        intro q
        obtain ⟨z, hz, e⟩ := List.mem_map.mp q
        exact m (by rw [← Sum.inr.inj e]; exact hz)
  · intro h
    refine valV_key ?_
    rw [ktab_keys]
    exact List.mem_map.mpr ⟨y, h, rfl⟩
theorem ktab_merge {F G : List Str} (nd : G.Nodup) (h : ∀ x ∈ G, x ∉ F) : mergeK (ktab F) (ktab G) = ktab (F ++ G) := by
  rw [merge_new]
  · unfold ktab
    rw [List.map_append]
  · rw [ktab_keys]
    exact inr_nodup nd
  · intro k hk
    rw [ktab_keys] at hk ⊢
    obtain ⟨z, hz, rfl⟩ := List.mem_map.mp hk
    intro q
    obtain ⟨y, hy, e⟩ := List.mem_map.mp q
    exact h z hz (by rw [← Sum.inr.inj e]; exact hy)
theorem ktab_put {F : List Str} {z : Str} (h : z ∉ F) : putK (ktab F) (Sum.inr z) (V.bl true) = ktab (F ++ [z]) := by
  have := ktab_merge (F := F) (G := [z]) (List.nodup_cons.mpr ⟨List.not_mem_nil, List.nodup_nil⟩) fun x hx => by
    rw [List.mem_singleton.mp hx]
    exact h
  exact this
theorem ktab_len (F : List Str) : (ktab F).length = F.length := List.length_map ..
/-- a table whose names are those of As -/
def Among (H : Hp) (m : Addr) (As : List Str) : Prop := ∃ kvs : List (Key × V), H m = some (.dK kvs) ∧ ∀ y, (valV kvs (Sum.inr y)).isSome = true ↔ y ∈ As
theorem Among.same {H H' : Hp} {m : Addr} {As : List Str} (s : Same H H') (a : Among H m As) : Among H' m As := let ⟨k, e, h⟩ := a; ⟨k, s _ _ e, h⟩
theorem Among.at {H : Hp} {m : Addr} {As : List Str} (a : Among H m As) (y : Str) : ∃ o, DGet H m (.str y) o ∧ o.isSome = decide (y ∈ As) := by
  obtain ⟨k, e, h⟩ := a
  refine ⟨_, .inl ⟨k, .inr y, .inl e, rfl, rfl⟩, ?_⟩
  by_cases hy : y ∈ As
  · rw [decide_eq_true hy, (h y).mpr hy]
  · rw [decide_eq_false hy, ← Bool.not_eq_true]
    exact fun q => hy ((h y).mp q)
section
variable {X : Cx}
def rDupd : V → List V → Hp → VK → Prop := fun x vs H Q => ∃ (a b : Addr) (kvs more : List (Key × V)), x = .ref a ∧ vs = [.ref b] ∧ a ≠ b ∧ H a = some (.dK kvs) ∧ H b = some (.dK more) ∧ kvs.length + more.length ≤ sizeLine ∧ Q .non (upd H a (.dK (mergeK kvs more)))
theorem mt_dupdate : MtM X "dict.update" rDupd := by
  intro pins s σ H x vs v us Q I rx rv h
  obtain ⟨a, b, kvs, more, rfl, rfl, ne, ha, hb, hz, q⟩ := h
  cases rx
  obtain ⟨u, rfl, ru⟩ := rv.one
  obtain rfl : u = Value.ref b := ru
  obtain ⟨z1, hd1, vs1, rel1, dd1⟩ := dk_of I.hok ha
  obtain ⟨z2, hd2, vs2, rel2, dd2⟩ := dk_of I.hok hb
  refine call_meetsIn PySem.F.slot_dict_update dd1.typeIs PySem.F.entry_dict_update (PySem.F.args_dict_update_2 _ _) (meets_dict_update (mixKind X.prog X.w) a b ne hd2) ⟨vs1, vs2, dd1, dd2, by rw [← rel1.length, ← rel2.length]; exact hz, fun h' dd' ddo hs => ?_⟩
  have he : ∃ q, h'.get? a = some q := let ⟨q, _, _, hq, _⟩ := dd'; ⟨q, hq⟩
  refine ⟨.non, _, d_write (t' := s.toks) I (by rw [ha]; exact True.intro) hs he (dk_new (Nat.le_trans (length_mergeK more kvs) hz) hd1 (KV.merge rel2 rel1) dd'), rfl, q⟩
end
end NK
/-! what is asked of a made net -/
namespace NK
open PySem PySem.Spec PyProof.Rows L2 He K1
/-- what holds of any net's data -/
structure NetF (N : NetD) : Prop where
  asc : Asc sl N.bs
  word : ∀ z ∈ N.bs, Word z
  pos : 1 ≤ N.bs.length
  few : N.bs.length < 64
  tnd : N.ts.Nodup
  tfew : N.ts.length < 64
  tin : ∀ t ∈ N.ts, t.1 ∈ N.bs ∧ t.2 ∈ N.bs ∧ sl t.1 t.2 = true
  wish : ∀ z ∈ N.bs, wish3 (N.wf z)
def Made (C : Addr) (H : Hp) (a : Addr) (N : NetD) : Prop := MadeAt C H a N.bs N.ts N.wf
theorem Made.same {C : Addr} {H H' : Hp} {a : Addr} {N : NetD} (s : Same H H') (m : Made C H a N) : Made C H' a N := MadeAt.same s m
/-- its wishes may be read -/
def WishOn (C : Addr) (H : Hp) (a : Addr) (N : NetD) : Prop := ∃ dx nr wr : Addr, H a = some (.ins C dx [("near", .ref nr), ("wish", .ref wr)]) ∧ H wr = some (.dK (wtab N.bs N.wf))
theorem Made.wish {C : Addr} {H : Hp} {a : Addr} {N : NetD} (m : Made C H a N) : WishOn C H a N := by
  obtain ⟨dx, nr, wr, tt, a1, a2, a3, a4, a5⟩ := m.ex
  exact ⟨dx, nr, wr, a1, a5⟩
theorem WishOn.same {C : Addr} {H H' : Hp} {a : Addr} {N : NetD} (s : Same H H') (m : WishOn C H a N) : WishOn C H' a N := by
  obtain ⟨dx, nr, wr, a1, a5⟩ := m
  exact ⟨dx, nr, wr, s _ _ a1, s _ _ a5⟩
def isF (N : NetD) (x : Str) : Bool := !decide (N.wf x = "stuck")
def fr (N : NetD) : List Str := N.bs.filter (isF N)
def nb (N : NetD) (x : Str) : List Str := nbrs N.bs N.ts x
theorem dec_vstr (a b : Str) : decide (V.str a = V.str b) = decide (a = b) := decide_eq_decide.mpr ⟨fun h => V.str.inj h, fun h => by rw [h]⟩
theorem kit_self (K : PySem.W.Frag) (t : Value) : PySem.W.kitOne K t t = some true := by
  unfold PySem.W.kitOne
  rw [if_pos (beq_self_eq_true t)]
/-- a new list of texts -/
def newL (zs : List Str) (Q : VK) (H : Hp) : Prop := ∀ (D : Addr) (H' : Hp), H D = none → H' D = some (.lst (zs.map V.str)) → Same H H' → Q (.ref D) H'
theorem NetC.ty {K : PySem.W.Frag} {C : Addr} (c : NetC K C) {H : Hp} {a dx : Addr} {fs : List (Str × V)} (e : H a = some (.ins C dx fs)) : TyX K H (.ref a) (.ref C) := .base (.ins e c.cls c.ha c.hn c.htk c.hm)
section
variable {P : Program} {w : World} {K : PySem.W.Frag} {mg : Str → Option Value} {base : Heap} {C W : Addr}
def spIsLamp (C : Addr) : Sp := fun vs H Q _ => ∃ (a : Addr) (N : NetD) (x : Str), vs = [.ref a, .str x] ∧ Made C H a N ∧ x ∈ N.bs ∧ Q (.bl true) H
theorem ok_is_lamp {f : Addr} {fd : FuncData} (F : FnP K "is_lamp" s_is_lamp f fd) (B : FreeN mg) (NC : NetC K C) : FnOk P w K mg base CX0 1 f fd ["net", "value"] (spIsLamp C) := by
  refine fnP_ok F sc_is_lamp (fun vs H Q E h => ?_) (fun cdv A outer s H vs Q E hr h => ?_)
  · obtain ⟨a, N, x, rfl, _⟩ := h
    rfl
  · obtain ⟨a, N, x, rfl, m, hx, kk⟩ := h
    have nd := sc_is_lamp.nd
    have hu1 := room1 hr
    refine ⟨_, (pss_one (ps_ret (pe_and (pe_callB (k_isi (K := K) rfl) (by rfl) B.isi (by decide +kernel) (pa_cons (pv 1) (pa_cons (pe_bltn (v := .ty "str") (by rfl) B.str (by decide +kernel) rfl) pa_nil))) (pe_one (pe_cmp (pc_din hu1 (pv 1) (k_fld (K := K) rfl (pv 0) rfl)) rfl))))), ?_⟩
    obtain ⟨dx, nr, wr, tt, a1, a2, a3, a4, a5⟩ := m.ex
    have hk : (valV (tabR tt) (Sum.inr x)).isSome = true := valV_key (by
      rw [tabR_keys, a3]
      exact List.mem_map.mpr ⟨x, hx, rfl⟩)
    refine ⟨_, rfl, _, _, _, _, true, rfl, .ty "str", .base (.str x), rfl, true, rfl, ifT ?_⟩
    refine ⟨_, rfl, _, rfl, a, C, dx, _, _, rfl, a1, NC.cls, NC.near, rfl, nr, _, rfl, .inl ⟨tabR tt, .inr x, .inl a2, rfl, rfl⟩, ?_⟩
    rw [hk]
    exact kk
def spAreLamps (C : Addr) : Sp := fun vs H Q _ => ∃ (a p : Addr) (N : NetD), vs = [.ref a, .ref p] ∧ Made C H a N ∧ ((∃ zs : List Str, H p = some (.lst (zs.map V.str)) ∧ zs.length ≤ 1000 ∧ (∀ z ∈ zs, z ∈ N.bs) ∧ yes Q H) ∨ ((∃ xs, H p = some (.tup xs)) ∧ Q (.bl false) H))
theorem ok_are_lamps {f : Addr} {fd : FuncData} (F : FnP K "are_lamps" s_are_lamps f fd) (B : FreeN mg) (NC : NetC K C) (G_is_lamp : Has P w K mg base 1 "is_lamp" ["net", "value"] (spIsLamp C)) : FnOk P w K mg base CX0 2 f fd ["net", "value"] (spAreLamps C) := by
  refine fnP_ok F sc_are_lamps (fun vs H Q E h => ?_) (fun cdv A outer s H vs Q E hr h => ?_)
  · obtain ⟨a, p, N, rfl, _⟩ := h
    rfl
  · obtain ⟨a, p, N, rfl, m, h⟩ := h
    have nd := sc_are_lamps.nd
    refine ⟨_, (pss_one (ps_ret (pe_and (pe_callB (k_isi (K := K) rfl) (by rfl) B.isi (by decide +kernel) (pa_cons (pv 1) (pa_cons (pe_bltn (v := .ty "list") (by rfl) B.list (by decide +kernel) rfl) pa_nil))) (pe_one (pe_callB (k_all (K := K) rfl rfl) (by rfl) B.all (by decide +kernel) (pa_cons (pe_lc (own := [("lamp", 2)]) (g := gName 2) (tt := tYes) rfl nd (k_pil (K := K) rfl (pv 1)) (blkOk_by (N := nm_are_lamps) (sc := defScope s_are_lamps) (by decide +kernel)) (fun _ _ _ _ _ => (pg_name (i := 2) nd rfl (Or.inl rfl))) (fun _ _ _ _ _ => pts_nil) (fun _ _ _ _ _ => (pe_has G_is_lamp (hr.mono (by decide)) (pa_cons (pv 0) (pa_cons (pv 2) pa_nil))))) pa_nil)))))), ?_⟩
    rcases h with ⟨zs, ep, lz, hz, kk⟩ | ⟨⟨xs, ep⟩, kk⟩
    · refine ⟨_, rfl, _, _, _, _, true, rfl, .ty "list", .base (.lst ep), rfl, true, rfl, ifT ?_⟩
      refine ⟨_, rfl, p, rfl, ⟨_, SqL.of ep⟩, fun D nD => ?_⟩
      refine lc_list (K := K) (a := p) (xs := zs.map V.str) (fun i H' => Same H H' ∧ H' D = some (.lst ((List.replicate i true).map V.bl))) ⟨same_new nD, upd_same⟩ (fun i H' _ ⟨sm, _⟩ => SqL.of (sm _ _ ep)) ?_ ?_
      · rintro i x H' hx ⟨sm, eD⟩
        rw [List.getElem?_map] at hx
        cases ex : zs[i]? with
        | none =>
          rw [ex] at hx
          cases hx
        | some z =>
        rw [ex] at hx
        cases hx
        have hi := (List.getElem?_eq_some_iff.mp ex).1
        refine ⟨rfl, _, rfl, _, rfl, a, N, z, rfl, m.same sm, hz z (List.mem_of_getElem? ex), ?_⟩
        refine ⟨_, eD, by rw [List.length_map, List.length_replicate]; exact room_str _ (by omega), upd_same' sm nD, ?_⟩
        rw [upd_same, rep_snoc]
      · rintro H' ⟨sm, eD⟩
        refine ⟨D, _, rfl, SqL.of eD, ?_⟩
        rw [all_rep]
        exact kk H' sm
    · refine ⟨_, rfl, _, _, _, _, false, rfl, .ty "list", .base (.tup ep), rfl, false, rfl, ifF ?_⟩
      exact kk
def spIsFree (C : Addr) : Sp := fun vs H Q _ => ∃ (a : Addr) (N : NetD) (x : Str), vs = [.ref a, .str x] ∧ WishOn C H a N ∧ x ∈ N.bs ∧ Q (.bl (isF N x)) H
theorem ok_is_free {f : Addr} {fd : FuncData} (F : FnP K "is_free" s_is_free f fd) (B : FreeN mg) (NC : NetC K C) : FnOk P w K mg base CX0 1 f fd ["net", "lamp"] (spIsFree C) := by
  refine fnP_ok F sc_is_free (fun vs H Q E h => ?_) (fun cdv A outer s H vs Q E hr h => ?_)
  · obtain ⟨a, N, x, rfl, _⟩ := h
    rfl
  · obtain ⟨a, N, x, rfl, ⟨dx, nr, wr, a1, a5⟩, hx, kk⟩ := h
    have nd := sc_is_free.nd
    have hu1 := room1 hr
    refine ⟨_, (pss_one (ps_ret (pe_cmpR op_ne (pe_dget hu1 (k_fld (K := K) rfl (pv 0) rfl) (pv 1) (fun _ _ => rfl)) pe_str (nomark _)))), ?_⟩
    refine ⟨_, rfl, a, C, dx, _, _, rfl, a1, NC.cls, NC.wish, rfl, _, rfl, wr, .str (N.wf x), rfl, .inl ⟨_, .inr x, .inl a5, rfl, (wtab_at hx).symm⟩, rfl, ?_⟩
    rw [dec_vstr]
    exact kk
def spNeedNet (C : Addr) : Sp := fun vs H Q _ => ∃ (a : Addr) (N : NetD), vs = [.ref a] ∧ Made C H a N ∧ Q .non H
theorem ok_need_net {f : Addr} {fd : FuncData} (F : FnP K "need_net" s_need_net f fd) (B : FreeN mg) (NC : NetC K C) (TG : TopG K mg C W) : FnOk P w K mg base CX0 1 f fd ["net"] (spNeedNet C) := by
  refine fnP_ok F sc_need_net (fun vs H Q E h => ?_) (fun cdv A outer s H vs Q E hr h => ?_)
  · obtain ⟨a, N, rfl, _⟩ := h
    rfl
  · obtain ⟨a, N, rfl, m, kk⟩ := h
    have nd := sc_need_net.nd
    refine ⟨_, (pss_one (ps_if (pt_not (pt_val (pe_callB (k_isi (K := K) rfl) (by rfl) B.isi (by decide +kernel) (pa_cons (pv 0) (pa_cons (pe_glob (v := .ref C) rfl TG.net rfl) pa_nil))))) (pss_one ps_never) pss_nil)), ?_⟩
    obtain ⟨dx, nr, wr, tt, a1, a2, a3, a4, a5⟩ := m.ex
    refine ⟨_, rfl, _, _, _, _, true, rfl, .own C, NC.ty a1, kit_self K _, true, rfl, ?_⟩
    exact ite2 (fun h => by cases h) fun _ => kk
def spNeedLamp (C : Addr) : Sp := fun vs H Q _ => ∃ (a : Addr) (N : NetD) (x : Str), vs = [.ref a, .str x] ∧ Made C H a N ∧ x ∈ N.bs ∧ Q .non H
theorem ok_need_lamp {f : Addr} {fd : FuncData} (F : FnP K "need_lamp" s_need_lamp f fd) (B : FreeN mg) (G_is_lamp : Has P w K mg base 1 "is_lamp" ["net", "value"] (spIsLamp C)) (G_need_net : Has P w K mg base 1 "need_net" ["net"] (spNeedNet C)) : FnOk P w K mg base CX0 2 f fd ["net", "lamp"] (spNeedLamp C) := by
  refine fnP_ok F sc_need_lamp (fun vs H Q E h => ?_) (fun cdv A outer s H vs Q E hr h => ?_)
  · obtain ⟨a, N, x, rfl, _⟩ := h
    rfl
  · obtain ⟨a, N, x, rfl, m, hx, kk⟩ := h
    have nd := sc_need_lamp.nd
    refine ⟨_, (pss_cons (ps_expr (pe_has G_need_net (hr.mono (by decide)) (pa_cons (pv 0) pa_nil)))
      (pss_one (ps_if (pt_not (pt_val (pe_has G_is_lamp (hr.mono (by decide)) (pa_cons (pv 0) (pa_cons (pv 1) pa_nil))))) (pss_one ps_never) pss_nil))), ?_⟩
    refine ⟨_, rfl, a, N, rfl, m, ?_⟩
    refine ⟨_, rfl, _, rfl, a, N, x, rfl, m, hx, true, rfl, ?_⟩
    exact ite2 (fun h => by cases h) fun _ => kk
def spNeedSome (C : Addr) : Sp := fun vs H Q _ => ∃ (a p : Addr) (N : NetD) (zs : List Str), vs = [.ref a, .ref p] ∧ Made C H a N ∧ H p = some (.lst (zs.map V.str)) ∧ zs.length < 1000 ∧ 1 ≤ zs.length ∧ zs.Nodup ∧ (∀ z ∈ zs, z ∈ N.bs) ∧ ∀ H', Same H H' → Q .non H'
def spNeighbours (C : Addr) : Sp := fun vs H Q _ => ∃ (a : Addr) (N : NetD) (x : Str), vs = [.ref a, .str x] ∧ Made C H a N ∧ NetF N ∧ x ∈ N.bs ∧ newL (nb N x) Q H
/-- its neighbours, as they stand -/
theorem near_at {H : Hp} {N : NetD} {nr : Addr} {tt : List (Str × Addr)} {x : Str} (F : NetF N) (a2 : Rd H nr (.dK (tabR tt))) (a3 : tt.map (·.1) = N.bs) (a4 : ∀ e ∈ tt, H e.2 = some (.tup ((nbrs N.bs N.ts e.1).map V.str))) (hx : x ∈ N.bs) : ∃ T, DGet H nr (.str x) (some (.ref T)) ∧ H T = some (.tup ((nb N x).map V.str)) := by
  rw [← a3] at hx
  obtain ⟨e, he, rfl⟩ := List.mem_map.mp hx
  refine ⟨e.2, .inl ⟨_, .inr e.1, a2, rfl, (tabR_at ?_ he).symm⟩, a4 e he⟩
  rw [a3]
  exact asc_nodup ord_sl F.asc
end
end NK
/-! free lamps, stuck lamps, pieces -/
namespace NK
open PySem PySem.Spec PyProof.Rows L2 He K1
section
variable {P : Program} {w : World} {K : PySem.W.Frag} {mg : Str → Option Value} {base : Heap} {C W : Addr}
def sp_free_lamps (C : Addr) : Sp := fun vs H Q _ => ∃ (a : Addr) (N : NetD), vs = [.ref a] ∧ Made C H a N ∧ NetF N ∧ newL (N.bs.filter fun x => isF N x) Q H
def sp_stuck_lamps (C : Addr) : Sp := fun vs H Q _ => ∃ (a : Addr) (N : NetD), vs = [.ref a] ∧ Made C H a N ∧ NetF N ∧ newL (N.bs.filter fun x => !isF N x) Q H
theorem ok_free_lamps {f : Addr} {fd : FuncData} (F : FnP K "free_lamps" s_free_lamps f fd) (B : FreeN mg) (NC : NetC K C) (G_need_net : Has P w K mg base 1 "need_net" ["net"] (spNeedNet C)) (G_is_free : Has P w K mg base 1 "is_free" ["net", "lamp"] (spIsFree C)) : FnOk P w K mg base CX0 2 f fd ["net"] (sp_free_lamps C) := by
  refine fnP_ok F sc_free_lamps (fun vs H Q E h => ?_) (fun cdv A outer s H vs Q E hr h => ?_)
  · obtain ⟨a, N, rfl, _⟩ := h
    rfl
  · obtain ⟨a, N, rfl, m, NF, kk⟩ := h
    have nd := sc_free_lamps.nd
    refine ⟨_, (pss_cons (ps_expr (pe_has G_need_net (hr.mono (by decide)) (pa_cons (pv 0) pa_nil)))
      (pss_one (ps_ret (pe_lock (pe_lc (own := [("lamp", 1)]) (g := gName 1) rfl nd (pi_keys (k_fld (K := K) rfl (pv 0) rfl)) (blkOk_by (N := nm_free_lamps) (sc := defScope s_free_lamps) (by decide +kernel)) (fun _ _ _ _ _ => (pg_name (i := 1) nd rfl (Or.inl rfl))) (fun _ _ _ _ _ => (pts_one (pt_val (pe_has G_is_free (hr.mono (by decide)) (pa_cons (pv 0) (pa_cons (pv 1) pa_nil)))))) (fun _ _ _ _ _ => (pv 1))))))), ?_⟩
    refine ⟨_, rfl, a, N, rfl, m, ?_⟩
    obtain ⟨dx, nr, wr, tt, a1, a2, a3, a4, a5⟩ := m.ex
    have lt : tt.length = N.bs.length := by
      have := congrArg List.length a3
      rw [List.length_map] at this
      exact this
    have an : a ≠ nr := fun q => by
      rw [q, a2] at a1
      cases a1
    have wn : wr ≠ nr := fun q => by
      rw [q, a2] at a5
      have z := HO.dK.inj (Option.some.inj a5)
      have p := NF.pos
      cases tt with
      | nil =>
        rw [← lt] at p
        exact absurd p (by decide)
      | cons e r =>
        cases hb : N.bs with
        | nil =>
          rw [hb] at p
          exact absurd p (by decide)
        | cons b r' =>
          rw [hb] at z
          unfold tabR wtab at z
          rw [List.map_cons, List.map_cons] at z
          injection z with z _
          injection z with _ z
          cases z
    refine ⟨nr, _, a2, True.intro, fun od => ?_⟩
    have e1 : upd H nr (.frz od (.dK (tabR tt))) a = _ := (upd_ne an).trans a1
    have w1 : WishOn C (upd H nr (.frz od (.dK (tabR tt)))) a N := ⟨dx, nr, wr, e1, (upd_ne wn).trans a5⟩
    refine ⟨_, rfl, a, C, dx, _, _, rfl, e1, NC.cls, NC.near, rfl, nr, od, rfl, .inl ⟨tabR tt, upd_same, fun D nD => ?_⟩⟩
    have Dn : D ≠ nr := fun q => by
      rw [q, upd_same] at nD
      cases nD
    have nD0 : H D = none := by
      rw [upd_ne Dn] at nD
      exact nD
    refine lc_it walk_keys (fun i H' => Same (upd H nr (.frz od (.dK (tabR tt)))) H' ∧ H' D = some (.lst (((N.bs.take i).filter (fun x => isF N x)).map V.str))) ⟨same_new nD, upd_same⟩ (fun i H' _ h => h.1 _ _ upd_same) ?_ ?_
    · rintro i x H1 H' hi ⟨sm, eD⟩ ⟨rfl, k, v, ex, rfl⟩
      unfold tabR at ex hi
      rw [List.length_map] at hi
      rw [List.getElem?_map, List.getElem?_eq_getElem hi] at ex
      cases ex
      have ebi : N.bs[i]? = some tt[i].1 := by
        rw [← a3, List.getElem?_map, List.getElem?_eq_getElem hi]
        rfl
      generalize tt[i].1 = z at *
      have few := NF.few
      refine ⟨rfl, _, rfl, _, rfl, a, N, z, rfl, w1.same sm, List.mem_of_getElem? ebi, _, rfl, ?_⟩
      have len : (((N.bs.take i).filter (fun x => isF N x)).map V.str).length < sizeLine := by
        rw [List.length_map]
        have h1 := List.length_filter_le (fun x => isF N x) (N.bs.take i)
        rw [List.length_take] at h1
        exact room_str _ (by omega)
      have tk : (N.bs.take (i + 1)).filter (fun x => isF N x) = (N.bs.take i).filter (fun x => isF N x) ++ (if (fun x => isF N x) z = true then [z] else []) := by
        rw [List.take_add_one, ebi, List.filter_append]
        congr 1
        exact List.filter_cons ..
      rw [tk]
      refine ite2 (fun h => ?_) (fun h => ?_)
      · refine ⟨_, rfl, _, eD, len, upd_same' sm nD, ?_⟩
        rw [upd_same, if_pos h, List.map_append]
        rfl
      · refine ⟨sm, ?_⟩
        rw [if_neg h, List.append_nil]
        exact eD
    · rintro H' ⟨sm, eD⟩
      refine ⟨sm _ _ upd_same, kk D _ nD0 ?_ (same_unlock a2 sm)⟩
      rw [upd_ne Dn, eD, show (tabR tt).length = N.bs.length by unfold tabR; rw [List.length_map, lt], List.take_length]
end
end NK
/-! reached, pieces -/
namespace NK
open PySem PySem.Spec PyProof.Rows L2 He K1
/-- all that are reached, in order -/
noncomputable def reach (N : NetD) (As : List Str) (s : Str) : List Str := N.bs.filter fun y => @decide (Rch (nb N) (· ∈ As) s y) (Classical.propDecidable _)
theorem nb_in {N : NetD} {x y : Str} (h : y ∈ nb N x) : y ∈ N.bs := (mem_nbrs.mp h).1
theorem rch_in {N : NetD} {A : Str → Prop} {s y : Str} (hs : s ∈ N.bs) (k : Rch (nb N) A s y) : y ∈ N.bs := by
  cases k with
  | base => exact hs
  | step _ m _ => exact nb_in m
theorem mem_reach {N : NetD} {As : List Str} {s y : Str} (hs : s ∈ N.bs) : y ∈ reach N As s ↔ Rch (nb N) (· ∈ As) s y := by
  unfold reach
  rw [List.mem_filter]
  exact ⟨fun h => @of_decide_eq_true _ (Classical.propDecidable _) h.2, fun h => ⟨rch_in hs h, @decide_eq_true _ (Classical.propDecidable _) h⟩⟩
theorem reach_asc {N : NetD} (F : NetF N) (As : List Str) (s : Str) : Asc sl (reach N As s) := List.Pairwise.filter _ F.asc
theorem reach_uniq {N : NetD} (F : NetF N) {As : List Str} {s : Str} (hs : s ∈ N.bs) {ys : List Str} (h : Asc sl ys) (m : ∀ y, y ∈ ys ↔ Rch (nb N) (· ∈ As) s y) : ys = reach N As s :=
  asc_uniq ord_sl h (reach_asc F As s) fun y => by rw [m, mem_reach hs]
theorem nb_nodup {N : NetD} (F : NetF N) (x : Str) : (nb N x).Nodup := asc_nodup ord_sl (nbrs_asc F.asc N.ts x)
section
variable {P : Program} {w : World} {K : PySem.W.Frag} {mg : Str → Option Value} {base : Heap} {C W : Addr}
def spReached (C : Addr) : Sp := fun vs H Q _ => ∃ (a m : Addr) (N : NetD) (x : Str) (As : List Str), vs = [.ref a, .str x, .ref m] ∧ Made C H a N ∧ NetF N ∧ x ∈ N.bs ∧ Among H m As ∧ newL (reach N As x) Q H
theorem ok_reached {f : Addr} {fd : FuncData} (F : FnP K "_reached" s_reached f fd) (B : FreeN mg) (NC : NetC K C) : FnOk P w K mg base CX0 1 f fd ["net", "start", "among"] (spReached C) := by
  refine fnP_ok F sc_reached (fun vs H Q E h => ?_) (fun cdv A outer s H vs Q E hr h => ?_)
  · obtain ⟨a, m, N, x, As, rfl, _⟩ := h
    rfl
  · obtain ⟨a, m, N, x0, As, rfl, mad, NF, hx0, am, kk⟩ := h
    have nd := sc_reached.nd
    have hu1 := room1 hr
    refine ⟨_, (pss_cons (ps_set (i := 3) nd rfl (.inr rfl) (pe_disp (pps_cons (pv 1) pe_bl pps_nil) rfl rfl (by simp) (by decide)))
      (pss_cons (ps_set (i := 4) nd rfl (.inl rfl) (pe_lst (pa_cons (pv 1) pa_nil)))
      (pss_cons (ps_while PassesOwn.never (pt_truth (pv 4) (by intro _; rfl)) (pss_cons (ps_set (i := 5) nd rfl (.inl rfl) (pe_bm0 PySem.F.plainAttrs_list PySem.F.slot_list_pop PySem.F.type_list_pop mt_pop (pv 4)))
      (pss_cons (ps_setLc (i := 6) (own := [("other", 7)]) (g := gName 7) rfl nd rfl rfl (sw_true rfl rfl rfl (by decide +kernel)) (pi_tup (pe_dget hu1 (k_fld (K := K) rfl (pv 0) rfl) (pv 5) (fun _ _ => rfl))) (blkOk_by (N := nm_reached) (sc := defScope s_reached) (by decide +kernel)) (fun _ _ _ _ _ => (pg_name (i := 7) nd rfl (Or.inl rfl))) (fun _ _ _ _ _ => (pts_one (PW.pt (pw_and (pt_cmp (pc_din hu1 (pv 7) (pv 2))) (pw_and1 (pt_cmp (pc_dnotin hu1 (pv 7) (pv 3)))))))) (fun _ _ _ _ _ => (pv 7)))
      (pss_cons (ps_expr (pe_bm PySem.F.plainAttrs_dict PySem.F.slot_dict_update PySem.F.type_dict_update mt_dupdate (pv 3) (pa_cons (pe_dc (own := [("other", 7)]) (g := gName 7) (tt := tYes) rfl nd (k_pil (K := K) rfl (pv 6)) (blkOk_by (N := nm_reached) (sc := defScope s_reached) (by decide +kernel)) (fun _ _ _ _ _ => (pg_name (i := 7) nd rfl (Or.inl rfl))) (fun _ _ _ _ _ => pts_nil) (fun _ _ _ _ _ => (pv 7)) (fun _ _ _ _ _ => pe_bl)) pa_nil)))
      (pss_one (ps_expr (pe_bm PySem.F.plainAttrs_list PySem.F.slot_list_extend PySem.F.type_list_extend mt_extend (pv 4) (pa_cons (pv 6) pa_nil))))))))
      (pss_one (ps_ret (pe_callB (call_sortedD rfl) (by rfl) B.sorted (by decide +kernel) (pa_cons (pv 3) pa_nil))))))), ?_⟩
    have few := NF.few
    refine fun F nF => ⟨_, rfl, upd_same, [(.inr x0, .bl true)], rfl, by show 1 ≤ 15; decide, ?_⟩
    have e0 : upd (upd H F (.dK [])) F (.dK (mergeK [] [(.inr x0, .bl true)])) = upd H F (.dK (ktab [x0])) := by
      funext b
      by_cases h : b = F
      · subst h
        rw [upd_same, upd_same]
        rfl
      · rw [upd_ne h, upd_ne h, upd_ne h]
    rw [e0]
    have sF := same_new (o := .dK (ktab [x0])) nF
    refine ⟨_, rfl, by show 1 ≤ sizeLine; decide, fun Wd nW => ?_⟩
    have sW := same_new (o := .lst [.str x0]) nW
    have nW0 : H Wd = none := none_of_same sF nW
    have FW : F ≠ Wd := ne_of_none upd_same nW
    refine ⟨fun μ σ H' => ∃ (Fs Ws : List Str) (v5 v6 : Option V), σ = [some (.ref a), some (.str x0), some (.ref m), some (.ref F), some (.ref Wd), v5, v6, none] ∧ Same H H' ∧ H' F = some (.dK (ktab Fs)) ∧ H' Wd = some (.lst (Ws.map V.str)) ∧ Dfs (nb N) (· ∈ As) N.bs x0 Fs Ws ∧ μ = 2 * (N.bs.length - Fs.length) + Ws.length,
      ⟨_, [x0], [x0], none, none, rfl, sF.trans sW, sW _ _ upd_same, upd_same, Dfs.start hx0, rfl⟩, ?_⟩
    rintro μ σ H' ⟨Fs, Ws, v5, v6, rfl, sm, eF, eW, dfs, rfl⟩
    have lF : Fs.length ≤ N.bs.length := nodup_le dfs.nd fun y hy => (dfs.ok y hy).2
    refine ⟨_, rfl, !(Ws.map V.str).isEmpty, .inl ⟨_, SqL.of eW, rfl⟩, ?_⟩
    rcases List.eq_nil_or_concat Ws with rfl | ⟨Ws', x, rfl⟩
    · refine ifF ?_
      refine ⟨_, rfl, F, ktab Fs, Fs, rfl, .inl eF, ktab_keys Fs, by omega, fun ys p pm srt np => ?_⟩
      have ey := reach_uniq NF hx0 (asc_sortedS (pm.nodup_iff.mpr dfs.nd) srt) fun y => by rw [pm.mem_iff, dfs.done]
      subst ey
      exact kk p _ (none_of_same sm np) upd_same (sm.trans (same_new np))
    · rw [List.concat_eq_append] at *
      have ne : (!((Ws' ++ [x]).map V.str).isEmpty) = true := by
        rw [List.map_append]
        cases Ws'.map V.str <;> rfl
      rw [ne]
      refine ifT ⟨_, fun σ' H' n => n, ?_⟩
      -- pop
      have eW1 : (Ws' ++ [x]).map V.str = Ws'.map V.str ++ [V.str x] := by
        rw [List.map_append]
        rfl
      refine ⟨_, rfl, .inl ⟨rfl, _, SqL.of eW⟩, Wd, _, .str x, rfl, rfl, eW, ?_, ?_⟩
      · rw [eW1, List.length_append, List.getElem?_append_right (by show _ ≤ _ + 1 - 1; omega)]
        have : (Ws'.map V.str).length + [V.str x].length - 1 - (Ws'.map V.str).length = 0 := by show _ + 1 - 1 - _ = 0; omega
        rw [this]
        rfl
      rw [eW1, List.dropLast_concat]
      have WF : Wd ≠ F := Ne.symm FW
      have sm1 : Same H (upd H' Wd (.lst (Ws'.map V.str))) := upd_same' sm nW0
      have eF1 : upd H' Wd (.lst (Ws'.map V.str)) F = some (.dK (ktab Fs)) := by rw [upd_ne FW]; exact eF
      have eWd : upd H' Wd (.lst (Ws'.map V.str)) Wd = some (.lst (Ws'.map V.str)) := upd_same
      generalize upd H' Wd (.lst (Ws'.map V.str)) = H1 at *
      have hx : x ∈ Fs := dfs.sub x (List.mem_append.mpr (.inr (List.mem_singleton.mpr rfl)))
      have hxb := (dfs.ok x hx).2
      obtain ⟨dx, nr, wr, tt, a1, a2, a3, a4, a5⟩ := (mad.same sm1).ex
      obtain ⟨T, g, eT⟩ := near_at NF (.inl a2) a3 a4 hxb
      refine ⟨_, rfl, a, C, dx, _, _, rfl, a1, NC.cls, NC.near, rfl, _, rfl, nr, .ref T, rfl, g, T, rfl, ⟨_, SqT.of eT⟩, fun G nG => ?_⟩
      have GF : F ≠ G := ne_of_none eF1 nG
      have GW : Wd ≠ G := ne_of_none eWd nG
      refine lc_tup (K := K) (a := T) (xs := (nb N x).map V.str) (fun i H2 => Same H1 H2 ∧ H2 G = some (.lst ((((nb N x).take i).filter fun y => decide (y ∈ As) && !decide (y ∈ Fs)).map V.str))) ⟨same_new nG, upd_same⟩ (fun i H2 _ ⟨s2, _⟩ => SqT.of (s2 _ _ eT)) ?_ ?_
      · rintro i v H2 hv ⟨s2, eG⟩
        rw [List.getElem?_map] at hv
        cases ey : (nb N x)[i]? with
        | none =>
          rw [ey] at hv
          cases hv
        | some y =>
        rw [ey] at hv
        cases hv
        have hi := (List.getElem?_eq_some_iff.mp ey).1
        have lnb : (nb N x).length ≤ N.bs.length := List.length_filter_le _ _
        obtain ⟨o1, g1, q1⟩ := ((am.same sm1).same s2).at y
        have hF : valV (ktab Fs) (Sum.inr y) = valV (ktab Fs) (Sum.inr y) := rfl
        have q2 : (valV (ktab Fs) (Sum.inr y)).isSome = decide (y ∈ Fs) := by
          by_cases hy : y ∈ Fs
          · rw [decide_eq_true hy, ktab_mem.mpr hy]
          · rw [decide_eq_false hy, ← Bool.not_eq_true]
            exact fun q => hy (ktab_mem.mp q)
        have tk : ((nb N x).take (i + 1)).filter (fun y => decide (y ∈ As) && !decide (y ∈ Fs)) = ((nb N x).take i).filter (fun y => decide (y ∈ As) && !decide (y ∈ Fs)) ++ (if (decide (y ∈ As) && !decide (y ∈ Fs)) = true then [y] else []) := by
          rw [List.take_add_one, ey, List.filter_append]
          congr 1
          exact List.filter_cons ..
        refine ⟨rfl, _, rfl, _, rfl, m, o1, rfl, g1, _, rfl, ?_⟩
        rw [q1, tk]
        have fin0 : ¬ (decide (y ∈ As) && !decide (y ∈ Fs)) = true → Same H1 H2 ∧ H2 G = some (.lst ((((nb N x).take i).filter (fun y => decide (y ∈ As) && !decide (y ∈ Fs)) ++ (if (decide (y ∈ As) && !decide (y ∈ Fs)) = true then [y] else [])).map V.str)) := fun h => by
          rw [if_neg h, List.append_nil]
          exact ⟨s2, eG⟩
        refine ite2 (fun h1 => ?_) (fun h1 => ?_)
        · refine ⟨_, rfl, _, rfl, F, _, rfl, .inl ⟨ktab Fs, .inr y, .inl (s2 _ _ eF1), rfl, rfl⟩, _, rfl, ?_⟩
          rw [q2]
          refine ite2 (fun h2 => ?_) (fun h2 => ?_)
          · refine ⟨_, rfl, _, eG, ?_, upd_same' s2 nG, ?_⟩
            · rw [List.length_map]
              have h3 := List.length_filter_le (fun y => decide (y ∈ As) && !decide (y ∈ Fs)) ((nb N x).take i)
              rw [List.length_take] at h3
              exact room_str _ (by omega)
            · rw [upd_same, h1, h2, List.map_append]
              rfl
          · exact fin0 (by rw [h1]; simpa using h2)
        · exact ifF (fin0 fun q => h1 (by rw [Bool.and_eq_true] at q; exact q.1))
      · rintro H2 ⟨s2, eG⟩
        rw [show ((nb N x).map V.str).length = (nb N x).length from List.length_map .., List.take_length] at eG
        have fmem : ∀ y, y ∈ (nb N x).filter (fun y => decide (y ∈ As) && !decide (y ∈ Fs)) ↔ y ∈ nb N x ∧ y ∈ As ∧ y ∉ Fs := fun y => by
          rw [List.mem_filter, Bool.and_eq_true, decide_eq_true_eq, Bool.not_eq_true', decide_eq_false_iff_not]
        have fnd : ((nb N x).filter (fun y => decide (y ∈ As) && !decide (y ∈ Fs))).Nodup := List.Pairwise.filter _ (nb_nodup NF x)
        generalize (nb N x).filter (fun y => decide (y ∈ As) && !decide (y ∈ Fs)) = fu at *
        have dfs2 := dfs.turn fnd fmem fun y hy => nb_in hy
        have lfu : (Fs ++ fu).length ≤ N.bs.length := nodup_le dfs2.nd fun y hy => (dfs2.ok y hy).2
        rw [List.length_append] at lfu
        have eF2 := s2 _ _ eF1
        have eW2 := s2 _ _ eWd
        have lW : Ws'.length ≤ 200 ∨ True := .inr trivial
        refine ⟨_, rfl, .inr (.inr (.inl ⟨rfl, .inl ⟨_, eF2⟩⟩)), _, rfl, G, rfl, ⟨_, SqL.of eG⟩, fun D2 nD2 => ?_⟩
        refine dc_it walk_list (fun i H3 => Same H2 H3 ∧ H3 D2 = some (.dK (ktab (fu.take i)))) ⟨same_new nD2, upd_same⟩ (fun i H3 _ h => SqL.of (xs := fu.map V.str) (h.1 _ _ eG)) ?_ ?_
        · rintro i v H3 H4 hi ⟨s3, eD⟩ ⟨rfl, hv⟩
          rw [List.getElem?_map] at hv
          cases ey : fu[i]? with
          | none =>
            rw [ey] at hv
            cases hv
          | some y =>
          rw [ey] at hv
          cases hv
          refine ⟨rfl, _, rfl, ktab (fu.take i), .inr y, rfl, eD, ?_, upd_same' s3 nD2, ?_⟩
          · rw [ktab_len, List.length_take]
            exact room_str _ (by omega)
          · rw [upd_same, ktab_put (take_new fnd ey), List.take_add_one, ey]
            rfl
        · rintro H3 ⟨s3, eD⟩
          rw [List.length_map, List.take_length] at eD
          have F2 : F ≠ D2 := ne_of_none eF2 nD2
          have W2 : Wd ≠ D2 := ne_of_none eW2 nD2
          refine ⟨F, D2, ktab Fs, ktab fu, rfl, rfl, F2, s3 _ _ eF2, eD, by rw [ktab_len, ktab_len]; exact room_le _ (by omega), ?_⟩
          rw [ktab_merge fnd fun y hy => ((fmem y).mp hy).2.2]
          have eW3 : upd H3 F (.dK (ktab (Fs ++ fu))) Wd = some (.lst (Ws'.map V.str)) := by rw [upd_ne WF]; exact s3 _ _ eW2
          have eG3 : upd H3 F (.dK (ktab (Fs ++ fu))) G = some (.lst (fu.map V.str)) := by rw [upd_ne (Ne.symm GF)]; exact s3 _ _ eG
          have lWs : (Ws' ++ fu).length ≤ (Fs ++ fu).length := nodup_le dfs2.wnd dfs2.sub
          rw [List.length_append, List.length_append] at lWs
          refine ⟨_, rfl, .inl ⟨rfl, _, SqL.of eW3⟩, _, rfl, Wd, G, _, _, rfl, rfl, eW3, eG3, by rw [List.length_map, List.length_map]; exact room_le _ (by omega), ?_⟩
          have smf := (sm1.trans s2).trans s3
          refine ⟨2 * (N.bs.length - (Fs ++ fu).length) + (Ws' ++ fu).length, ?_, Fs ++ fu, Ws' ++ fu, _, _, rfl, upd_same' (upd_same' smf nF) nW0, ?_, ?_, dfs2, rfl⟩
          · simp only [List.length_append, List.length_cons, List.length_nil]
            omega
          · rw [upd_ne FW]
            exact upd_same
          · rw [upd_same, List.map_append]
end
end NK
/-! pieces -/
namespace NK
open PySem PySem.Spec PyProof.Rows L2 He K1
theorem eqv_strs : ∀ xs ys : List Str, PyData.eqv (.list (xs.map PyData.str)) (.list (ys.map PyData.str)) = decide (xs = ys) := by
  intro xs ys
  rw [PyData.eqv]
  induction xs generalizing ys with
  | nil => cases ys <;> simp [PyData.eqvAll]
  | cons x xs ih =>
    cases ys with
    | nil => simp [PyData.eqvAll]
    | cons y ys =>
      rw [List.map_cons, List.map_cons, PyData.eqvAll, ih ys, PyData.eqv]
      by_cases h : x = y
      · subst h
        simp
      · simp [h]
theorem at0 (v : V) (l : List V) : atI (v :: l) 0 = some v := by
  have := atI_nat (xs := v :: l) (j := 0) (v := v) rfl
  exact this
theorem dp_strs {K : PySem.W.Frag} {H : Hp} : ∀ ns : List Str, DpAll K H (ns.map V.str) (ns.map PyData.str)
  | [] => .nil
  | n :: ns => .cons (.str n) (dp_strs ns)
theorem word_ok {z : Str} (h : Word z) : (PyData.str z).canLay0 = true := by
  show z.cps.all (· < 0x110000) = true
  rw [Array.all_eq_true_iff_forall_mem]
  intro c hc
  have := h.2.2 c (Array.mem_toList_iff.mpr hc)
  exact decide_eq_true (by omega)
theorem shaped_strs {ns : List Str} (h : ∀ z ∈ ns, Word z) : SeqAt.shaped (.list (ns.map PyData.str)) = true := shaped_list (n := 0) (by decide) fun d hd => by
  obtain ⟨i, hi, rfl⟩ := List.mem_map.mp hd
  exact ⟨word_ok (h i hi), Nat.le_refl 0⟩
theorem valV_merge : ∀ (more kvs : List (Key × V)) (k : Key), (valV (mergeK kvs more) k).isSome = true ↔ (valV kvs k).isSome = true ∨ k ∈ more.map (·.1)
  | [], kvs, k => by
    show (valV kvs k).isSome = true ↔ _
    simp
  | p :: r, kvs, k => by
    show (valV (mergeK (putK kvs p.1 p.2) r) k).isSome = true ↔ _
    rw [valV_merge r, valV_put, List.map_cons, List.mem_cons]
    by_cases h : k = p.1
    · rw [if_pos h]
      simp [h]
    · rw [if_neg h]
      constructor
      · rintro (h1 | h1)
        · exact .inl h1
        · exact .inr (.inr h1)
      · rintro (h1 | h1 | h1)
        · exact .inl h1
        · exact absurd h1 h
        · exact .inr h1
/-- the piece of a lamp -/
noncomputable def pc (N : NetD) (x : Str) : List Str := reach N (fr N) x
noncomputable def pstep (N : NetD) (acc : List (List Str)) (x : Str) : List (List Str) := if x ∈ acc.flatten then acc else acc ++ [pc N x]
/-- all pieces, in order -/
noncomputable def pcs (N : NetD) : List (List Str) := (fr N).foldl (pstep N) []
def LsAt (H : Hp) (ls : List (Addr × List Str)) : Prop := ∀ l ∈ ls, H l.1 = some (.lst (l.2.map V.str))
def lrefs (ls : List (Addr × List Str)) : List V := ls.map fun l => V.ref l.1
theorem LsAt.same {H H' : Hp} {ls : List (Addr × List Str)} (s : Same H H') (h : LsAt H ls) : LsAt H' ls := fun l m => s _ _ (h l m)
def newLL (zss : List (List Str)) (Q : VK) (H : Hp) : Prop := ∀ (D : Addr) (H' : Hp) (ls : List (Addr × List Str)), H D = none → H' D = some (.lst (lrefs ls)) → ls.map (·.2) = zss → LsAt H' ls → (∀ l ∈ ls, H l.1 = none) → Same H H' → Q (.ref D) H'
theorem fr_in {N : NetD} {x : Str} (h : x ∈ fr N) : x ∈ N.bs := (List.mem_filter.mp h).1
theorem fr_len (N : NetD) : (fr N).length ≤ N.bs.length := List.length_filter_le _ _
theorem pc_len (N : NetD) (x : Str) : (pc N x).length ≤ N.bs.length := List.length_filter_le _ _
/-- is it a piece? -/
noncomputable def isP (N : NetD) : List Str → Bool
  | [] => false
  | z :: r => isF N z && decide (z :: r = pc N z)
section
variable {P : Program} {w : World} {K : PySem.W.Frag} {mg : Str → Option Value} {base : Heap} {C W : Addr}
/-- {x: True for x in a list} -/
theorem dc_names {K : PySem.W.Frag} {p D : Addr} {zs : List Str} {σ : L2.St} {i : Nat} {H : Hp} {Q : Hp → Prop} (ep : H p = some (.lst (zs.map V.str))) (nD : H D = none) (nd : zs.Nodup) (lz : zs.length ≤ 1000) (hw : ∀ v : V, wipe ((wipe σ [i]).set i (some v)) [i] = wipe σ [i]) (hv : ∀ v : V, ((wipe σ [i]).set i (some v))[i]? = some (some v))
    (k : ∀ H', Same H H' → H' D = some (.dK (ktab zs)) → Q H') :
    ∃ W : Nat → Nat → Hp → Prop, (∃ m, W 0 m (upd H D (.dK []))) ∧ ∀ j m H, W j m H →
      ((Itl K p).stop j H ∧ Q H) ∨ ((Itl K p).go j H ∧ ∃ Nx : Hp → Prop, (∀ H', Nx H' → ∃ m', m' < m ∧ W (j + 1) m' H') ∧ ∀ x H', (Itl K p).yld j H x H' → gName i x (wipe σ [i]) H' fun σ2 H2 => wipe σ2 [i] = wipe σ [i] ∧ tYes σ2 H2 fun b H3 =>
        if b = true then (tVar i) σ2 H3 fun y H4 => (tC (.bl true)) σ2 H4 fun z H5 => ∃ kvs k, y = kV k ∧ H5 D = some (.dK kvs) ∧ kvs.length < sizeLine ∧ Nx (upd H5 D (.dK (putK kvs k z))) else Nx H3) := by
  refine dc_it walk_list (fun j H3 => Same H H3 ∧ H3 D = some (.dK (ktab (zs.take j)))) ⟨same_new nD, upd_same⟩ (fun j H3 _ h => SqL.of (xs := zs.map V.str) (h.1 _ _ ep)) ?_ ?_
  · rintro j v H3 H4 hj ⟨s3, eD⟩ ⟨rfl, hx⟩
    rw [List.getElem?_map] at hx
    cases ey : zs[j]? with
    | none =>
      rw [ey] at hx
      cases hx
    | some y =>
    rw [ey] at hx
    cases hx
    refine ⟨hw _, _, hv _, ktab (zs.take j), .inr y, rfl, eD, ?_, upd_same' s3 nD, ?_⟩
    · rw [ktab_len, List.length_take]
      exact room_str _ (by omega)
    · rw [upd_same, ktab_put (take_new nd ey), List.take_add_one, ey]
      rfl
  · rintro H3 ⟨s3, eD⟩
    rw [List.length_map, List.take_length] at eD
    exact k H3 s3 eD
theorem fr_nodup {N : NetD} (F : NetF N) : (fr N).Nodup := List.Pairwise.filter _ (asc_nodup ord_sl F.asc)
theorem pc_nodup {N : NetD} (F : NetF N) (x : Str) : (pc N x).Nodup := asc_nodup ord_sl (reach_asc F _ x)
def spPieceWith (C : Addr) : Sp := fun vs H Q _ => ∃ (a : Addr) (N : NetD) (x : Str), vs = [.ref a, .str x] ∧ Made C H a N ∧ NetF N ∧ x ∈ N.bs ∧ newL (pc N x) Q H
theorem ok_piece_with {f : Addr} {fd : FuncData} (F : FnP K "_piece_with" s_piece_with f fd) (B : FreeN mg) (G_free_lamps : Has P w K mg base 2 "free_lamps" ["net"] (sp_free_lamps C)) (G__reached : Has P w K mg base 1 "_reached" ["net", "start", "among"] (spReached C)) : FnOk P w K mg base CX0 3 f fd ["net", "lamp"] (spPieceWith C) := by
  refine fnP_ok F sc_piece_with (fun vs H Q E h => ?_) (fun cdv A outer s H vs Q E hr h => ?_)
  · obtain ⟨a, N, x, rfl, _⟩ := h
    rfl
  · obtain ⟨a, N, x, rfl, m, NF, hx, kk⟩ := h
    have nd := sc_piece_with.nd
    refine ⟨_, (pss_one (ps_ret (pe_has G__reached (hr.mono (by decide)) (pa_cons (pv 0) (pa_cons (pv 1) (pa_cons (pe_dc (own := [("free", 2)]) (g := gName 2) (tt := tYes) rfl nd (k_pil (K := K) rfl (pe_has G_free_lamps (hr.mono (by decide)) (pa_cons (pv 0) pa_nil))) (blkOk_by (N := nm_piece_with) (sc := defScope s_piece_with) (by decide +kernel)) (fun _ _ _ _ _ => (pg_name (i := 2) nd rfl (Or.inl rfl))) (fun _ _ _ _ _ => pts_nil) (fun _ _ _ _ _ => (pv 2)) (fun _ _ _ _ _ => pe_bl)) pa_nil)))))), ?_⟩
    have few := NF.few
    refine ⟨_, rfl, _, rfl, _, rfl, a, N, rfl, m, NF, fun D H1 nD eD s1 => ⟨D, rfl, ⟨_, SqL.of eD⟩, fun M nM => ?_⟩⟩
    refine dc_names eD nM (fr_nodup NF) (by have := fr_len N; show (fr N).length ≤ 1000; omega) (fun v => rfl) (fun v => rfl) fun H2 s2 eM => ?_
    have s12 := s1.trans s2
    exact ⟨a, M, N, x, fr N, rfl, m.same s12, NF, hx, ⟨_, eM, fun y => ktab_mem⟩, fun R H3 nR eR s3 => kk R H3 (none_of_same s12 nR) eR (s12.trans s3)⟩
def spPieces (C : Addr) : Sp := fun vs H Q _ => ∃ (a : Addr) (N : NetD), vs = [.ref a] ∧ Made C H a N ∧ NetF N ∧ newLL (pcs N) Q H
theorem lrefs_len (ls : List (Addr × List Str)) : (lrefs ls).length = ls.length := List.length_map ..
theorem ok_pieces {f : Addr} {fd : FuncData} (F : FnP K "pieces" s_pieces f fd) (B : FreeN mg) (G_free_lamps : Has P w K mg base 2 "free_lamps" ["net"] (sp_free_lamps C)) (G__piece_with : Has P w K mg base 3 "_piece_with" ["net", "lamp"] (spPieceWith C)) : FnOk P w K mg base CX0 4 f fd ["net"] (spPieces C) := by
  refine fnP_ok F sc_pieces (fun vs H Q E h => ?_) (fun cdv A outer s H vs Q E hr h => ?_)
  · obtain ⟨a, N, rfl, _⟩ := h
    rfl
  · obtain ⟨a, N, rfl, m, NF, kk⟩ := h
    have nd := sc_pieces.nd
    have hu1 := room1 hr
    refine ⟨_, (pss_cons (ps_set (i := 1) nd rfl (.inl rfl) (pe_lst pa_nil))
      (pss_cons (ps_set (i := 2) nd rfl (.inl rfl) pe_dnewK)
      (pss_cons (ps_for PassesOwn.never rfl (k_pil (K := K) rfl (pe_has G_free_lamps (hr.mono (by decide)) (pa_cons (pv 0) pa_nil))) (pg_name (i := 3) nd rfl (.inl rfl)) (pss_one (ps_if (pt_cmp (pc_dnotin hu1 (pv 3) (pv 2))) (pss_cons (ps_set (i := 4) nd rfl (.inl rfl) (pe_has G__piece_with (hr.mono (by decide)) (pa_cons (pv 0) (pa_cons (pv 3) pa_nil))))
      (pss_cons (ps_expr (pe_bm PySem.F.plainAttrs_list PySem.F.slot_list_append PySem.F.type_list_append mt_append (pv 1) (pa_cons (pv 4) pa_nil)))
      (pss_one (ps_expr (pe_bm PySem.F.plainAttrs_dict PySem.F.slot_dict_update PySem.F.type_dict_update mt_dupdate (pv 2) (pa_cons (pe_dc (own := [("other", 5)]) (g := gName 5) (tt := tYes) rfl nd (k_pil (K := K) rfl (pv 4)) (blkOk_by (N := nm_pieces) (sc := defScope s_pieces) (by decide +kernel)) (fun _ _ _ _ _ => (pg_name (i := 5) nd rfl (Or.inl rfl))) (fun _ _ _ _ _ => pts_nil) (fun _ _ _ _ _ => (pv 5)) (fun _ _ _ _ _ => pe_bl)) pa_nil)))))) pss_nil)))
      (pss_one (ps_ret (pv 1)))))), ?_⟩
    have few := NF.few
    have frl := fr_len N
    refine ⟨by show 0 ≤ sizeLine; decide, fun Fd nF => fun Td nT => ?_⟩
    have sF := same_new (o := .lst []) nF
    have sT := same_new (o := .dK []) nT
    have nT0 : H Td = none := none_of_same sF nT
    have FT : Fd ≠ Td := ne_of_none upd_same nT
    refine ⟨_, rfl, a, N, rfl, m.same (sF.trans sT), NF, fun D H1 nD eD s1 => ?_⟩
    have sm1 := (sF.trans sT).trans s1
    have eD' : H1 D = some (.lst ((fr N).map V.str)) := eD
    have eF1 : H1 Fd = some (.lst []) := s1 _ _ (sT _ _ upd_same)
    have eT1 : H1 Td = some (.dK []) := s1 _ _ upd_same
    refine ⟨D, rfl, ⟨_, SqL.of eD'⟩, for_list (K := K) (a := D) (xs := (fr N).map V.str) (fun i σ H' => ∃ (v3 v4 : Option V) (ls : List (Addr × List Str)) (kvs : List (Key × V)), σ = [some (.ref a), some (.ref Fd), some (.ref Td), v3, v4, none] ∧ Same H H' ∧ H' D = some (.lst ((fr N).map V.str)) ∧ H' Fd = some (.lst (lrefs ls)) ∧ ls.map (·.2) = ((fr N).take i).foldl (pstep N) [] ∧ LsAt H' ls ∧ (∀ l ∈ ls, H l.1 = none) ∧ ls.length ≤ i ∧ H' Td = some (.dK kvs) ∧ kvs.length ≤ 64 * i ∧ ∀ y, (valV kvs (Sum.inr y)).isSome = true ↔ y ∈ (ls.map (·.2)).flatten)
      ⟨none, none, [], [], rfl, sm1, eD', eF1, rfl, fun l h => (nomatch h), fun l h => (nomatch h), Nat.le_refl _, eT1, Nat.le_refl _, fun y => by simp [valV_nil]⟩ (fun i σ H' _ h => by
        obtain ⟨v3, v4, ls, kvs, _, _, e, _⟩ := h
        exact SqL.of e) ?_ ?_⟩
    · rintro i x σ H' hx ⟨v3, v4, ls, kvs, rfl, sm, eDx, eF, els, lsa, fr', ll, eT, lk, hk⟩
      rw [List.getElem?_map] at hx
      cases ez : (fr N)[i]? with
      | none =>
        rw [ez] at hx
        cases hx
      | some z =>
      rw [ez] at hx
      cases hx
      have hi := (List.getElem?_eq_some_iff.mp ez).1
      have hz := fr_in (List.mem_of_getElem? ez)
      have stp : ((fr N).take (i + 1)).foldl (pstep N) [] = pstep N (ls.map (·.2)) z := by
        rw [List.take_add_one, ez, List.foldl_append, els]
        rfl
      refine ⟨_, rfl, _, rfl, Td, valV kvs (Sum.inr z), rfl, .inl ⟨kvs, .inr z, .inl eT, rfl, rfl⟩, _, rfl, ?_⟩
      refine ite2 (fun hn => ?_) (fun hn => ?_)
      · have hnz : z ∉ (ls.map (·.2)).flatten := fun q => by
          rw [(hk z).mpr q] at hn
          cases hn
        refine ⟨_, rfl, _, rfl, a, N, z, rfl, m.same sm, NF, hz, fun Pd H2 nP eP s2 => ?_⟩
        have eF2 := s2 _ _ eF
        have FP : Fd ≠ Pd := ne_of_none eF nP
        have TP : Td ≠ Pd := ne_of_none eT nP
        have lp := pc_len N z
        refine ⟨_, rfl, .inl ⟨rfl, _, SqL.of eF2⟩, _, rfl, Fd, _, _, rfl, rfl, eF2, by rw [lrefs_len]; exact room_str _ (by omega), ?_⟩
        have nF0 : H Fd = none := nF
        have sm3 : Same H (upd H2 Fd (.lst (lrefs ls ++ [.ref Pd]))) := upd_same' (sm.trans s2) nF0
        have DF : D ≠ Fd := Ne.symm (ne_of_none (sT _ _ upd_same) nD)
        have DT : D ≠ Td := Ne.symm (ne_of_none (upd_same (H := upd H Fd (.lst []))) nD)
        have eP3 : upd H2 Fd (.lst (lrefs ls ++ [.ref Pd])) Pd = some (.lst ((pc N z).map V.str)) := by rw [upd_ne (Ne.symm FP)]; exact eP
        have eT3 : upd H2 Fd (.lst (lrefs ls ++ [.ref Pd])) Td = some (.dK kvs) := by rw [upd_ne (Ne.symm FT)]; exact s2 _ _ eT
        refine ⟨_, rfl, .inr (.inr (.inl ⟨rfl, .inl ⟨_, eT3⟩⟩)), _, rfl, Pd, rfl, ⟨_, SqL.of eP3⟩, fun M nM => ?_⟩
        refine dc_names eP3 nM (pc_nodup NF z) (by omega) (fun v => rfl) (fun v => rfl) fun H4 s4 eM => ?_
        have TM : Td ≠ M := ne_of_none eT3 nM
        refine ⟨Td, M, kvs, ktab (pc N z), rfl, rfl, TM, s4 _ _ eT3, eM, by rw [ktab_len]; exact room_le _ (by omega), ?_⟩
        have s34 := sm3.trans s4
        have eF4 := s4 _ _ (upd_same (H := H2) (a := Fd) (o := .lst (lrefs ls ++ [.ref Pd])))
        refine ⟨_, _, ls ++ [(Pd, pc N z)], mergeK kvs (ktab (pc N z)), rfl, upd_same' s34 nT0, ?_, ?_, ?_, ?_, ?_, ?_, upd_same, ?_, ?_⟩
        · rw [upd_ne DT]
          refine s4 _ _ ?_
          rw [upd_ne DF]
          exact s2 _ _ eDx
        · rw [upd_ne FT, eF4]
          unfold lrefs
          rw [List.map_append]
          rfl
        · rw [stp, List.map_append]
          unfold pstep
          rw [if_neg hnz]
          rfl
        · intro l hl
          have up : ∀ (b : Addr) (ws : List Str), b ≠ Fd → H2 b = some (.lst (ws.map V.str)) → upd H4 Td (.dK (mergeK kvs (ktab (pc N z)))) b = some (.lst (ws.map V.str)) := fun b ws nb e => by
            have e4 := s4 b _ ((upd_ne nb).trans e)
            rw [upd_ne]
            · exact e4
            · rintro rfl
              rw [s4 _ _ eT3] at e4
              cases e4
          rcases List.mem_append.mp hl with hl | hl
          · refine up _ _ (fun q => ?_) (s2 _ _ (lsa l hl))
            have w1 := lsa l hl
            rw [q, eF] at w1
            have w2 := HO.lst.inj (Option.some.inj w1)
            cases ls with
            | nil => nomatch hl
            | cons l0 ls0 =>
              cases hl2 : l.2 with
              | nil =>
                rw [hl2] at w2
                cases w2
              | cons c cs =>
                rw [hl2] at w2
                cases w2
          · rw [List.mem_singleton.mp hl]
            exact up _ _ (Ne.symm FP) eP
        · intro l hl
          rcases List.mem_append.mp hl with hl | hl
          · exact fr' l hl
          · rw [List.mem_singleton.mp hl]
            exact none_of_same sm nP
        · rw [List.length_append]
          show _ + 1 ≤ _
          omega
        · have := length_mergeK (ktab (pc N z)) kvs
          rw [ktab_len] at this
          omega
        · intro y
          rw [valV_merge, hk, ktab_keys, List.map_append, List.flatten_append, List.mem_append]
          constructor
          · rintro (h | h)
            · exact .inl h
            · obtain ⟨q, hq, e⟩ := List.mem_map.mp h
              rw [Sum.inr.inj e] at hq
              exact .inr (by simpa using hq)
          · rintro (h | h)
            · exact .inl h
            · exact .inr (List.mem_map.mpr ⟨y, by simpa using h, rfl⟩)
      · have hnz : z ∈ (ls.map (·.2)).flatten := by
          rw [← hk]
          cases hv : (valV kvs (Sum.inr z)).isSome with
          | true => rfl
          | false =>
            rw [hv] at hn
            exact absurd rfl hn
        refine ⟨_, _, ls, kvs, rfl, sm, eDx, eF, ?_, lsa, fr', by omega, eT, by omega, hk⟩
        rw [stp]
        unfold pstep
        rw [if_pos hnz]
    · rintro σ H' ⟨v3, v4, ls, kvs, rfl, sm, eDx, eF, els, lsa, fr', ll, eT, lk, hk⟩
      rw [List.length_map, List.take_length] at els
      exact ⟨_, rfl, kk Fd H' ls nF eF els lsa fr' sm⟩
def spPieceOf (C : Addr) : Sp := fun vs H Q _ => ∃ (a : Addr) (N : NetD) (x : Str), vs = [.ref a, .str x] ∧ Made C H a N ∧ NetF N ∧ x ∈ fr N ∧ newL (pc N x) Q H
/-- a bool, the heap grown -/
def tells (b : Bool) (Q : VK) (H : Hp) : Prop := ∀ H', Same H H' → Q (.bl b) H'
def spIsPiece (C : Addr) : Sp := fun vs H Q _ => ∃ (a p : Addr) (N : NetD), vs = [.ref a, .ref p] ∧ Made C H a N ∧ NetF N ∧ ((∃ zs : List Str, H p = some (.lst (zs.map V.str)) ∧ zs.length ≤ 1000 ∧ (∀ z ∈ zs, z ∈ N.bs) ∧ tells (isP N zs) Q H) ∨ ((∃ xs, H p = some (.tup xs)) ∧ tells false Q H))
def spHang (C : Addr) : Sp := fun vs H Q _ => ∃ (a p : Addr) (N : NetD) (z : Str) (r : List Str), vs = [.ref a, .ref p] ∧ Made C H a N ∧ NetF N ∧ H p = some (.lst ((z :: r).map V.str)) ∧ (z :: r).Nodup ∧ (∀ y ∈ z :: r, y ∈ N.bs) ∧ tells (decide ((reach N (z :: r) z).length = (z :: r).length)) Q H
end
end NK
/-! the law's own: free lamps, who is near -/
namespace NK
open PySem PySem.Spec PyProof.Rows L2 He K1
theorem NetOk.ts50 {N : NetD} (O : NetOk N) : N.ts.length ≤ 50 := by
  have tnd := asc_nodup ord_pl O.tasc
  have bnd := asc_nodup ord_sl O.asc
  have z := nodup_le (l := N.ts ++ (N.ts.map fun p => (p.2, p.1)) ++ (N.bs.map fun b => (b, b))) (m := N.bs.flatMap fun a => N.bs.map fun b => (a, b)) (by
    refine List.nodup_append.mpr ⟨List.nodup_append.mpr ⟨tnd, ?_, ?_⟩, ?_, ?_⟩
    · unfold List.Nodup at tnd ⊢
      rw [List.pairwise_map]
      exact tnd.imp fun {a b} h e => h (Prod.ext (congrArg Prod.snd e) (congrArg Prod.fst e))
    · intro x hx y hy e
      obtain ⟨q, hq, rfl⟩ := List.mem_map.mp hy
      have h1 := (O.tin x hx).2.2
      have h2 := (O.tin q hq).2.2
      rw [e] at h1
      rw [ord_sl.asym h2] at h1
      cases h1
    · unfold List.Nodup at bnd ⊢
      rw [List.pairwise_map]
      exact bnd.imp fun {a b} h e => h (congrArg Prod.fst e)
    · intro x hx y hy e
      obtain ⟨q, hq, rfl⟩ := List.mem_map.mp hy
      rcases List.mem_append.mp hx with hx | hx
      · have h1 := (O.tin x hx).2.2
        rw [e, sl_irr] at h1
        cases h1
      · obtain ⟨r, hr, rfl⟩ := List.mem_map.mp hx
        have h1 := (O.tin r hr).2.2
        injection e with e1 e2
        rw [e1, e2, sl_irr] at h1
        cases h1) fun x hx => by
    refine List.mem_flatMap.mpr ?_
    rcases List.mem_append.mp hx with hx | hx
    · rcases List.mem_append.mp hx with hx | hx
      · obtain ⟨h1, h2, _⟩ := O.tin x hx
        exact ⟨x.1, h1, List.mem_map.mpr ⟨x.2, h2, rfl⟩⟩
      · obtain ⟨q, hq, rfl⟩ := List.mem_map.mp hx
        obtain ⟨h1, h2, _⟩ := O.tin q hq
        exact ⟨q.2, h2, List.mem_map.mpr ⟨q.1, h1, rfl⟩⟩
    · obtain ⟨q, hq, rfl⟩ := List.mem_map.mp hx
      exact ⟨q, hq, List.mem_map.mpr ⟨q, hq, rfl⟩⟩
  have e : (N.bs.flatMap fun a => N.bs.map fun b => (a, b)).length = N.bs.length * N.bs.length := by
    rw [List.length_flatMap]
    simp [List.length_map, List.map_const']
  rw [e] at z
  simp only [List.length_append, List.length_map] at z
  have := Nat.mul_le_mul O.le O.le
  omega
theorem NetOk.ts_few {N : NetD} (O : NetOk N) : N.ts.length < 64 := Nat.lt_of_le_of_lt O.ts50 (by decide)
theorem NetOk.toF {N : NetD} (O : NetOk N) : NetF N := ⟨O.asc, O.word, O.pos, by have := O.le; omega, asc_nodup ord_pl O.tasc, O.ts_few, O.tin, O.wish⟩
theorem paired_r {K : PySem.W.Frag} {H : Hp} : ∀ {us : List (Addr × Str × Addr)}, (∀ u ∈ us, H u.1 = some (.tup [.str u.2.1, .ref u.2.2])) → Paired (fun p kv => SqT K H p [kV kv.1, kv.2]) (us.map (·.1)) (tabR (us.map (·.2)))
  | [], _ => .nil
  | u :: us, h => .cons (SqT.of (h u List.mem_cons_self)) (paired_r fun x m => h x (List.mem_cons_of_mem _ m))
theorem tabR_merge {lt : List (Str × Addr)} (nd : (lt.map (·.1)).Nodup) : mergeK [] (tabR lt) = tabR lt := by
  rw [merge_new _ [] (by rw [tabR_keys]; exact inr_nodup nd) fun k _ h => nomatch h]
  rfl
section
variable {P : Program} {w : World} {K : PySem.W.Frag} {mg : Str → Option Value} {base : Heap} {C W : Addr}
def spLFree : Sp := fun vs H Q _ => ∃ (R : Addr) (N : NetD), vs = [.ref R] ∧ NetAt H R N ∧ newL (fr N) Q H
theorem ok_lfree {f : Addr} {fd : FuncData} (F : FnP K "_law_free" s_l_free f fd) (B : FreeN mg) : FnOk P w K mg base CX0 1 f fd ["_law_net_here"] spLFree := by
  refine fnP_ok F sc_l_free (fun vs H Q E h => ?_) (fun cdv A outer s H vs Q E hr h => ?_)
  · obtain ⟨R, N, rfl, _⟩ := h
    rfl
  · obtain ⟨R, N, rfl, m, kk⟩ := h
    have nd := sc_l_free.nd
    have hu1 := room1 hr
    refine ⟨_, (pss_one (ps_ret (pe_lc (own := [("_law_lamp", 1)]) (g := gName 1) rfl nd (k_pil (K := K) rfl (pe_ix (k_ixl (K := K) rfl) (pv 0) pe_int (fun _ _ => rfl))) (blkOk_by (N := nm_l_free) (sc := defScope s_l_free) (by decide +kernel)) (fun _ _ _ _ _ => (pg_name (i := 1) nd rfl (Or.inl rfl))) (fun _ _ _ _ _ => (pts_one (pt_cmpR op_ne (pe_dget hu1 (pe_ix (k_ixl (K := K) rfl) (pv 0) pe_int (fun _ _ => rfl)) (pv 1) (fun _ _ => rfl)) pe_str (nomark _)))) (fun _ _ _ _ _ => (pv 1))))), ?_⟩
    obtain ⟨b, t, w0, qs, a1, a2, a3, a4, a5, a6⟩ := m.ex
    have le := m.ok.le
    refine ⟨_, rfl, R, _, 0, .ref b, rfl, rfl, SqL.of a1, rfl, b, rfl, ⟨_, SqL.of a2⟩, fun D nD => ?_⟩
    refine lc_list (K := K) (a := b) (xs := N.bs.map V.str) (fun i H' => Same H H' ∧ H' D = some (.lst (((N.bs.take i).filter (isF N)).map V.str))) ⟨same_new nD, upd_same⟩ (fun i H' _ h => SqL.of (h.1 _ _ a2)) ?_ ?_
    · rintro i x H' hx ⟨sm, eD⟩
      rw [List.getElem?_map] at hx
      cases ez : N.bs[i]? with
      | none =>
        rw [ez] at hx
        cases hx
      | some z =>
      rw [ez] at hx
      cases hx
      have hi := (List.getElem?_eq_some_iff.mp ez).1
      have tk : (N.bs.take (i + 1)).filter (isF N) = (N.bs.take i).filter (isF N) ++ (if isF N z = true then [z] else []) := by
        rw [List.take_add_one, ez, List.filter_append]
        congr 1
        exact List.filter_cons ..
      rw [tk]
      refine ⟨rfl, _, rfl, R, _, 2, .ref w0, rfl, rfl, SqL.of (sm _ _ a1), rfl, _, rfl, w0, .str (N.wf z), rfl, .inl ⟨_, .inr z, .inl (sm _ _ a6), rfl, (wtab_at (List.mem_of_getElem? ez)).symm⟩, rfl, _, rfl, ?_⟩
      rw [dec_vstr]
      refine ite2 (fun h => ?_) (fun h => ?_)
      · refine ⟨_, rfl, _, eD, ?_, upd_same' sm nD, ?_⟩
        · rw [List.length_map]
          have h1 := List.length_filter_le (isF N) (N.bs.take i)
          rw [List.length_take] at h1
          exact room_str _ (by omega)
        · rw [upd_same, if_pos (show isF N z = true from h), List.map_append]
          rfl
      · refine ⟨sm, ?_⟩
        rw [if_neg (show ¬ isF N z = true from h), List.append_nil]
        exact eD
    · rintro H' ⟨sm, eD⟩
      rw [List.length_map, List.take_length] at eD
      exact kk D H' nD eD sm
/-- a table of the neighbours, each a list -/
structure NearL (H : Hp) (D : Addr) (N : NetD) : Prop where
  ex : ∃ lt : List (Str × Addr), H D = some (.dK (tabR lt)) ∧ lt.map (·.1) = N.bs ∧ ∀ e ∈ lt, H e.2 = some (.lst ((nb N e.1).map V.str))
theorem NearL.same {H H' : Hp} {D : Addr} {N : NetD} (s : Same H H') (n : NearL H D N) : NearL H' D N := let ⟨lt, a, b, c⟩ := n.ex; ⟨lt, s _ _ a, b, fun e he => s _ _ (c e he)⟩
/-- its lists are new -/
def NearN (H H' : Hp) (D : Addr) : Prop := ∀ kvs : List (Key × V), H' D = some (.dK kvs) → ∀ p ∈ kvs, ∀ l : Addr, p.2 = .ref l → H l = none
def spLNear : Sp := fun vs H Q _ => ∃ (R : Addr) (N : NetD), vs = [.ref R] ∧ NetAt H R N ∧ ∀ (D : Addr) (H' : Hp), H D = none → NearL H' D N → Same H H' → NearN H H' D → Q (.ref D) H'
theorem ok_lnear {f : Addr} {fd : FuncData} (F : FnP K "_law_near" s_l_near f fd) (B : FreeN mg) : FnOk P w K mg base CX0 1 f fd ["_law_net_here"] spLNear := by
  refine fnP_ok F sc_l_near (fun vs H Q E h => ?_) (fun cdv A outer s H vs Q E hr h => ?_)
  · obtain ⟨R, N, rfl, _⟩ := h
    rfl
  · obtain ⟨R, N, rfl, m, kk⟩ := h
    have nd := sc_l_near.nd
    have hu1 := room1 hr
    refine ⟨_, (pss_cons (ps_set (i := 1) nd rfl (.inr rfl) (pe_callTy (k_dictP (K := K) rfl rfl) (by rfl) B.dict (by decide +kernel) (pa_cons (pe_lc (own := [("_law_lamp", 4)]) (g := gName 4) (tt := tYes) rfl nd (k_pil (K := K) rfl (pe_ix (k_ixl (K := K) rfl) (pv 0) pe_int (fun _ _ => rfl))) (blkOk_by (N := nm_l_near) (sc := defScope s_l_near) (by decide +kernel)) (fun _ _ _ _ _ => (pg_name (i := 4) nd rfl (Or.inl rfl))) (fun _ _ _ _ _ => pts_nil) (fun _ _ _ _ _ => (pe_tup (pa_cons (pv 4) (pa_cons (pe_lst pa_nil) pa_nil))))) pa_nil)))
      (pss_cons (ps_for PassesOwn.never rfl (k_pil (K := K) rfl (pe_ix (k_ixl (K := K) rfl) (pv 0) pe_int (fun _ _ => rfl))) (pg_tup rfl (pgs_cons (pg_name (i := 2) nd rfl (.inl rfl)) (pgs_cons (pg_name (i := 3) nd rfl (.inl rfl)) pgs_nil))) (pss_cons (ps_expr (pe_bm PySem.F.plainAttrs_list PySem.F.slot_list_append PySem.F.type_list_append mt_append (pe_dget hu1 (pv 1) (pv 2) (fun _ _ => rfl)) (pa_cons (pv 3) pa_nil)))
      (pss_one (ps_expr (pe_bm PySem.F.plainAttrs_list PySem.F.slot_list_append PySem.F.type_list_append mt_append (pe_dget hu1 (pv 1) (pv 3) (fun _ _ => rfl)) (pa_cons (pv 2) pa_nil))))))
      (pss_one (ps_ret (pe_callTy (k_dictP (K := K) rfl rfl) (by rfl) B.dict (by decide +kernel) (pa_cons (pe_lc (own := [("_law_lamp", 4)]) (g := gName 4) (tt := tYes) rfl nd (k_pil (K := K) rfl (pe_ix (k_ixl (K := K) rfl) (pv 0) pe_int (fun _ _ => rfl))) (blkOk_by (N := nm_l_near) (sc := defScope s_l_near) (by decide +kernel)) (fun _ _ _ _ _ => (pg_name (i := 4) nd rfl (Or.inl rfl))) (fun _ _ _ _ _ => pts_nil) (fun _ _ _ _ _ => (pe_tup (pa_cons (pv 4) (pa_cons (pe_callB (k_sortS (K := K) rfl) (by rfl) B.sorted (by decide +kernel) (pa_cons (pe_dget hu1 (pv 1) (pv 4) (fun _ _ => rfl)) pa_nil)) pa_nil))))) pa_nil)))))), ?_⟩
    obtain ⟨b, t, w0, qs, a1, a2, a3, a4, a5, a6⟩ := m.ex
    have NF := m.ok.toF
    have le := m.ok.le
    have bnd := asc_nodup ord_sl NF.asc
    refine ⟨_, rfl, R, _, 0, .ref b, rfl, rfl, SqL.of a1, rfl, b, rfl, ⟨_, SqL.of a2⟩, fun G nG => ?_⟩
    refine lc_list (K := K) (a := b) (xs := N.bs.map V.str) (fun i H' => Same H H' ∧ ∃ us : List (Addr × Str × Addr), H' G = some (.lst ((us.map (·.1)).map V.ref)) ∧ us.length = i ∧ (us.map (·.2)).map (·.1) = N.bs.take i ∧ ((us.map (·.2)).map (·.2)).Nodup ∧ ∀ u ∈ us, H' u.1 = some (.tup [.str u.2.1, .ref u.2.2]) ∧ H' u.2.2 = some (.lst (([] : List Str).map V.str)) ∧ H u.2.2 = none ∧ u.2.2 ≠ G) ⟨same_new nG, [], upd_same, rfl, rfl, List.nodup_nil, fun u h => (nomatch h)⟩ (fun i H' _ h => SqL.of (h.1 _ _ a2)) ?_ ?_
    · rintro i x H' hx ⟨sm, us, eG, lu, eu, n2, hus⟩
      rw [List.getElem?_map] at hx
      cases ez : N.bs[i]? with
      | none =>
        rw [ez] at hx
        cases hx
      | some z =>
      rw [ez] at hx
      cases hx
      have hi := (List.getElem?_eq_some_iff.mp ez).1
      refine ⟨rfl, _, rfl, by show 0 ≤ sizeLine; decide, fun L nL => ⟨by show 2 ≤ sizeLine; decide, fun T nT => ?_⟩⟩
      have sL := same_new (o := .lst []) nL
      have sT := same_new (o := .tup [.str z, .ref L]) nT
      have sLT := sL.trans sT
      have eG2 := sLT _ _ eG
      have GL : L ≠ G := Ne.symm (ne_of_none eG nL)
      have GT : T ≠ G := Ne.symm (ne_of_none (sL _ _ eG) nT)
      refine ⟨_, eG2, by rw [List.length_map, List.length_map]; exact room_str _ (by omega), upd_same' (sm.trans sLT) nG, us ++ [(T, z, L)], ?_, by rw [List.length_append, lu]; rfl, ?_, ?_, ?_⟩
      · rw [upd_same, List.map_append, List.map_append]
        rfl
      · rw [List.map_append, List.map_append, eu, List.take_add_one, ez]
        rfl
      · rw [List.map_append, List.map_append]
        refine List.nodup_append.mpr ⟨n2, List.nodup_cons.mpr ⟨List.not_mem_nil, List.nodup_nil⟩, fun c hc d hd e => ?_⟩
        rw [List.mem_singleton.mp hd] at e
        obtain ⟨q, hq, rfl⟩ := List.mem_map.mp hc
        obtain ⟨r, hr', rfl⟩ := List.mem_map.mp hq
        have := (hus r hr').2.1
        rw [e, nL] at this
        cases this
      · intro u hu
        have up : ∀ (c : Addr) (o : HO), c ≠ G → upd (upd H' L (.lst [])) T (.tup [.str z, .ref L]) c = some o → upd (upd (upd H' L (.lst [])) T (.tup [.str z, .ref L])) G (.lst ((us.map (·.1)).map V.ref ++ [V.ref T])) c = some o := fun c o nc e => by rw [upd_ne nc]; exact e
        rcases List.mem_append.mp hu with hu | hu
        · obtain ⟨h1, h2, h3, h4⟩ := hus u hu
          refine ⟨up _ _ (fun q => ?_) (sLT _ _ h1), up _ _ h4 (sLT _ _ h2), h3, h4⟩
          rw [q, eG] at h1
          cases h1
        · rw [List.mem_singleton.mp hu]
          exact ⟨up _ _ GT upd_same, up _ _ GL (sT _ _ upd_same), none_of_same sm nL, GL⟩
    rintro H1 ⟨sm1, us, eG, lu, eu, n2, hus⟩
    rw [List.length_map, List.take_length] at eu
    have n1 : ((us.map (·.2)).map (·.1)).Nodup := by rw [eu]; exact bnd
    refine ⟨G, us.map (·.1), _, rfl, SqL.of eG, paired_r fun u hu => (hus u hu).1, fun D nD => ?_⟩
    rw [tabR_merge n1]
    have sD := same_new (o := .dK (tabR (us.map (·.2)))) nD
    have eD : upd H1 D (.dK (tabR (us.map (·.2)))) D = some (.dK (tabR (us.map (·.2)))) := upd_same
    have g0 : LTg (upd H1 D (.dK (tabR (us.map (·.2))))) (us.map (·.2)) (fun _ => []) := fun e he => by
      obtain ⟨u, hu, rfl⟩ := List.mem_map.mp he
      exact sD _ _ (hus u hu).2.1
    have fr : ∀ e ∈ us.map (·.2), H e.2 = none := fun e he => by
      obtain ⟨u, hu, rfl⟩ := List.mem_map.mp he
      exact (hus u hu).2.2.1
    have sm5 := sm1.trans sD
    have nD0 : H D = none := none_of_same sm1 nD
    have el := eu
    generalize us.map (·.2) = lt at *
    generalize upd H1 D (.dK (tabR lt)) = H5 at *
    have few := NF.tfew
    have lqs : qs.length = N.ts.length := by rw [← a4, List.length_map]
    have qin : ∀ q ∈ qs, q.2.1 ∈ N.bs ∧ q.2.2 ∈ N.bs ∧ sl q.2.1 q.2.2 = true := fun q hq => NF.tin q.2 (by rw [← a4]; exact List.mem_map.mpr ⟨q, hq, rfl⟩)
    refine ⟨_, rfl, R, _, 1, .ref t, rfl, rfl, SqL.of (sm5 _ _ a1), rfl, t, rfl, ⟨_, SqL.of (sm5 _ _ a3)⟩, for_list (K := K) (a := t) (xs := qrefs qs) (fun i σ H' => ∃ v5 v6 : Option V, σ = [some (.ref R), some (.ref D), v5, v6, none] ∧ Same H H' ∧ H' D = some (.dK (tabR lt)) ∧ LTg H' lt (oth ((qs.map (·.2)).take i)))
      ⟨none, none, rfl, sm5, eD, g0⟩ (fun i σ H' _ h => by
        obtain ⟨v5, v6, _, sm, _⟩ := h
        exact SqL.of (sm _ _ a3)) ?_ ?_⟩
    · rintro i x σ H' hx ⟨v5, v6, rfl, sm, eD', g⟩
      unfold qrefs at hx
      rw [List.getElem?_map] at hx
      cases ex : qs[i]? with
      | none =>
        rw [ex] at hx
        cases hx
      | some q =>
      rw [ex] at hx
      cases hx
      have hi := (List.getElem?_eq_some_iff.mp ex).1
      have hq := List.mem_of_getElem? ex
      obtain ⟨m1, m2, lt12⟩ := qin q hq
      rw [← el] at m1 m2
      obtain ⟨e1, he1, ee1⟩ := List.mem_map.mp m1
      obtain ⟨e2, he2, ee2⟩ := List.mem_map.mp m2
      refine ⟨q.1, _, rfl, SqT.of (sm _ _ (a5 q hq)), rfl, _, _, rfl, _, _, rfl, rfl, ?_⟩
      have g1 : ∀ (H : Hp) (e : Str × Addr) (z : Str), H D = some (.dK (tabR lt)) → e ∈ lt → e.1 = z → DGet H D (.str z) (some (.ref e.2)) := fun H e z hD he ez => by
        subst ez
        exact .inl ⟨tabR lt, .inr e.1, .inl hD, rfl, (tabR_at n1 he).symm⟩
      have Dne : ∀ e ∈ lt, D ≠ e.2 := fun e he q => by
        have := g e he
        rw [← q, eD'] at this
        cases this
      have lo : ∀ z : Str, (oth ((qs.map (·.2)).take i) z).length < 64 := fun z => by
        have := oth_len ((qs.map (·.2)).take i) z
        rw [List.length_take, List.length_map] at this
        omega
      refine ⟨_, rfl, _, rfl, D, .ref e1.2, rfl, g1 H' e1 _ eD' he1 ee1, .inl ⟨rfl, _, SqL.of (g e1 he1)⟩, _, rfl, e1.2, _, _, rfl, rfl, g e1 he1, by rw [List.length_map]; exact room_str _ (by have := lo e1.1; omega), ?_⟩
      have gA := g.put n1 n2 he1 q.2.2
      have eDA : upd H' e1.2 (.lst ((oth ((qs.map (·.2)).take i) e1.1).map V.str ++ [V.str q.2.2])) D = some (.dK (tabR lt)) := by rw [upd_ne (Dne e1 he1)]; exact eD'
      refine ⟨_, rfl, _, rfl, D, .ref e2.2, rfl, g1 _ e2 _ eDA he2 ee2, .inl ⟨rfl, _, SqL.of (gA e2 he2)⟩, _, rfl, e2.2, _, _, rfl, rfl, gA e2 he2, ?_, ?_⟩
      · rw [List.length_map]
        dsimp only
        have z := lo e2.1
        split
        · rw [List.length_append]
          exact room_str _ (by show _ + 1 ≤ 10000; omega)
        · exact room_str _ (by omega)
      have gB := gA.put n1 n2 he2 q.2.1
      refine ⟨_, _, rfl, upd_same' (upd_same' sm (fr e1 he1)) (fr e2 he2), ?_, gB.cong fun z => ?_⟩
      · rw [upd_ne (Dne e2 he2)]
        exact eDA
      · have ne : q.2.1 ≠ q.2.2 := fun e => by
          rw [e, sl_irr] at lt12
          cases lt12
        rw [oth_snoc (q := q.2) (by rw [List.getElem?_map, ex]; rfl), ee1, ee2]
        by_cases h2 : z = q.2.2
        · rw [if_pos h2, h2, if_neg (Ne.symm ne), if_neg ne, if_pos rfl]
        · rw [if_neg h2]
          by_cases h1 : z = q.2.1
          · rw [if_pos h1, h1, if_pos rfl]
          · rw [if_neg h1, if_neg (Ne.symm h1), if_neg (Ne.symm h2), List.append_nil]
    rintro σ H6 ⟨v5, v6, rfl, sm6, eD6, g6⟩
    rw [show (qrefs qs).length = (qs.map (·.2)).length by unfold qrefs; rw [List.length_map, List.length_map], List.take_length, a4] at g6
    refine ⟨_, rfl, R, _, 0, .ref b, rfl, rfl, SqL.of (sm6 _ _ a1), rfl, b, rfl, ⟨_, SqL.of (sm6 _ _ a2)⟩, fun G2 nG2 => ?_⟩
    refine lc_list (K := K) (a := b) (xs := N.bs.map V.str) (fun i H' => Same H6 H' ∧ ∃ us : List (Addr × Str × Addr), H' G2 = some (.lst ((us.map (·.1)).map V.ref)) ∧ us.length = i ∧ (us.map (·.2)).map (·.1) = N.bs.take i ∧ ∀ u ∈ us, H' u.1 = some (.tup [.str u.2.1, .ref u.2.2]) ∧ H' u.2.2 = some (.lst ((nb N u.2.1).map V.str)) ∧ u.2.2 ≠ G2 ∧ H u.2.2 = none) ⟨same_new nG2, [], upd_same, rfl, rfl, fun u h => (nomatch h)⟩ (fun i H' _ h => SqL.of (h.1 _ _ (sm6 _ _ a2))) ?_ ?_
    · rintro i x H' hx ⟨sm, us2, eG2, lu2, eu2, hus2⟩
      rw [List.getElem?_map] at hx
      cases ez : N.bs[i]? with
      | none =>
        rw [ez] at hx
        cases hx
      | some z =>
      rw [ez] at hx
      cases hx
      have hi := (List.getElem?_eq_some_iff.mp ez).1
      have hz := List.mem_of_getElem? ez
      rw [← el] at hz
      obtain ⟨e, he, ee⟩ := List.mem_map.mp hz
      have lo : (oth N.ts e.1).length < 64 := by
        have := oth_len N.ts e.1
        omega
      refine ⟨rfl, _, rfl, _, rfl, _, rfl, D, .ref e.2, rfl, .inl ⟨tabR lt, .inr z, .inl (sm _ _ eD6), rfl, ?_⟩, e.2, _, rfl, SqL.of (sm _ _ (g6 e he)), lo, fun ys L pm srt nL => ?_⟩
      · rw [← ee]
        exact (tabR_at n1 he).symm
      have ey := oth_sorted NF.asc NF.tnd NF.tin pm srt
      subst ey
      rw [ee]
      refine ⟨by show 2 ≤ sizeLine; decide, fun T nT => ?_⟩
      have sL := same_new (o := .lst ((nbrs N.bs N.ts z).map V.str)) nL
      have sT := same_new (o := .tup [.str z, .ref L]) nT
      have sLT := sL.trans sT
      have eG3 := sLT _ _ eG2
      have GL : L ≠ G2 := Ne.symm (ne_of_none eG2 nL)
      have GT : T ≠ G2 := Ne.symm (ne_of_none (sL _ _ eG2) nT)
      refine ⟨_, eG3, by rw [List.length_map, List.length_map]; exact room_str _ (by omega), upd_same' (sm.trans sLT) nG2, us2 ++ [(T, z, L)], ?_, by rw [List.length_append, lu2]; rfl, ?_, ?_⟩
      · rw [upd_same, List.map_append, List.map_append]
        rfl
      · rw [List.map_append, List.map_append, eu2, List.take_add_one, ez]
        rfl
      · intro u hu
        have up : ∀ (c : Addr) (o : HO), c ≠ G2 → upd (upd H' L (.lst ((nbrs N.bs N.ts z).map V.str))) T (.tup [.str z, .ref L]) c = some o → upd (upd (upd H' L (.lst ((nbrs N.bs N.ts z).map V.str))) T (.tup [.str z, .ref L])) G2 (.lst ((us2.map (·.1)).map V.ref ++ [V.ref T])) c = some o := fun c o nc e => by rw [upd_ne nc]; exact e
        rcases List.mem_append.mp hu with hu | hu
        · obtain ⟨h1, h2, h4, h5⟩ := hus2 u hu
          refine ⟨up _ _ (fun q => ?_) (sLT _ _ h1), up _ _ h4 (sLT _ _ h2), h4, h5⟩
          rw [q, eG2] at h1
          cases h1
        · rw [List.mem_singleton.mp hu]
          exact ⟨up _ _ GT upd_same, up _ _ GL (sT _ _ upd_same), GL, none_of_same (sm6.trans sm) nL⟩
    rintro H7 ⟨sm7, us2, eG2, lu2, eu2, hus2⟩
    rw [List.length_map, List.take_length] at eu2
    refine ⟨G2, us2.map (·.1), _, rfl, SqL.of eG2, paired_r fun u hu => (hus2 u hu).1, fun D2 nD2 => ?_⟩
    rw [tabR_merge (by rw [eu2]; exact bnd)]
    have sD2 := same_new (o := .dK (tabR (us2.map (·.2)))) nD2
    have sm67 := sm6.trans sm7
    refine kk D2 _ (none_of_same sm67 nD2) ⟨us2.map (·.2), upd_same, eu2, fun e he => ?_⟩ (sm67.trans sD2) fun kvs ek p hp l el' => by
      rw [upd_same] at ek
      cases ek
      obtain ⟨e, he, rfl⟩ := List.mem_map.mp hp
      obtain ⟨u, hu, rfl⟩ := List.mem_map.mp he
      cases el'
      exact (hus2 u hu).2.2.2
    obtain ⟨u, hu, rfl⟩ := List.mem_map.mp he
    exact sD2 _ _ (hus2 u hu).2.1
end
end NK
/-! the law's own: pieces -/
namespace NK
open PySem PySem.Spec PyProof.Rows L2 He K1
theorem nb_symm {N : NetD} {x y : Str} (hx : x ∈ N.bs) (h : y ∈ nb N x) : x ∈ nb N y := by
  obtain ⟨_, h2⟩ := mem_nbrs.mp h
  exact mem_nbrs.mpr ⟨hx, h2.symm⟩
theorem mem_pc {N : NetD} {x y : Str} (hx : x ∈ fr N) : y ∈ pc N x ↔ Rch (nb N) (· ∈ fr N) x y := mem_reach (fr_in hx)
theorem pc_self {N : NetD} {x : Str} (hx : x ∈ fr N) : x ∈ pc N x := (mem_pc hx).mpr .base
theorem pc_fr {N : NetD} {x y : Str} (hx : x ∈ fr N) (h : y ∈ pc N x) : y ∈ fr N := ((mem_pc hx).mp h).in_ hx
theorem pc_symm {N : NetD} {x y : Str} (hx : x ∈ fr N) (h : y ∈ pc N x) : x ∈ pc N y := by
  refine (mem_pc (pc_fr hx h)).mpr (Rch.symm (fun a b ha hb _ => nb_symm (fr_in ha) hb) hx ((mem_pc hx).mp h))
theorem pc_trans {N : NetD} {x y z : Str} (hx : x ∈ fr N) (h : y ∈ pc N x) (k : z ∈ pc N y) : z ∈ pc N x :=
  (mem_pc hx).mpr (((mem_pc hx).mp h).trans ((mem_pc (pc_fr hx h)).mp k))
/-- some of the pieces -/
def Some_ (N : NetD) (acc : List (List Str)) : Prop := ∀ l ∈ acc, ∃ z ∈ fr N, l = pc N z
theorem Some_.step {N : NetD} {acc : List (List Str)} (h : Some_ N acc) {z : Str} (hz : z ∈ fr N) : Some_ N (pstep N acc z) := by
  unfold pstep
  by_cases m : z ∈ acc.flatten
  · rw [if_pos m]
    exact h
  · rw [if_neg m]
    intro l hl
    rcases List.mem_append.mp hl with hl | hl
    · exact h l hl
    · exact ⟨z, hz, List.mem_singleton.mp hl⟩
theorem Some_.sep {N : NetD} {acc : List (List Str)} (h : Some_ N acc) {z y : Str} (hz : z ∈ fr N) (nz : z ∉ acc.flatten) (hy : y ∈ pc N z) : y ∉ acc.flatten := by
  intro m
  obtain ⟨l, hl, hyl⟩ := List.mem_flatten.mp m
  obtain ⟨z', hz', rfl⟩ := h l hl
  exact nz (List.mem_flatten.mpr ⟨_, hl, pc_trans hz' hyl (pc_symm hz hy)⟩)
theorem Some_.all {N : NetD} : ∀ (zs : List Str) (acc : List (List Str)), Some_ N acc → (∀ z ∈ zs, z ∈ fr N) → Some_ N (zs.foldl (pstep N) acc)
  | [], acc, h, _ => h
  | z :: zs, acc, h, hz => Some_.all zs _ (h.step (hz z List.mem_cons_self)) fun y hy => hz y (List.mem_cons_of_mem _ hy)
theorem pcs_some (N : NetD) : Some_ N (pcs N) := Some_.all _ _ (fun l h => (nomatch h)) fun _ h => h
theorem paired_k {K : PySem.W.Frag} {H : Hp} : ∀ {us : List (Addr × Str)}, (∀ u ∈ us, H u.1 = some (.tup [.str u.2, .bl true])) → Paired (fun p kv => SqT K H p [kV kv.1, kv.2]) (us.map (·.1)) (ktab (us.map (·.2)))
  | [], _ => .nil
  | u :: us, h => .cons (SqT.of (h u List.mem_cons_self)) (paired_k fun x m => h x (List.mem_cons_of_mem _ m))
section
variable {P : Program} {w : World} {K : PySem.W.Frag} {mg : Str → Option Value} {base : Heap} {C W : Addr}
def spLPieces : Sp := fun vs H Q _ => ∃ (R : Addr) (N : NetD), vs = [.ref R] ∧ NetAt H R N ∧ newLL (pcs N) Q H
theorem ok_lpieces {f : Addr} {fd : FuncData} (F : FnP K "_law_pieces" s_l_pieces f fd) (B : FreeN mg) (G__law_near : Has P w K mg base 1 "_law_near" ["_law_net_here"] spLNear) (G__law_free : Has P w K mg base 1 "_law_free" ["_law_net_here"] spLFree) : FnOk P w K mg base CX0 2 f fd ["_law_net_here"] spLPieces := by
  refine fnP_ok F sc_l_pieces (fun vs H Q E h => ?_) (fun cdv A outer s H vs Q E hr h => ?_)
  · obtain ⟨R, N, rfl, _⟩ := h
    rfl
  · obtain ⟨R, N, rfl, m, kk⟩ := h
    have nd := sc_l_pieces.nd
    have hu := hr.units
    have hu1 := room1 hr
    refine ⟨_, (pss_cons (ps_asg (pe_tup (pa_cons (pe_has G__law_near (hr.mono (by decide)) (pa_cons (pv 0) pa_nil)) (pa_cons (pe_has G__law_free (hr.mono (by decide)) (pa_cons (pv 0) pa_nil)) (pa_cons (pe_lst pa_nil) (pa_cons pe_dnewK pa_nil))))) (pg_tup rfl (pgs_cons (pg_name (i := 1) nd rfl (.inl rfl)) (pgs_cons (pg_name (i := 2) nd rfl (.inr rfl)) (pgs_cons (pg_name (i := 3) nd rfl (.inl rfl)) (pgs_cons (pg_name (i := 4) nd rfl (.inr rfl)) pgs_nil))))))
      (pss_cons (ps_for PassesOwn.never rfl (k_pil (K := K) rfl (pv 2)) (pg_name (i := 5) nd rfl (.inl rfl)) (pss_one (ps_if (pt_cmp (pc_dnotin hu1 (pv 5) (pv 4))) (pss_cons (ps_par (i := 6) (j := 7) rfl nd rfl rfl (by decide) rfl rfl (pa_cons (pe_lst pa_nil) (pa_cons (pe_lst (pa_cons (pv 5) pa_nil)) pa_nil)) rfl)
      (pss_cons (ps_asg pe_bl (pg_sub (pv 4) (pv 5) (set_dict hu1)))
      (pss_cons (ps_while PassesOwn.never (pt_cmpR (k_neD (K := K) rfl hu) (pv 7) (pe_lst pa_nil) (nomark _)) (pss_cons (ps_set (i := 8) nd rfl (.inl rfl) (pe_bm0 PySem.F.plainAttrs_list PySem.F.slot_list_pop PySem.F.type_list_pop mt_pop (pv 7)))
      (pss_cons (ps_setLc (i := 9) (own := [("_law_other", 10)]) (g := gName 10) rfl nd rfl rfl (sw_true rfl rfl rfl (by decide +kernel)) (k_pil (K := K) rfl (pe_dget hu1 (pv 1) (pv 8) (fun _ _ => rfl))) (blkOk_by (N := nm_l_pieces) (sc := defScope s_l_pieces) (by decide +kernel)) (fun _ _ _ _ _ => (pg_name (i := 10) nd rfl (Or.inl rfl))) (fun _ _ _ _ _ => (pts_one (PW.pt (pw_and (pt_cmpR (k_in (K := K) rfl) (pv 10) (pv 2) (by rfl)) (pw_and1 (pt_cmp (pc_dnotin hu1 (pv 10) (pv 4)))))))) (fun _ _ _ _ _ => (pv 10)))
      (pss_cons (ps_expr (pe_bm PySem.F.plainAttrs_dict PySem.F.slot_dict_update PySem.F.type_dict_update mt_dupdate (pv 4) (pa_cons (pe_callTy (k_dictP (K := K) rfl rfl) (by rfl) B.dict (by decide +kernel) (pa_cons (pe_lc (own := [("_law_other", 10)]) (g := gName 10) (tt := tYes) rfl nd (k_pil (K := K) rfl (pv 9)) (blkOk_by (N := nm_l_pieces) (sc := defScope s_l_pieces) (by decide +kernel)) (fun _ _ _ _ _ => (pg_name (i := 10) nd rfl (Or.inl rfl))) (fun _ _ _ _ _ => pts_nil) (fun _ _ _ _ _ => (pe_tup (pa_cons (pv 10) (pa_cons pe_bl pa_nil))))) pa_nil)) pa_nil)))
      (pss_one (ps_par (i := 6) (j := 7) rfl nd rfl rfl (by decide) rfl rfl (pa_cons (pe_op op_cat (pv 6) (pe_lst (pa_cons (pv 8) pa_nil))) (pa_cons (pe_op op_cat (pv 7) (pv 9)) pa_nil)) rfl))))))
      (pss_one (ps_expr (pe_bm PySem.F.plainAttrs_list PySem.F.slot_list_append PySem.F.type_list_append mt_append (pv 3) (pa_cons (pe_callB (k_sortS (K := K) rfl) (by rfl) B.sorted (by decide +kernel) (pa_cons (pv 6) pa_nil)) pa_nil))))))) pss_nil)))
      (pss_one (ps_ret (pv 3))))), ?_⟩
    have NF := m.ok.toF
    have few := NF.few
    have frl := fr_len N
    refine ⟨_, rfl, R, N, rfl, m, fun ND H1 nN near s1 _ => ⟨_, rfl, R, N, rfl, m.same s1, fun FD H2 nFD eFD s2 => ⟨by show 0 ≤ sizeLine; decide, fun Fd nF => fun Sd nS => ⟨by show 4 ≤ sizeLine; decide, fun T nT => ?_⟩⟩⟩⟩
    have sF := same_new (o := .lst []) nF
    have sS := same_new (o := .dK []) nS
    have sT := same_new (o := .tup [.ref ND, .ref FD, .ref Fd, .ref Sd]) nT
    refine ⟨T, _, rfl, SqT.of upd_same, rfl, _, _, rfl, _, _, rfl, _, _, rfl, _, _, rfl, rfl, ?_⟩
    have s12 := s1.trans s2
    have nF0 := none_of_same s12 nF
    have nS0 := none_of_same (s12.trans sF) nS
    have sm0 := (s12.trans sF).trans (sS.trans sT)
    have FS : Fd ≠ Sd := ne_of_none upd_same nS
    have nFD0 := none_of_same s1 nFD
    have FF : FD ≠ Fd := ne_of_none eFD nF
    have FSd : FD ≠ Sd := ne_of_none (sF _ _ eFD) nS
    have near2 : ∀ H', (∀ b o, b ≠ Fd → b ≠ Sd → H2 b = some o → H' b = some o) → NearL H' ND N := fun H' k => by
      obtain ⟨lt, e1, e2, e3⟩ := near.ex
      exact ⟨lt, k _ _ (ne_of_none (s2 _ _ e1) nF) (ne_of_none (sF _ _ (s2 _ _ e1)) nS) (s2 _ _ e1), e2, fun e he => k _ _ (ne_of_none (s2 _ _ (e3 e he)) nF) (ne_of_none (sF _ _ (s2 _ _ (e3 e he))) nS) (s2 _ _ (e3 e he))⟩
    have k0 : ∀ b o, b ≠ Fd → b ≠ Sd → H2 b = some o → upd (upd (upd H2 Fd (.lst [])) Sd (.dK [])) T (.tup [.ref ND, .ref FD, .ref Fd, .ref Sd]) b = some o := fun b o _ _ e => sT _ _ (sS _ _ (sF _ _ e))
    refine ⟨_, rfl, FD, rfl, ⟨_, SqL.of (sT _ _ (sS _ _ (sF _ _ eFD)))⟩, for_list (K := K) (a := FD) (xs := (fr N).map V.str) (fun i σ H' => ∃ (v5 v6 v7 v8 v9 : Option V) (ls : List (Addr × List Str)) (kvs : List (Key × V)), σ = [some (.ref R), some (.ref ND), some (.ref FD), some (.ref Fd), some (.ref Sd), v5, v6, v7, v8, v9, none] ∧ Same H H' ∧ (∀ b o, b ≠ Fd → b ≠ Sd → H2 b = some o → H' b = some o) ∧ H' Fd = some (.lst (lrefs ls)) ∧ ls.map (·.2) = ((fr N).take i).foldl (pstep N) [] ∧ LsAt H' ls ∧ (∀ l ∈ ls, H l.1 = none) ∧ ls.length ≤ i ∧ H' Sd = some (.dK kvs) ∧ kvs.length ≤ 64 * i ∧ (∀ y, (valV kvs (Sum.inr y)).isSome = true ↔ y ∈ (ls.map (·.2)).flatten))
      ⟨none, none, none, none, none, [], [], rfl, sm0, k0, sT _ _ (sS _ _ upd_same), rfl, fun l h => (nomatch h), fun l h => (nomatch h), Nat.le_refl _, sT _ _ upd_same, Nat.le_refl _, fun y => by simp [valV_nil]⟩ (fun i σ H' _ h => by
        obtain ⟨_, _, _, _, _, _, _, _, _, k, _⟩ := h
        exact SqL.of (k _ _ FF FSd eFD)) ?_ ?_⟩
    · rintro i x σ H' hx ⟨v5, v6, v7, v8, v9, ls, kvs, rfl, sm, kp, eF, els, lsa, fr', ll, eS, lk, hk⟩
      rw [List.getElem?_map] at hx
      cases ez : (fr N)[i]? with
      | none =>
        rw [ez] at hx
        cases hx
      | some z =>
      rw [ez] at hx
      cases hx
      have hi := (List.getElem?_eq_some_iff.mp ez).1
      have hzf := List.mem_of_getElem? ez
      have hz := fr_in hzf
      have sme : Some_ N (ls.map (·.2)) := by
        rw [els]
        exact Some_.all _ _ (fun l h => (nomatch h)) fun y hy => List.mem_of_mem_take hy
      have stp : ((fr N).take (i + 1)).foldl (pstep N) [] = pstep N (ls.map (·.2)) z := by
        rw [List.take_add_one, ez, List.foldl_append, els]
        rfl
      refine ⟨_, rfl, _, rfl, Sd, valV kvs (Sum.inr z), rfl, .inl ⟨kvs, .inr z, .inl eS, rfl, rfl⟩, _, rfl, ?_⟩
      refine ite2 (fun hn => ?_) (fun hn => ?_)
      · have hnz : z ∉ (ls.map (·.2)).flatten := fun q => by
          rw [(hk z).mpr q] at hn
          cases hn
        refine ⟨by show 0 ≤ sizeLine; decide, fun So nSo => ⟨_, rfl, by show 1 ≤ sizeLine; decide, fun Wd nW => ⟨_, _, rfl, ?_⟩⟩⟩
        have sSo := same_new (o := .lst []) nSo
        have sWd := same_new (o := .lst [.str z]) nW
        have sSW := sSo.trans sWd
        have SoW : So ≠ Wd := ne_of_none upd_same nW
        have smA := sm.trans sSW
        have FdSo : Fd ≠ So := ne_of_none eF nSo
        have SdSo : Sd ≠ So := ne_of_none eS nSo
        have FdW : Fd ≠ Wd := ne_of_none (sSo _ _ eF) nW
        have SdW : Sd ≠ Wd := ne_of_none (sSo _ _ eS) nW
        have kpA : ∀ b o, b ≠ Fd → b ≠ Sd → H2 b = some o → upd (upd H' So (.lst [])) Wd (.lst [.str z]) b = some o := fun b o n1 n2 e => sSW _ _ (kp b o n1 n2 e)
        have none2 : ∀ (H' : Hp) (b : Addr), (∀ b o, b ≠ Fd → b ≠ Sd → H2 b = some o → H' b = some o) → b ≠ Fd → b ≠ Sd → H' b = none → H2 b = none := fun H' b k n1 n2 e => by
          cases q : H2 b with
          | none => rfl
          | some o =>
            rw [k b o n1 n2 q] at e
            cases e
        have nW2 : H2 Wd = none := none2 _ Wd (fun b o n1 n2 e => sSo _ _ (kp b o n1 n2 e)) (Ne.symm FdW) (Ne.symm SdW) nW
        refine ⟨_, rfl, _, rfl, Sd, _, rfl, .inl ⟨kvs, .inr z, sSW _ _ eS, rfl, room_str _ (by omega), rfl⟩, ?_⟩
        have hyz : ∀ y, y ∈ pc N z → y ∉ (ls.map (·.2)).flatten := fun y hy => sme.sep hzf hnz hy
        have lsne : ∀ l ∈ ls, l.1 ≠ Fd ∧ l.1 ≠ Sd := fun l hl => by
          refine ⟨fun q => ?_, fun q => ?_⟩
          · have w1 := lsa l hl
            rw [q, eF] at w1
            have w2 := HO.lst.inj (Option.some.inj w1)
            cases ls with
            | nil => nomatch hl
            | cons l0 ls0 =>
              cases hl2 : l.2 with
              | nil =>
                rw [hl2] at w2
                cases w2
              | cons c cs =>
                rw [hl2] at w2
                cases w2
          · have w1 := lsa l hl
            rw [q, eS] at w1
            cases w1
        refine ⟨fun μ σ H3 => ∃ (Fs Ws Ps : List Str) (So Wd : Addr) (v8 v9 : Option V) (kv2 : List (Key × V)), σ = [some (.ref R), some (.ref ND), some (.ref FD), some (.ref Fd), some (.ref Sd), some (.str z), some (.ref So), some (.ref Wd), v8, v9, none] ∧ Same H H3 ∧ (∀ b o, b ≠ Fd → b ≠ Sd → H2 b = some o → H3 b = some o) ∧ H3 Fd = some (.lst (lrefs ls)) ∧ LsAt H3 ls ∧ H3 Sd = some (.dK kv2) ∧ kv2.length ≤ 64 * i + Fs.length ∧ (∀ y, (valV kv2 (Sum.inr y)).isSome = true ↔ y ∈ (ls.map (·.2)).flatten ∨ y ∈ Fs) ∧ H2 Wd = none ∧ H3 So = some (.lst (Ps.map V.str)) ∧ H3 Wd = some (.lst (Ws.map V.str)) ∧ Wd ≠ Fd ∧ (∀ l ∈ ls, l.1 ≠ Wd) ∧ So ≠ Wd ∧ Dfs (nb N) (· ∈ fr N) N.bs z Fs Ws ∧ (Ps ++ Ws).Perm Fs ∧ μ = 2 * (N.bs.length - Fs.length) + Ws.length,
          ⟨_, [z], [z], [], So, Wd, v8, v9, _, rfl, upd_same' smA nS0, fun b o n1 n2 e => by rw [upd_ne n2]; exact kpA b o n1 n2 e, by rw [upd_ne FS]; exact sSW _ _ eF, fun l hl => by rw [upd_ne (lsne l hl).2]; exact sSW _ _ (lsa l hl), upd_same, ?_, fun y => ?_, nW2, by rw [upd_ne (Ne.symm SdSo)]; exact sWd _ _ upd_same, by rw [upd_ne (Ne.symm SdW)]; exact upd_same, Ne.symm FdW, fun l hl => ne_of_none (sSo _ _ (lsa l hl)) nW, SoW, Dfs.start hz, List.Perm.refl _, rfl⟩, ?_⟩
        · have := DSub.putK_len kvs (Sum.inr z : Key) (V.bl true)
          show _ ≤ 64 * i + 1
          omega
        · rw [valV_put]
          by_cases e : (Sum.inr y : Key) = Sum.inr z
          · rw [if_pos e, Sum.inr.inj e]
            exact ⟨fun _ => .inr (List.mem_singleton.mpr rfl), fun _ => rfl⟩
          · rw [if_neg e, hk]
            exact ⟨.inl, fun h => h.elim id fun h => absurd (congrArg Sum.inr (List.mem_singleton.mp h)) e⟩
        rintro μ σ H3 ⟨Fs, Ws, Ps, So, Wd, v8, v9, kv2, rfl, sm3, kp3, eF3, ls3, eS3, lk2, hk2, nWd2, eSo, eWd, WdF, lsW, SoW, dfs, perm, rfl⟩
        have lF : Fs.length ≤ N.bs.length := nodup_le dfs.nd fun y hy => (dfs.ok y hy).2
        have wordW : ∀ y ∈ Ws, Word y := fun y hy => NF.word y (dfs.ok y (dfs.sub y hy)).2
        refine ⟨_, rfl, by show 0 ≤ sizeLine; decide, fun E nE => ?_⟩
        have sE := same_new (o := .lst []) nE
        refine ⟨_, _, .lst (SqL.of (sE _ _ eWd)) (dp_strs Ws), .lst (SqL.of upd_same) .nil, shaped_strs wordW, by decide, _, rfl, ?_⟩
        rw [show PyData.eqv (.list (Ws.map PyData.str)) (.list []) = decide (Ws = []) from eqv_strs Ws []]
        have smE := sm3.trans sE
        have kpE : ∀ b o, b ≠ Fd → b ≠ Sd → H2 b = some o → upd H3 E (.lst []) b = some o := fun b o n1 n2 e => sE _ _ (kp3 b o n1 n2 e)
        have eFE := sE _ _ eF3
        have lsE : LsAt (upd H3 E (.lst [])) ls := ls3.same sE
        have eSE := sE _ _ eS3
        have eSoE := sE _ _ eSo
        have eWdE := sE _ _ eWd
        generalize upd H3 E (.lst []) = H4 at *
        rcases List.eq_nil_or_concat Ws with rfl | ⟨Ws', x, rfl⟩
        · refine ifF ?_
          rw [List.append_nil] at perm
          refine ⟨_, rfl, .inl ⟨rfl, _, SqL.of eFE⟩, _, rfl, So, Ps, rfl, SqL.of eSoE, by rw [perm.length_eq]; omega, fun ys Pd pm srt nP => ?_⟩
          have ey : ys = pc N z := reach_uniq NF hz (asc_sortedS (pm.nodup_iff.mpr (perm.nodup_iff.mpr dfs.nd)) srt) fun y => by rw [pm.mem_iff, perm.mem_iff, dfs.done]
          subst ey
          have sP := same_new (o := .lst ((pc N z).map V.str)) nP
          have FP : Fd ≠ Pd := ne_of_none eFE nP
          refine ⟨Fd, _, _, rfl, rfl, sP _ _ eFE, by rw [lrefs_len]; exact room_str _ (by omega), ?_⟩
          have lpc : Fs.length = (pc N z).length := by rw [← perm.length_eq, pm.length_eq]
          refine ⟨_, _, _, _, _, ls ++ [(Pd, pc N z)], kv2, rfl, upd_same' (smE.trans sP) nF0, fun b o n1 n2 e => by rw [upd_ne n1]; exact sP _ _ (kpE b o n1 n2 e), ?_, ?_, fun l hl => ?_, fun l hl => ?_, ?_, ?_, ?_, fun y => ?_⟩
          · rw [upd_same]
            unfold lrefs
            rw [List.map_append]
            rfl
          · rw [stp, List.map_append]
            unfold pstep
            rw [if_neg hnz]
            rfl
          · rcases List.mem_append.mp hl with hl | hl
            · rw [upd_ne (lsne l hl).1]
              exact sP _ _ (lsE l hl)
            · rw [List.mem_singleton.mp hl, upd_ne (Ne.symm FP)]
              exact upd_same
          · rcases List.mem_append.mp hl with hl | hl
            · exact fr' l hl
            · rw [List.mem_singleton.mp hl]
              exact none_of_same smE nP
          · rw [List.length_append]
            show _ + 1 ≤ _
            omega
          · rw [upd_ne (Ne.symm FS)]
            exact sP _ _ eSE
          · omega
          · rw [hk2, List.map_append, List.flatten_append, List.mem_append]
            have hf : y ∈ Fs ↔ y ∈ pc N z := by rw [← perm.mem_iff, ← pm.mem_iff]
            rw [hf]
            constructor
            · rintro (h | h)
              · exact .inl h
              · exact .inr (by simpa using h)
            · rintro (h | h)
              · exact .inl h
              · exact .inr (by simpa using h)
        · rw [List.concat_eq_append] at *
          rw [decide_eq_false (by simp : ¬ Ws' ++ [x] = [])]
          refine ifT ⟨_, fun σ' H' n => n, ?_⟩
          have eW1 : (Ws' ++ [x]).map V.str = Ws'.map V.str ++ [V.str x] := by
            rw [List.map_append]
            rfl
          refine ⟨_, rfl, .inl ⟨rfl, _, SqL.of eWdE⟩, Wd, _, .str x, rfl, rfl, eWdE, ?_, ?_⟩
          · rw [eW1, List.length_append, List.getElem?_append_right (by show _ ≤ _ + 1 - 1; omega)]
            have : (Ws'.map V.str).length + [V.str x].length - 1 - (Ws'.map V.str).length = 0 := by show _ + 1 - 1 - _ = 0; omega
            rw [this]
            rfl
          rw [eW1, List.dropLast_concat]
          have nWd0 : H Wd = none := none_of_same s12 nWd2
          have WS : Wd ≠ Sd := fun q => by
            rw [q, eSE] at eWdE
            cases eWdE
          have sm5 : Same H (upd H4 Wd (.lst (Ws'.map V.str))) := upd_same' smE nWd0
          have kp5 : ∀ b o, b ≠ Fd → b ≠ Sd → H2 b = some o → upd H4 Wd (.lst (Ws'.map V.str)) b = some o := fun b o n1 n2 e => by
            rw [upd_ne (ne_of_none e nWd2)]
            exact kpE b o n1 n2 e
          have eF5 : upd H4 Wd (.lst (Ws'.map V.str)) Fd = some (.lst (lrefs ls)) := by rw [upd_ne (Ne.symm WdF)]; exact eFE
          have ls5 : LsAt (upd H4 Wd (.lst (Ws'.map V.str))) ls := fun l hl => by rw [upd_ne (lsW l hl)]; exact lsE l hl
          have eS5 : upd H4 Wd (.lst (Ws'.map V.str)) Sd = some (.dK kv2) := by rw [upd_ne (Ne.symm WS)]; exact eSE
          have eSo5 : upd H4 Wd (.lst (Ws'.map V.str)) So = some (.lst (Ps.map V.str)) := by rw [upd_ne SoW]; exact eSoE
          have eWd5 : upd H4 Wd (.lst (Ws'.map V.str)) Wd = some (.lst (Ws'.map V.str)) := upd_same
          generalize upd H4 Wd (.lst (Ws'.map V.str)) = H5 at *
          have hx : x ∈ Fs := dfs.sub x (List.mem_append.mpr (.inr (List.mem_singleton.mpr rfl)))
          have hxb := (dfs.ok x hx).2
          obtain ⟨lt, n1, n2, n3⟩ := (near2 H5 kp5).ex
          have hxl := hxb
          rw [← n2] at hxl
          obtain ⟨e, he, ee⟩ := List.mem_map.mp hxl
          have eL := n3 e he
          rw [ee] at eL
          have eFD5 := kp5 _ _ FF FSd eFD
          refine ⟨_, rfl, _, rfl, ND, .ref e.2, rfl, .inl ⟨tabR lt, .inr x, .inl n1, rfl, ?_⟩, e.2, rfl, ⟨_, SqL.of eL⟩, fun G nG => ?_⟩
          · rw [← ee]
            exact (tabR_at (by rw [n2]; exact asc_nodup ord_sl NF.asc) he).symm
          refine lc_list (K := K) (a := e.2) (xs := (nb N x).map V.str) (fun j H6 => Same H5 H6 ∧ H6 G = some (.lst ((((nb N x).take j).filter fun y => decide (y ∈ fr N) && !decide (y ∈ (ls.map (·.2)).flatten ∨ y ∈ Fs)).map V.str))) ⟨same_new nG, upd_same⟩ (fun j H6 _ ⟨s6, _⟩ => SqL.of (s6 _ _ eL)) ?_ ?_
          · rintro j v H6 hv ⟨s6, eG⟩
            rw [List.getElem?_map] at hv
            cases ey : (nb N x)[j]? with
            | none =>
              rw [ey] at hv
              cases hv
            | some y =>
            rw [ey] at hv
            cases hv
            have hj := (List.getElem?_eq_some_iff.mp ey).1
            have lnb : (nb N x).length ≤ N.bs.length := List.length_filter_le _ _
            have q2 : (valV kv2 (Sum.inr y)).isSome = decide (y ∈ (ls.map (·.2)).flatten ∨ y ∈ Fs) := by
              by_cases hy : y ∈ (ls.map (·.2)).flatten ∨ y ∈ Fs
              · rw [decide_eq_true hy, (hk2 y).mpr hy]
              · rw [decide_eq_false hy, ← Bool.not_eq_true]
                exact fun q => hy ((hk2 y).mp q)
            have tk : ((nb N x).take (j + 1)).filter (fun y => decide (y ∈ fr N) && !decide (y ∈ (ls.map (·.2)).flatten ∨ y ∈ Fs)) = ((nb N x).take j).filter (fun y => decide (y ∈ fr N) && !decide (y ∈ (ls.map (·.2)).flatten ∨ y ∈ Fs)) ++ (if (decide (y ∈ fr N) && !decide (y ∈ (ls.map (·.2)).flatten ∨ y ∈ Fs)) = true then [y] else []) := by
              rw [List.take_add_one, ey, List.filter_append]
              congr 1
              exact List.filter_cons ..
            refine ⟨rfl, _, rfl, _, rfl, FD, _, rfl, .inl (SqL.of (s6 _ _ eFD5)), rfl, flat_strs _, _, rfl, ?_⟩
            rw [inV_str, tk]
            have fin0 : ¬ (decide (y ∈ fr N) && !decide (y ∈ (ls.map (·.2)).flatten ∨ y ∈ Fs)) = true → Same H5 H6 ∧ H6 G = some (.lst ((((nb N x).take j).filter (fun y => decide (y ∈ fr N) && !decide (y ∈ (ls.map (·.2)).flatten ∨ y ∈ Fs)) ++ (if (decide (y ∈ fr N) && !decide (y ∈ (ls.map (·.2)).flatten ∨ y ∈ Fs)) = true then [y] else [])).map V.str)) := fun h => by
              rw [if_neg h, List.append_nil]
              exact ⟨s6, eG⟩
            refine ite2 (fun h1 => ?_) (fun h1 => ?_)
            · refine ⟨_, rfl, _, rfl, Sd, _, rfl, .inl ⟨kv2, .inr y, .inl (s6 _ _ eS5), rfl, rfl⟩, _, rfl, ?_⟩
              rw [q2]
              refine ite2 (fun h2 => ?_) (fun h2 => ?_)
              · refine ⟨_, rfl, _, eG, ?_, upd_same' s6 nG, ?_⟩
                · rw [List.length_map]
                  have h3 := List.length_filter_le (fun y => decide (y ∈ fr N) && !decide (y ∈ (ls.map (·.2)).flatten ∨ y ∈ Fs)) ((nb N x).take j)
                  rw [List.length_take] at h3
                  exact room_str _ (by omega)
                · rw [upd_same, if_pos (by rw [show decide (y ∈ fr N) = true from h1, h2]; rfl), List.map_append]
                  rfl
              · exact fin0 fun q => h2 (by rw [Bool.and_eq_true] at q; exact q.2)
            · exact ifF (fin0 fun q => h1 (by rw [Bool.and_eq_true] at q; exact (show decide (y ∈ fr N) = true from q.1)))
          rintro H6 ⟨s6, eG⟩
          rw [show ((nb N x).map V.str).length = (nb N x).length from List.length_map .., List.take_length] at eG
          have hxp : x ∈ pc N z := (mem_pc hzf).mpr (dfs.ok x hx).1
          have fmem : ∀ y, y ∈ (nb N x).filter (fun y => decide (y ∈ fr N) && !decide (y ∈ (ls.map (·.2)).flatten ∨ y ∈ Fs)) ↔ y ∈ nb N x ∧ y ∈ fr N ∧ y ∉ Fs := fun y => by
            rw [List.mem_filter, Bool.and_eq_true, decide_eq_true_eq, Bool.not_eq_true', decide_eq_false_iff_not, not_or]
            constructor
            · exact fun h => ⟨h.1, h.2.1, h.2.2.2⟩
            · exact fun h => ⟨h.1, h.2.1, hyz y ((mem_pc hzf).mpr (.step (dfs.ok x hx).1 h.1 h.2.1)), h.2.2⟩
          have fnd : ((nb N x).filter (fun y => decide (y ∈ fr N) && !decide (y ∈ (ls.map (·.2)).flatten ∨ y ∈ Fs))).Nodup := List.Pairwise.filter _ (nb_nodup NF x)
          generalize (nb N x).filter (fun y => decide (y ∈ fr N) && !decide (y ∈ (ls.map (·.2)).flatten ∨ y ∈ Fs)) = fu at *
          have dfs2 := dfs.turn fnd fmem fun y hy => nb_in hy
          have lfu : (Fs ++ fu).length ≤ N.bs.length := nodup_le dfs2.nd fun y hy => (dfs2.ok y hy).2
          rw [List.length_append] at lfu
          have eS6 := s6 _ _ eS5
          -- the table
          refine ⟨_, rfl, .inr (.inr (.inl ⟨rfl, .inl ⟨_, eS6⟩⟩)), _, rfl, G, rfl, ⟨_, SqL.of eG⟩, fun G2 nG2 => ?_⟩
          refine lc_list (K := K) (a := G) (xs := fu.map V.str) (fun j H7 => Same H6 H7 ∧ ∃ us : List (Addr × Str), H7 G2 = some (.lst ((us.map (·.1)).map V.ref)) ∧ us.length = j ∧ us.map (·.2) = fu.take j ∧ ∀ u ∈ us, H7 u.1 = some (.tup [.str u.2, .bl true])) ⟨same_new nG2, [], upd_same, rfl, rfl, fun u h => (nomatch h)⟩ (fun j H7 _ h => SqL.of (h.1 _ _ eG)) ?_ ?_
          · rintro j v H7 hv ⟨s7, us, eG2, lu, eu, hus⟩
            rw [List.getElem?_map] at hv
            cases ey : fu[j]? with
            | none =>
              rw [ey] at hv
              cases hv
            | some y =>
            rw [ey] at hv
            cases hv
            have hj := (List.getElem?_eq_some_iff.mp ey).1
            refine ⟨rfl, _, rfl, by show 2 ≤ sizeLine; decide, fun T2 nT2 => ?_⟩
            have sT2 := same_new (o := .tup [.str y, .bl true]) nT2
            have eG3 := sT2 _ _ eG2
            refine ⟨_, eG3, by rw [List.length_map, List.length_map]; exact room_str _ (by omega), upd_same' (s7.trans sT2) nG2, us ++ [(T2, y)], ?_, by rw [List.length_append, lu]; rfl, ?_, fun u hu => ?_⟩
            · rw [upd_same, List.map_append, List.map_append]
              rfl
            · rw [List.map_append, eu, List.take_add_one, ey]
              rfl
            · refine Tu.upd eG3 _ _ ?_
              rcases List.mem_append.mp hu with hu | hu
              · exact sT2 _ _ (hus u hu)
              · rw [List.mem_singleton.mp hu]
                exact upd_same
          rintro H7 ⟨s7, us, eG2, lu, eu, hus⟩
          rw [List.length_map, List.take_length] at eu
          refine ⟨G2, us.map (·.1), _, rfl, SqL.of eG2, paired_k hus, fun M nM => ?_⟩
          rw [eu]
          have mk : mergeK [] (ktab fu) = ktab fu := ktab_merge (F := []) fnd fun y _ h => nomatch h
          rw [mk]
          have sM := same_new (o := .dK (ktab fu)) nM
          have s57 := (s6.trans s7).trans sM
          have eS8 := s57 _ _ eS5
          have SM : Sd ≠ M := ne_of_none (s7 _ _ eS6) nM
          refine ⟨Sd, M, kv2, ktab fu, rfl, rfl, SM, eS8, upd_same, by rw [ktab_len]; exact room_le _ (by omega), ?_⟩
          -- some and waiting, anew
          have sm8 : Same H (upd (upd H7 M (.dK (ktab fu))) Sd (.dK (mergeK kv2 (ktab fu)))) := upd_same' (sm5.trans s57) nS0
          have k8 : ∀ b o, b ≠ Sd → H5 b = some o → upd (upd H7 M (.dK (ktab fu))) Sd (.dK (mergeK kv2 (ktab fu))) b = some o := fun b o nb e => by
            rw [upd_ne nb]
            exact s57 _ _ e
          have SoS : So ≠ Sd := fun q => by
            rw [q, eS5] at eSo5
            cases eSo5
          have GS : G ≠ Sd := Ne.symm (ne_of_none eS5 nG)
          have eG8 : upd (upd H7 M (.dK (ktab fu))) Sd (.dK (mergeK kv2 (ktab fu))) G = some (.lst (fu.map V.str)) := by
            rw [upd_ne GS]
            exact sM _ _ (s7 _ _ eG)
          have eSo8 := k8 _ _ SoS eSo5
          have eWd8 := k8 _ _ WS eWd5
          have eF8 := k8 _ _ FS eF5
          have eS9 : upd (upd H7 M (.dK (ktab fu))) Sd (.dK (mergeK kv2 (ktab fu))) Sd = some (.dK (mergeK kv2 (ktab fu))) := upd_same
          have ls8 : LsAt (upd (upd H7 M (.dK (ktab fu))) Sd (.dK (mergeK kv2 (ktab fu)))) ls := fun l hl => k8 _ _ (lsne l hl).2 (ls5 l hl)
          have kp8 : ∀ b o, b ≠ Fd → b ≠ Sd → H2 b = some o → upd (upd H7 M (.dK (ktab fu))) Sd (.dK (mergeK kv2 (ktab fu))) b = some o := fun b o n1 n2 e => k8 _ _ n2 (kp5 b o n1 n2 e)
          generalize upd (upd H7 M (.dK (ktab fu))) Sd (.dK (mergeK kv2 (ktab fu))) = H8 at *
          have lP : Ps.length + (Ws' ++ [x]).length = Fs.length := by
            have := perm.length_eq
            rw [List.length_append] at this
            exact this
          rw [List.length_append] at lP
          have l1 : [x].length = 1 := rfl
          rw [l1] at lP
          refine ⟨_, rfl, _, rfl, by show 1 ≤ sizeLine; decide, fun X1 nX1 => ?_⟩
          have sX1 := same_new (o := .lst [.str x]) nX1
          refine ⟨So, X1, _, _, rfl, rfl, sX1 _ _ eSo8, upd_same, by rw [List.length_map]; exact room_le _ (by show Ps.length + 1 ≤ 10000; omega), fun So2 nSo2 => ?_⟩
          have sSo2 := same_new (o := .lst (Ps.map V.str ++ [.str x])) nSo2
          refine ⟨_, rfl, _, rfl, Wd, G, _, _, rfl, rfl, sSo2 _ _ (sX1 _ _ eWd8), sSo2 _ _ (sX1 _ _ eG8), by rw [List.length_map, List.length_map]; exact room_le _ (by omega), fun Wd2 nWd2' => ⟨_, _, rfl, ?_⟩⟩
          have sWd2 := same_new (o := .lst (Ws'.map V.str ++ fu.map V.str)) nWd2'
          have s9 := (sX1.trans sSo2).trans sWd2
          have sA := sX1.trans sSo2
          refine ⟨2 * (N.bs.length - (Fs ++ fu).length) + (Ws' ++ fu).length, ?_, Fs ++ fu, Ws' ++ fu, Ps ++ [x], So2, Wd2, _, _, _, rfl, sm8.trans s9, fun b o n1 n2 e => s9 _ _ (kp8 b o n1 n2 e), s9 _ _ eF8, ls8.same s9, s9 _ _ eS9, ?_, fun y => ?_, ?_, ?_, ?_, ?_, fun l hl => ?_, ?_, dfs2, ?_, rfl⟩
          · simp only [List.length_append, List.length_cons, List.length_nil]
            omega
          · have := length_mergeK (ktab fu) kv2
            rw [ktab_len] at this
            rw [List.length_append]
            omega
          · rw [valV_merge, hk2, ktab_keys, List.mem_append, or_assoc]
            refine or_congr Iff.rfl (or_congr Iff.rfl ?_)
            exact ⟨fun h => by
              obtain ⟨q, hq, e⟩ := List.mem_map.mp h
              rw [← Sum.inr.inj e]
              exact hq, fun h => List.mem_map.mpr ⟨y, h, rfl⟩⟩
          · exact none2 _ Wd2 (fun b o n1 n2 e => sA _ _ (kp8 b o n1 n2 e)) (Ne.symm (ne_of_none (sA _ _ eF8) nWd2')) (Ne.symm (ne_of_none (sA _ _ eS9) nWd2')) nWd2'
          · rw [sWd2 _ _ upd_same, List.map_append]
            rfl
          · rw [upd_same, List.map_append]
          · exact Ne.symm (ne_of_none (sA _ _ eF8) nWd2')
          · exact ne_of_none (sA _ _ (ls8 l hl)) nWd2'
          · exact ne_of_none upd_same nWd2'
          · have h : ([x] ++ Ws').Perm (Ws' ++ [x]) := List.perm_append_comm
            have e : Ps ++ [x] ++ (Ws' ++ fu) = Ps ++ ([x] ++ Ws') ++ fu := by simp [List.append_assoc]
            rw [e]
            exact ((h.append_left Ps).append_right fu).trans (perm.append_right fu)
      · have hnz : z ∈ (ls.map (·.2)).flatten := by
          rw [← hk]
          cases hv : (valV kvs (Sum.inr z)).isSome with
          | true => rfl
          | false =>
            rw [hv] at hn
            exact absurd rfl hn
        refine ⟨_, _, _, _, _, ls, kvs, rfl, sm, kp, eF, ?_, lsa, fr', by omega, eS, by omega, hk⟩
        rw [stp]
        unfold pstep
        rw [if_pos hnz]
    · rintro σ H' ⟨v5, v6, v7, v8, v9, ls, kvs, rfl, sm, kp, eF, els, lsa, fr', ll, eS, lk, hk⟩
      rw [List.length_map, List.take_length] at els
      exact ⟨_, rfl, kk Fd H' ls nF0 eF els lsa fr' sm⟩
end
end NK
/-! the law makes nets, lists of lists -/
namespace NK
open PySem PySem.Spec PyProof.Rows L2 He K1
theorem MadeAt.cong {C : Addr} {H : Hp} {a : Addr} {bs : List Str} {ps ps' : List Pr} {wf wf' : Str → Str} (hp : ∀ p, p ∈ ps ↔ p ∈ ps') (hw : ∀ z ∈ bs, wf z = wf' z) (m : MadeAt C H a bs ps wf) : MadeAt C H a bs ps' wf' := by
  obtain ⟨dx, nr, wr, tt, a1, a2, a3, a4, a5⟩ := m.ex
  refine ⟨dx, nr, wr, tt, a1, a2, a3, fun e he => ?_, ?_⟩
  · have z := a4 e he
    have q : nbrs bs ps e.1 = nbrs bs ps' e.1 := by
      unfold nbrs
      refine List.filter_congr fun y _ => ?_
      unfold adj
      exact decide_eq_decide.mpr (by rw [hp, hp])
    rw [q] at z
    exact z
  · rw [a5]
    unfold wtab
    rw [List.map_congr_left fun z hz => by rw [hw z hz]]
theorem NetIn.same {H H' : Hp} {p t w : Addr} {zs : List Str} {qs : Qs} {kvs : List (Key × V)} (s : Same H H') (i : NetIn H p t w zs qs kvs) : NetIn H' p t w zs qs kvs := ⟨s _ _ i.lamps, i.nd, i.word, i.pos, i.few, i.ties.same s, i.wish.same s⟩
theorem make_ok {C : Addr} {H : Hp} {p t w : Addr} {zs : List Str} {qs : Qs} {kvs : List (Key × V)} {N : NetD} {Q : VK} (I : NetIn H p t w zs qs kvs) (pm : N.bs.Perm zs) (asc : Asc sl N.bs) (ts : ∀ r, r ∈ qs.map (·.2) ↔ r ∈ N.ts) (wf : ∀ z ∈ N.bs, valV kvs (Sum.inr z) = some (.str (N.wf z)))
    (k : ∀ (a : Addr) (H' : Hp), H a = none → Made C H' a N → Same H H' → NewF C H H' a → Q (.ref a) H') : ∀ x dx : Addr, H x = none → H dx = none → dx ≠ x → spInit C (.ref x :: ([.ref p, .ref t, .ref w] ++ [])) (upd (upd H dx (.own x)) x (.ins C dx [])) (fun v H2 => v = .non ∧ Q (.ref x) H2) E0 := by
  intro x dx nx ndx ne
  have s1 := same_new (o := .own x) ndx
  have nx1 : upd H dx (.own x) x = none := by rw [upd_ne (Ne.symm ne)]; exact nx
  have s2 := s1.trans (same_new (o := .ins C dx []) nx1)
  refine ⟨x, p, t, w, dx, zs, qs, kvs, rfl, upd_same, I.same s2, fun bs H' pm' asc' made bt nf => ⟨rfl, k x H' nx ?_ ?_ fun dx' nr wr e => let ⟨h1, h2⟩ := nf _ _ _ e; ⟨none_of_same s2 h1, none_of_same s2 h2⟩⟩⟩
  · have e : bs = N.bs := asc_uniq ord_sl asc' asc fun y => by rw [pm'.mem_iff, pm.mem_iff]
    subst e
    exact made.cong ts fun z hz => wOf_at (wf z hz)
  · intro b o e
    exact bt b o (ne_of_none e nx) (s2 _ _ e)
section
variable {P : Program} {w : World} {K : PySem.W.Frag} {mg : Str → Option Value} {base : Heap} {C W : Addr}
/-- any list of texts and all its parts -/
def lists (zs : List Str) : List (List Str) := zs.foldl (fun acc z => acc ++ acc.map fun l => l ++ [z]) [[]]
theorem lists_len (zs : List Str) : ∀ acc : List (List Str), (zs.foldl (fun acc z => acc ++ acc.map fun l => l ++ [z]) acc).length = 2 ^ zs.length * acc.length := by
  induction zs with
  | nil =>
    intro acc
    simp
  | cons z zs ih =>
    intro acc
    rw [List.foldl_cons, ih, List.length_append, List.length_map, List.length_cons, Nat.pow_succ]
    rw [Nat.mul_assoc, Nat.two_mul]
theorem mem_lists0 : ∀ (zs : List Str) (acc : List (List Str)) (l : List Str), l ∈ zs.foldl (fun acc z => acc ++ acc.map fun l => l ++ [z]) acc → ∃ l0 ∈ acc, ∃ m : List Str, m.Sublist zs ∧ l = l0 ++ m
  | [], acc, l, h => ⟨l, h, [], List.Sublist.slnil, (List.append_nil l).symm⟩
  | z :: zs, acc, l, h => by
    obtain ⟨l1, h1, m, hm, rfl⟩ := mem_lists0 zs _ l h
    rcases List.mem_append.mp h1 with h1 | h1
    · exact ⟨l1, h1, m, hm.cons z, rfl⟩
    · obtain ⟨l0, h0, rfl⟩ := List.mem_map.mp h1
      exact ⟨l0, h0, z :: m, hm.cons_cons z, by simp⟩
theorem mem_lists {zs l : List Str} (h : l ∈ lists zs) : l.Sublist zs := by
  obtain ⟨l0, h0, m, hm, rfl⟩ := mem_lists0 zs _ l h
  rw [List.mem_singleton.mp h0]
  exact hm
def spLLists (K : PySem.W.Frag) : Sp := fun vs H Q _ => ∃ (p : Addr) (zs : List Str), vs = [.ref p] ∧ H p = some (.lst (zs.map V.str)) ∧ zs.length ≤ 11 ∧ newLL (lists zs) Q H
/-- as it is, or turned about -/
def tn {α : Type} (k : Int) (l : List α) : List α := if k = 1 then l else l.reverse
theorem tn_map {α β : Type} (f : α → β) (k : Int) (l : List α) : tn k (l.map f) = (tn k l).map f := by
  unfold tn
  split
  · rfl
  · exact List.map_reverse.symm
theorem tn_perm {α : Type} (k : Int) (l : List α) : (tn k l).Perm l := by
  unfold tn
  split
  · exact List.Perm.refl _
  · exact List.reverse_perm l
theorem paired_w {K : PySem.W.Frag} {H : Hp} {wf : Str → Str} {us : List (Addr × Str)} (h : ∀ u ∈ us, H u.1 = some (.tup [.str u.2, .str (wf u.2)])) : Paired (fun p kv => SqT K H p [kV kv.1, kv.2]) (us.map (·.1)) (wtab (us.map (·.2)) wf) := paired_us h
def spLNet (C : Addr) : Sp := fun vs H Q _ => ∃ (R : Addr) (N : NetD), vs = [.ref R] ∧ NetAt H R N ∧ ∀ (a : Addr) (H' : Hp), H a = none → Made C H' a N → Same H H' → Q (.ref a) H'
theorem ok_lnet {f : Addr} {fd : FuncData} (F : FnP K "_law_net" s_l_net f fd) (B : FreeN mg) (MK : C8.Mak P w K mg base 3 "Net" C (spInit C) []) : FnOk P w K mg base CX0 5 f fd ["_law_net_here"] (spLNet C) := by
  refine fnP_ok F sc_l_net (fun vs H Q E h => ?_) (fun cdv A outer s H vs Q E hr h => ?_)
  · obtain ⟨R, N, rfl, _⟩ := h
    rfl
  · obtain ⟨R, N, rfl, m, kk⟩ := h
    have nd := sc_l_net.nd
    have hu1 := room1 hr
    refine ⟨_, (pss_cons (ps_set (i := 1) nd rfl (.inl rfl) (pe_op op_sub pe_int (pe_op op_mul pe_int (pe_op op_mod (pe_callTy call_int1 (by rfl) B.int (by decide +kernel) (pa_cons (pe_callB (k_sum (K := K) rfl rfl) (by rfl) B.sum (by decide +kernel) (pa_cons (pe_lc (own := [("_law_lamp", 2)]) (g := gName 2) (tt := tYes) rfl nd (k_pil (K := K) rfl (pe_ix (k_ixl (K := K) rfl) (pv 0) pe_int (fun _ _ => rfl))) (blkOk_by (N := nm_l_net) (sc := defScope s_l_net) (by decide +kernel)) (fun _ _ _ _ _ => (pg_name (i := 2) nd rfl (Or.inl rfl))) (fun _ _ _ _ _ => pts_nil) (fun _ _ _ _ _ => (pe_callB call_len_str (by rfl) B.len (by decide +kernel) (pa_cons (pv 2) pa_nil)))) pa_nil)) pa_nil)) pe_int))))
      (pss_one (ps_ret (C8.pe_mk MK hr (by decide) rfl (pa_cons (k_step (K := K) rfl (pe_ix (k_ixl (K := K) rfl) (pv 0) pe_int (fun _ _ => rfl)) (pv 1)) (pa_cons (k_step (K := K) rfl (pe_ix (k_ixl (K := K) rfl) (pv 0) pe_int (fun _ _ => rfl)) (pv 1)) (pa_cons (pe_callTy (k_dictP (K := K) rfl rfl) (by rfl) B.dict (by decide +kernel) (pa_cons (pe_lc (own := [("_law_lamp", 2)]) (g := gName 2) (tt := tYes) rfl nd (k_pil (K := K) rfl (k_step (K := K) rfl (pe_ix (k_ixl (K := K) rfl) (pv 0) pe_int (fun _ _ => rfl)) (pv 1))) (blkOk_by (N := nm_l_net) (sc := defScope s_l_net) (by decide +kernel)) (fun _ _ _ _ _ => (pg_name (i := 2) nd rfl (Or.inl rfl))) (fun _ _ _ _ _ => pts_nil) (fun _ _ _ _ _ => (pe_tup (pa_cons (pv 2) (pa_cons (pe_dget hu1 (pe_ix (k_ixl (K := K) rfl) (pv 0) pe_int (fun _ _ => rfl)) (pv 2) (fun _ _ => rfl)) pa_nil))))) pa_nil)) pa_nil))))))), ?_⟩
    obtain ⟨b, t, w0, qs, a1, a2, a3, a4, a5, a6⟩ := m.ex
    have NF := m.ok.toF
    have few := NF.few
    have le := m.ok.le
    have bnd := asc_nodup ord_sl NF.asc
    refine ⟨_, rfl, R, _, 0, .ref b, rfl, rfl, SqL.of a1, rfl, b, rfl, ⟨_, SqL.of a2⟩, fun D nD => ?_⟩
    refine lc_list (K := K) (a := b) (xs := N.bs.map V.str) (fun i H' => Same H H' ∧ ∃ ns : List Int, H' D = some (.lst (ns.map V.int)) ∧ ns.length = i) ⟨same_new nD, [], upd_same, rfl⟩ (fun i H' _ h => SqL.of (h.1 _ _ a2)) ?_ ?_
    · rintro i x H' hx ⟨sm, ns, eD, ln⟩
      rw [List.getElem?_map] at hx
      cases ez : N.bs[i]? with
      | none =>
        rw [ez] at hx
        cases hx
      | some z =>
      rw [ez] at hx
      cases hx
      have hi := (List.getElem?_eq_some_iff.mp ez).1
      have wz := NF.word z (List.mem_of_getElem? ez)
      refine ⟨rfl, _, rfl, z, rfl, room_le _ (by have := wz.2.1; omega), _, eD, by rw [List.length_map]; exact room_str _ (by omega), upd_same' sm nD, ns ++ [(z.length : Int)], ?_, by rw [List.length_append, ln]; rfl⟩
      rw [upd_same, List.map_append]
      rfl
    rintro H1 ⟨s1, ns, eD, ln⟩
    refine ⟨D, ns, rfl, SqL.of eD, .inl ⟨_, rfl, _, _, rfl, rfl, by show (0 : Int) < 2; decide, ?_⟩⟩
    refine ⟨_, _, rfl, rfl, .inl ⟨by decide, by decide⟩, _, _, rfl, rfl, ?_⟩
    have hk : (1 : Int) - 2 * (ns.sum % 2) = 1 ∨ (1 : Int) - 2 * (ns.sum % 2) = -1 := by omega
    obtain ⟨k, ek⟩ : ∃ k : Int, k = 1 - 2 * (ns.sum % 2) := ⟨_, rfl⟩
    rw [← ek] at hk
    have a1' := s1 _ _ a1
    refine ⟨_, rfl, R, _, 0, .ref b, rfl, rfl, SqL.of a1', rfl, _, rfl, _, rfl, b, _, k, rfl, congrArg some ek.symm, SqL.of (s1 _ _ a2), hk, fun p np => ?_⟩
    have e1 : (if k = 1 then N.bs.map V.str else (N.bs.map V.str).reverse) = (tn k N.bs).map V.str := tn_map V.str k N.bs
    rw [e1]
    have s2 := same_new (o := .lst ((tn k N.bs).map V.str)) np
    have s12 := s1.trans s2
    refine ⟨_, rfl, R, _, 1, .ref t, rfl, rfl, SqL.of (s12 _ _ a1), rfl, _, rfl, _, rfl, t, _, k, rfl, congrArg some ek.symm, SqL.of (s12 _ _ a3), hk, fun p2 np2 => ?_⟩
    have e2 : (if k = 1 then qrefs qs else (qrefs qs).reverse) = qrefs (tn k qs) := tn_map _ k qs
    rw [e2]
    have s3 := same_new (o := .lst (qrefs (tn k qs))) np2
    have s13 := s12.trans s3
    refine ⟨_, rfl, R, _, 0, .ref b, rfl, rfl, SqL.of (s13 _ _ a1), rfl, _, rfl, _, rfl, b, _, k, rfl, congrArg some ek.symm, SqL.of (s13 _ _ a2), hk, fun p3 np3 => ?_⟩
    rw [e1]
    have s4 := same_new (o := .lst ((tn k N.bs).map V.str)) np3
    have s14 := s13.trans s4
    refine ⟨p3, rfl, ⟨_, SqL.of upd_same⟩, fun G nG => ?_⟩
    have pb := tn_perm k N.bs
    refine lc_list (K := K) (a := p3) (xs := (tn k N.bs).map V.str) (fun j H7 => Same _ H7 ∧ ∃ us : List (Addr × Str), H7 G = some (.lst ((us.map (·.1)).map V.ref)) ∧ us.length = j ∧ us.map (·.2) = (tn k N.bs).take j ∧ ∀ u ∈ us, H7 u.1 = some (.tup [.str u.2, .str (N.wf u.2)])) ⟨same_new nG, [], upd_same, rfl, rfl, fun u h => (nomatch h)⟩ (fun j H7 _ h => SqL.of (h.1 _ _ upd_same)) ?_ ?_
    · rintro j v H7 hv ⟨s7, us, eG2, lu, eu, hus⟩
      rw [List.getElem?_map] at hv
      cases ey : (tn k N.bs)[j]? with
      | none =>
        rw [ey] at hv
        cases hv
      | some y =>
      rw [ey] at hv
      cases hv
      have hj := (List.getElem?_eq_some_iff.mp ey).1
      rw [pb.length_eq] at hj
      have hy := pb.mem_iff.mp (List.mem_of_getElem? ey)
      have s17 := s14.trans s7
      refine ⟨rfl, _, rfl, _, rfl, R, _, 2, .ref w0, rfl, rfl, SqL.of (s17 _ _ a1), rfl, _, rfl, w0, .str (N.wf y), rfl, .inl ⟨_, .inr y, .inl (s17 _ _ a6), rfl, (wtab_at hy).symm⟩, by show 2 ≤ sizeLine; decide, fun T2 nT2 => ?_⟩
      have sT2 := same_new (o := .tup [.str y, .str (N.wf y)]) nT2
      have eG3 := sT2 _ _ eG2
      refine ⟨_, eG3, by rw [List.length_map, List.length_map]; exact room_str _ (by omega), upd_same' (s7.trans sT2) nG, us ++ [(T2, y)], ?_, by rw [List.length_append, lu]; rfl, ?_, fun u hu => ?_⟩
      · rw [upd_same, List.map_append, List.map_append]
        rfl
      · rw [List.map_append, eu, List.take_add_one, ey]
        rfl
      · refine Tu.upd eG3 _ _ ?_
        rcases List.mem_append.mp hu with hu | hu
        · exact sT2 _ _ (hus u hu)
        · rw [List.mem_singleton.mp hu]
          exact upd_same
    rintro H7 ⟨s7, us, eG2, lu, eu, hus⟩
    rw [List.length_map, List.take_length] at eu
    refine ⟨G, us.map (·.1), _, rfl, SqL.of eG2, paired_w hus, fun M nM => ?_⟩
    have tnd : (tn k N.bs).Nodup := pb.nodup_iff.mpr bnd
    rw [eu, wtab_merge N.wf tnd]
    have sM := same_new (o := .dK (wtab (tn k N.bs) N.wf)) nM
    have pq := tn_perm k qs
    have sf := (s14.trans s7).trans sM
    have s3f := (s4.trans s7).trans sM
    have s2f := s3.trans s3f
    refine make_ok (p := p) (t := p2) (w := M) (zs := tn k N.bs) (qs := tn k qs) (kvs := wtab (tn k N.bs) N.wf) (N := N) ⟨s2f _ _ upd_same, tnd, fun z hz => NF.word z (pb.mem_iff.mp hz), by rw [pb.length_eq]; exact NF.pos, by rw [pb.length_eq]; exact few, ⟨s3f _ _ upd_same, ?_, ?_, ?_, ?_⟩, ⟨upd_same, ?_, ?_⟩⟩ pb.symm NF.asc ?_ ?_ fun a H' na made sm _ => kk a H' (none_of_same sf na) made (sf.trans sm)
    · rw [pq.length_eq]
      have := NF.tfew
      rw [← a4, List.length_map] at this
      exact this
    · exact fun q hq => sf _ _ (a5 q (pq.mem_iff.mp hq))
    · have : ((tn k qs).map (·.2)).Perm (qs.map (·.2)) := pq.map _
      rw [a4] at this
      exact this.nodup_iff.mpr NF.tnd
    · intro q hq
      have h1 := NF.tin q.2 (by rw [← a4]; exact List.mem_map.mpr ⟨q, pq.mem_iff.mp hq, rfl⟩)
      exact ⟨pb.mem_iff.mpr h1.1, pb.mem_iff.mpr h1.2.1, h1.2.2⟩
    · unfold wtab
      rw [List.length_map]
    · intro z hz
      exact ⟨_, wtab_at hz, NF.wish z (pb.mem_iff.mp hz)⟩
    · intro r
      have : ((tn k qs).map (·.2)).Perm (qs.map (·.2)) := pq.map _
      rw [this.mem_iff, a4]
    · intro z hz
      exact wtab_at (pb.mem_iff.mpr hz)
end
end NK
/-! alike, at any depth -/
namespace NK
open PySem PySem.Spec PyProof.Rows L2 He K1
/-- two that are alike: texts, bools, ints; lists, tuples, tables of texts -/
def Sc (x y : V) : Prop := (∃ s, x = .str s ∧ y = .str s) ∨ (∃ b, x = .bl b ∧ y = .bl b) ∨ (∃ i, x = .int i ∧ y = .int i) ∨ (x = .non ∧ y = .non)
def Each (R : V → V → Prop) (xs ys : List V) : Prop := xs.length = ys.length ∧ ∀ (i : Nat) (x y : V), xs[i]? = some x → ys[i]? = some y → R x y
def Al (H : Hp) : Nat → V → V → Prop
  | 0, x, y => Sc x y
  | n + 1, x, y => Sc x y ∨ (∃ (a b : Addr) (xs ys : List V), x = .ref a ∧ y = .ref b ∧ xs.length ≤ 5000 ∧ Each (Al H n) xs ys ∧ ((H a = some (.lst xs) ∧ H b = some (.lst ys)) ∨ (H a = some (.tup xs) ∧ H b = some (.tup ys)))) ∨
      ∃ (a b : Addr) (zs : List Str) (kvs lvs : List (Key × V)), x = .ref a ∧ y = .ref b ∧ zs.length ≤ 5000 ∧ 1 ≤ n ∧ H a = some (.dK kvs) ∧ H b = some (.dK lvs) ∧ kvs.map (·.1) = zs.map (fun z => (Sum.inr z : Key)) ∧ lvs.map (·.1) = zs.map (fun z => (Sum.inr z : Key)) ∧
        ∀ z ∈ zs, ∃ u v, valV kvs (Sum.inr z) = some u ∧ valV lvs (Sum.inr z) = some v ∧ Sc u v
theorem Al.same {H H' : Hp} (s : Same H H') : ∀ {n : Nat} {x y : V}, Al H n x y → Al H' n x y
  | 0, _, _, h => h
  | n + 1, _, _, .inl h => .inl h
  | n + 1, _, _, .inr (.inl ⟨a, b, xs, ys, hx, hy, hl, e, h⟩) => .inr (.inl ⟨a, b, xs, ys, hx, hy, hl, ⟨e.1, fun i x y h1 h2 => Al.same s (e.2 i x y h1 h2)⟩, h.elim (fun h => .inl ⟨s _ _ h.1, s _ _ h.2⟩) fun h => .inr ⟨s _ _ h.1, s _ _ h.2⟩⟩)
  | n + 1, _, _, .inr (.inr ⟨a, b, zs, kvs, lvs, hx, hy, hl, h1, e1, e2, k1, k2, h⟩) => .inr (.inr ⟨a, b, zs, kvs, lvs, hx, hy, hl, h1, s _ _ e1, s _ _ e2, k1, k2, h⟩)
theorem Al.sc {H : Hp} {n : Nat} {x y : V} (h : Sc x y) : Al H n x y := by
  cases n with
  | zero => exact h
  | succ n => exact .inl h
theorem each_strs {H : Hp} {n : Nat} (zs : List Str) : Each (Al H n) (zs.map V.str) (zs.map V.str) := ⟨rfl, fun i x y h1 h2 => by
  rw [h1] at h2
  cases h2
  rw [List.getElem?_map] at h1
  cases e : zs[i]? with
  | none =>
    rw [e] at h1
    cases h1
  | some z =>
    rw [e] at h1
    cases h1
    exact Al.sc (.inl ⟨z, rfl, rfl⟩)⟩
theorem walk_zipT {K : PySem.W.Frag} {a b : Addr} {xs ys : List V} {n : Nat} (hn : n = min xs.length ys.length) : Walk (RZ.ItzT K a b) n (fun H => SqT K H a xs ∧ SqT K H b ys) (YPair (fun i => xs[i]?) (fun i => ys[i]?)) := by
  subst hn
  refine ⟨fun i _ hi q => ?_, fun _ q => ⟨xs, ys, q.1, q.2, by omega⟩, fun i H v H' _ q y => ?_⟩
  · have h1 : i < xs.length := by omega
    have h2 : i < ys.length := by omega
    exact ⟨xs, ys, xs[i], ys[i], q.1, q.2, by simp [h1], by simp [h2]⟩
  · obtain ⟨T, x, z, h1, h2, h3, h4, h5⟩ := y
    exact ⟨T, x, z, h1, h2, h3, h4 xs q.1, h5 ys q.2⟩
def spX : Nat → Sp
  | 0 => fun _ _ _ _ => False
  | n + 1 => fun vs H Q _ => ∃ x y : V, vs = [x, y] ∧ Al H n x y ∧ yes Q H
section
variable {P : Program} {w : World} {K : PySem.W.Frag} {mg : Str → Option Value} {base : Heap}
theorem exact_step {f : Addr} {fd : FuncData} (F : FnP K "_law_exact" s_l_exact f fd) (B : FreeN mg) {k n : Nat} (G__law_exact : Has P w K mg base k "_law_exact" ["_law_mine", "_law_theirs"] (spX n)) : FnOk P w K mg base CX0 (k + 1) f fd ["_law_mine", "_law_theirs"] (spX (n + 1)) := by
  refine fnP_ok F sc_l_exact (fun vs H Q E h => ?_) (fun cdv A outer s H vs Q E hr h => ?_)
  · obtain ⟨x, y, rfl, _⟩ := h
    rfl
  · obtain ⟨x, y, rfl, al, kk⟩ := h
    have nd := sc_l_exact.nd
    have hu1 := room1 hr
    refine ⟨_, (pss_cons (ps_if (pt_val (pe_callB (k_isiT (K := K) rfl) (by rfl) B.isi (by decide +kernel) (pa_cons (pv 0) (pa_cons (pe_tup (pa_cons (pe_bltn (v := .ty "list") (by rfl) B.list (by decide +kernel) rfl) (pa_cons (pe_bltn (v := .ty "tuple") (by rfl) B.tuple (by decide +kernel) rfl) pa_nil))) pa_nil)))) (pss_cons (ps_set (i := 2) nd rfl (.inl rfl) (pe_and (pe_cmpR op_eq (pe_callB (k_isi (K := K) rfl) (by rfl) B.isi (by decide +kernel) (pa_cons (pv 1) (pa_cons (pe_bltn (v := .ty "list") (by rfl) B.list (by decide +kernel) rfl) pa_nil))) (pe_callB (k_isi (K := K) rfl) (by rfl) B.isi (by decide +kernel) (pa_cons (pv 0) (pa_cons (pe_bltn (v := .ty "list") (by rfl) B.list (by decide +kernel) rfl) pa_nil))) (nomark _)) (pe_one (pe_cmpR op_eq (pe_callB (k_isi (K := K) rfl) (by rfl) B.isi (by decide +kernel) (pa_cons (pv 1) (pa_cons (pe_bltn (v := .ty "tuple") (by rfl) B.tuple (by decide +kernel) rfl) pa_nil))) (pe_callB (k_isi (K := K) rfl) (by rfl) B.isi (by decide +kernel) (pa_cons (pv 0) (pa_cons (pe_bltn (v := .ty "tuple") (by rfl) B.tuple (by decide +kernel) rfl) pa_nil))) (nomark _)))))
      (pss_one (ps_ret (pe_and (pv 2) (pe_and (pe_cmpR op_eq (pe_callB (k_len (K := K) rfl) (by rfl) B.len (by decide +kernel) (pa_cons (pv 0) pa_nil)) (pe_callB (k_len (K := K) rfl) (by rfl) B.len (by decide +kernel) (pa_cons (pv 1) pa_nil)) (nomark _)) (pe_one (pe_callB (k_all (K := K) rfl rfl) (by rfl) B.all (by decide +kernel) (pa_cons (pe_lc (own := [("_law_a", 3), ("_law_b", 4)]) (g := gTup K 2 (gCons (gName 3) (gCons (gName 4) gNil))) (tt := tYes) rfl nd (RZ.pi_zipA (by rfl) B.zip (pa_cons (pv 0) (pa_cons (pv 1) pa_nil))) (blkOk_by (N := nm_l_exact) (sc := defScope s_l_exact) (by decide +kernel)) (fun _ _ _ _ _ => (pg_tup rfl (pgs_cons (pg_name (i := 3) nd rfl (Or.inl rfl)) (pgs_cons (pg_name (i := 4) nd rfl (Or.inl rfl)) pgs_nil)))) (fun _ _ _ _ _ => pts_nil) (fun _ _ _ _ _ => (pe_has G__law_exact hr (pa_cons (pv 3) (pa_cons (pv 4) pa_nil))))) pa_nil)))))))) pss_nil)
      (pss_cons (ps_if (pt_val (pe_callB (k_isi (K := K) rfl) (by rfl) B.isi (by decide +kernel) (pa_cons (pv 0) (pa_cons (pe_bltn (v := .ty "dict") (by rfl) B.dict (by decide +kernel) rfl) pa_nil)))) (pss_cons (ps_set (i := 2) nd rfl (.inl rfl) (pe_and (pe_callB (k_isi (K := K) rfl) (by rfl) B.isi (by decide +kernel) (pa_cons (pv 1) (pa_cons (pe_bltn (v := .ty "dict") (by rfl) B.dict (by decide +kernel) rfl) pa_nil))) (pe_one (pe_has G__law_exact hr (pa_cons (pe_callTy (call_listD rfl) (by rfl) B.list (by decide +kernel) (pa_cons (pv 0) pa_nil)) (pa_cons (pe_callTy (call_listD rfl) (by rfl) B.list (by decide +kernel) (pa_cons (pv 1) pa_nil)) pa_nil))))))
      (pss_one (ps_ret (pe_and (pv 2) (pe_one (pe_callB (k_all (K := K) rfl rfl) (by rfl) B.all (by decide +kernel) (pa_cons (pe_lock (pe_lc (own := [("_law_key", 5)]) (g := gName 5) (tt := tYes) rfl nd (pi_keys (pv 0)) (blkOk_by (N := nm_l_exact) (sc := defScope s_l_exact) (by decide +kernel)) (fun _ _ _ _ _ => (pg_name (i := 5) nd rfl (Or.inl rfl))) (fun _ _ _ _ _ => pts_nil) (fun _ _ _ _ _ => (pe_has G__law_exact hr (pa_cons (pe_dget hu1 (pv 0) (pv 5) (fun _ _ => rfl)) (pa_cons (pe_dget hu1 (pv 1) (pv 5) (fun _ _ => rfl)) pa_nil)))))) pa_nil))))))) pss_nil)
      (pss_cons (ps_set (i := 2) nd rfl (.inl rfl) (pe_cmpR op_eq (pe_callB (k_isi (K := K) rfl) (by rfl) B.isi (by decide +kernel) (pa_cons (pv 0) (pa_cons (pe_bltn (v := .ty "int") (by rfl) B.int (by decide +kernel) rfl) pa_nil))) (pe_callB (k_isi (K := K) rfl) (by rfl) B.isi (by decide +kernel) (pa_cons (pv 1) (pa_cons (pe_bltn (v := .ty "int") (by rfl) B.int (by decide +kernel) rfl) pa_nil))) (nomark _)))
      (pss_one (ps_ret (pe_and (pv 2) (pe_and (pe_cmpR op_eq (pe_callB (k_isi (K := K) rfl) (by rfl) B.isi (by decide +kernel) (pa_cons (pv 0) (pa_cons (pe_bltn (v := .ty "bool") (by rfl) B.bool (by decide +kernel) rfl) pa_nil))) (pe_callB (k_isi (K := K) rfl) (by rfl) B.isi (by decide +kernel) (pa_cons (pv 1) (pa_cons (pe_bltn (v := .ty "bool") (by rfl) B.bool (by decide +kernel) rfl) pa_nil))) (nomark _)) (pe_one (pe_cmpR op_eq (pv 0) (pv 1) (nomark _)))))))))), ?_⟩
    have cls2 : Paired ClsV [.ty "list", .ty "tuple"] [.type "list", .type "tuple"] := .cons (.ty "list") (.cons (.ty "tuple") .nil)
    have alt : Sc x y ∨ ∃ m, n = m + 1 ∧ ((∃ (a b : Addr) (xs ys : List V), x = .ref a ∧ y = .ref b ∧ xs.length ≤ 5000 ∧ Each (Al H m) xs ys ∧ ((H a = some (.lst xs) ∧ H b = some (.lst ys)) ∨ (H a = some (.tup xs) ∧ H b = some (.tup ys)))) ∨
      ∃ (a b : Addr) (zs : List Str) (kvs lvs : List (Key × V)), x = .ref a ∧ y = .ref b ∧ zs.length ≤ 5000 ∧ 1 ≤ m ∧ H a = some (.dK kvs) ∧ H b = some (.dK lvs) ∧ kvs.map (·.1) = zs.map (fun z => (Sum.inr z : Key)) ∧ lvs.map (·.1) = zs.map (fun z => (Sum.inr z : Key)) ∧
        ∀ z ∈ zs, ∃ u v, valV kvs (Sum.inr z) = some u ∧ valV lvs (Sum.inr z) = some v ∧ Sc u v) := by
      cases n with
      | zero => exact .inl al
      | succ m =>
        rcases al with h | h | h
        · exact .inl h
        · exact .inr ⟨m, rfl, .inl h⟩
        · exact .inr ⟨m, rfl, .inr h⟩
    rcases alt with sc | ⟨m, rfl, ⟨a, b, xs, ys, rfl, rfl, hl, ee, ⟨ea, eb⟩ | ⟨ea, eb⟩⟩ | ⟨a, b, zs, kvs, lvs, rfl, rfl, hl, m1, ea, eb, k1, k2, hv⟩⟩
    · refine ⟨_, rfl, by show 2 ≤ sizeLine; decide, fun T nT => ?_⟩
      have sT := same_new (o := .tup [.ty "list", .ty "tuple"]) nT
      obtain ⟨t, i, b, ty1, ty2, q1, q2, q3, q4, exy, sxy⟩ : ∃ (t : Value) (i b : Bool), TyX K (upd H T (.tup [.ty "list", .ty "tuple"])) x t ∧ TyX K (upd H T (.tup [.ty "list", .ty "tuple"])) y t ∧ PySem.W.kitAny K t [.type "list", .type "tuple"] = some false ∧ PySem.W.kitOne K t (.type "dict") = some false ∧ PySem.W.kitOne K t (.type "int") = some i ∧ PySem.W.kitOne K t (.type "bool") = some b ∧ x = y ∧ scal x y = true := by
        rcases sc with ⟨s, rfl, rfl⟩ | ⟨b, rfl, rfl⟩ | ⟨i, rfl, rfl⟩ | ⟨rfl, rfl⟩
        · exact ⟨.type "str", false, false, .base (.str s), .base (.str s), rfl, rfl, rfl, rfl, rfl, rfl⟩
        · exact ⟨.type "bool", true, true, .base (.bl b), .base (.bl b), rfl, rfl, rfl, rfl, rfl, rfl⟩
        · exact ⟨.type "int", true, false, .base (.int i), .base (.int i), rfl, rfl, rfl, rfl, rfl, rfl⟩
        · exact ⟨.type "NoneType", false, false, .base .non, .base .non, rfl, rfl, rfl, rfl, rfl, rfl⟩
      refine ⟨x, T, _, t, _, false, rfl, upd_same, cls2, ty1, q1, false, rfl, ifF ?_⟩
      refine ⟨_, rfl, x, _, t, _, false, rfl, .ty "dict", ty1, q2, false, rfl, ifF ?_⟩
      refine ⟨_, rfl, x, _, t, _, i, rfl, .ty "int", ty1, q3, _, rfl, y, _, t, _, i, rfl, .ty "int", ty2, q3, rfl, ?_⟩
      refine ⟨_, rfl, true, congrArg V.bl (decide_eq_true rfl), ifT ?_⟩
      refine ⟨_, rfl, x, _, t, _, b, rfl, .ty "bool", ty1, q4, _, rfl, y, _, t, _, b, rfl, .ty "bool", ty2, q4, rfl, true, congrArg V.bl (decide_eq_true rfl), ifT ?_⟩
      refine ⟨_, rfl, _, rfl, sxy, ?_⟩
      rw [decide_eq_true exy]
      exact kk _ sT
    · refine ⟨_, rfl, by show 2 ≤ sizeLine; decide, fun T nT => ?_⟩
      have sT := same_new (o := .tup [.ty "list", .ty "tuple"]) nT
      refine ⟨_, T, _, .type "list", _, true, rfl, upd_same, cls2, .base (.lst (sT _ _ ea)), rfl, true, rfl, ifT ?_⟩
      refine ⟨_, rfl, _, _, .type "list", _, true, rfl, .ty "list", .base (.lst (sT _ _ eb)), rfl, _, rfl, _, _, .type "list", _, true, rfl, .ty "list", .base (.lst (sT _ _ ea)), rfl, rfl, true, congrArg V.bl (decide_eq_true rfl), ifT ?_⟩
      refine ⟨_, rfl, _, _, .type "list", _, false, rfl, .ty "tuple", .base (.lst (sT _ _ eb)), rfl, _, rfl, _, _, .type "list", _, false, rfl, .ty "tuple", .base (.lst (sT _ _ ea)), rfl, rfl, ?_⟩
      refine ⟨_, rfl, true, congrArg V.bl (decide_eq_true rfl), ifT ?_⟩
      refine ⟨_, rfl, a, xs, rfl, .inl (SqL.of (sT _ _ ea)), _, rfl, b, ys, rfl, .inl (SqL.of (sT _ _ eb)), rfl, true, congrArg V.bl (decide_eq_true (by rw [ee.1])), ifT ?_⟩
      refine ⟨_, rfl, _, rfl, a, b, xs, ys, rfl, .inl ⟨SqL.of (sT _ _ ea), SqL.of (sT _ _ eb), fun D nD => ?_⟩⟩
      refine lc_it (walk_zip (K := K) (a := a) (b := b) (xs := xs) (ys := ys) (n := xs.length) (by rw [ee.1]; omega)) (fun i H' => Same _ H' ∧ H' D = some (.lst ((List.replicate i true).map V.bl))) ⟨same_new nD, upd_same⟩ (fun i H' _ h => ⟨SqL.of (h.1 _ _ (sT _ _ ea)), SqL.of (h.1 _ _ (sT _ _ eb))⟩) ?_ ?_
      · rintro i v H1 H' hi ⟨sm, eD⟩ ⟨T2, x, y, rfl, nT2, rfl, hx, hy⟩
        have sT2 := same_new (o := .tup [x, y]) nT2
        have smA := (sT.trans sm).trans sT2
        refine ⟨T2, _, rfl, SqT.of upd_same, rfl, _, _, rfl, _, _, rfl, rfl, rfl, _, rfl, _, rfl, x, y, rfl, (ee.2 i x y hx hy).same smA, fun H2 s2 => ?_⟩
        refine ⟨_, s2 _ _ (sT2 _ _ eD), by rw [List.length_map, List.length_replicate]; exact room_str _ (by omega), upd_same' ((sm.trans sT2).trans s2) nD, ?_⟩
        rw [upd_same, rep_snoc]
      · rintro H' ⟨sm, eD⟩
        refine ⟨D, _, rfl, SqL.of eD, ?_⟩
        rw [all_rep]
        exact kk H' (sT.trans sm)
    · refine ⟨_, rfl, by show 2 ≤ sizeLine; decide, fun T nT => ?_⟩
      have sT := same_new (o := .tup [.ty "list", .ty "tuple"]) nT
      refine ⟨_, T, _, .type "tuple", _, true, rfl, upd_same, cls2, .base (.tup (sT _ _ ea)), rfl, true, rfl, ifT ?_⟩
      refine ⟨_, rfl, _, _, .type "tuple", _, false, rfl, .ty "list", .base (.tup (sT _ _ eb)), rfl, _, rfl, _, _, .type "tuple", _, false, rfl, .ty "list", .base (.tup (sT _ _ ea)), rfl, rfl, true, congrArg V.bl (decide_eq_true rfl), ifT ?_⟩
      refine ⟨_, rfl, _, _, .type "tuple", _, true, rfl, .ty "tuple", .base (.tup (sT _ _ eb)), rfl, _, rfl, _, _, .type "tuple", _, true, rfl, .ty "tuple", .base (.tup (sT _ _ ea)), rfl, rfl, ?_⟩
      refine ⟨_, rfl, true, congrArg V.bl (decide_eq_true rfl), ifT ?_⟩
      refine ⟨_, rfl, a, xs, rfl, .inr (SqT.of (sT _ _ ea)), _, rfl, b, ys, rfl, .inr (SqT.of (sT _ _ eb)), rfl, true, congrArg V.bl (decide_eq_true (by rw [ee.1])), ifT ?_⟩
      refine ⟨_, rfl, _, rfl, a, b, xs, ys, rfl, .inr ⟨SqT.of (sT _ _ ea), SqT.of (sT _ _ eb), fun D nD => ?_⟩⟩
      refine lc_it (walk_zipT (K := K) (a := a) (b := b) (xs := xs) (ys := ys) (n := xs.length) (by rw [ee.1]; omega)) (fun i H' => Same _ H' ∧ H' D = some (.lst ((List.replicate i true).map V.bl))) ⟨same_new nD, upd_same⟩ (fun i H' _ h => ⟨SqT.of (h.1 _ _ (sT _ _ ea)), SqT.of (h.1 _ _ (sT _ _ eb))⟩) ?_ ?_
      · rintro i v H1 H' hi ⟨sm, eD⟩ ⟨T2, x, y, rfl, nT2, rfl, hx, hy⟩
        have sT2 := same_new (o := .tup [x, y]) nT2
        have smA := (sT.trans sm).trans sT2
        refine ⟨T2, _, rfl, SqT.of upd_same, rfl, _, _, rfl, _, _, rfl, rfl, rfl, _, rfl, _, rfl, x, y, rfl, (ee.2 i x y hx hy).same smA, fun H2 s2 => ?_⟩
        refine ⟨_, s2 _ _ (sT2 _ _ eD), by rw [List.length_map, List.length_replicate]; exact room_str _ (by omega), upd_same' ((sm.trans sT2).trans s2) nD, ?_⟩
        rw [upd_same, rep_snoc]
      · rintro H' ⟨sm, eD⟩
        refine ⟨D, _, rfl, SqL.of eD, ?_⟩
        rw [all_rep]
        exact kk H' (sT.trans sm)
    · refine ⟨_, rfl, by show 2 ≤ sizeLine; decide, fun T nT => ?_⟩
      have sT := same_new (o := .tup [.ty "list", .ty "tuple"]) nT
      refine ⟨_, T, _, .type "dict", _, false, rfl, upd_same, cls2, .base (.dK (sT _ _ ea)), rfl, false, rfl, ifF ?_⟩
      refine ⟨_, rfl, _, _, .type "dict", _, true, rfl, .ty "dict", .base (.dK (sT _ _ ea)), rfl, true, rfl, ifT ?_⟩
      refine ⟨_, rfl, _, _, .type "dict", _, true, rfl, .ty "dict", .base (.dK (sT _ _ eb)), rfl, true, rfl, ifT ?_⟩
      have lm : ∀ (ks : List (Key × V)), ks.map (·.1) = zs.map (fun z => (Sum.inr z : Key)) → (ks.map fun kv => kV kv.1) = zs.map V.str := fun ks e => by
        have := congrArg (List.map kV) e
        rw [List.map_map, List.map_map] at this
        exact this
      have lk : kvs.length = zs.length := by
        have := congrArg List.length k1
        rw [List.length_map, List.length_map] at this
        exact this
      refine ⟨_, rfl, a, kvs, rfl, .inl (sT _ _ ea), fun p np => ?_⟩
      rw [lm kvs k1]
      have sp := same_new (o := .lst (zs.map V.str)) np
      refine ⟨_, rfl, b, lvs, rfl, .inl (sp _ _ (sT _ _ eb)), fun p2 np2 => ?_⟩
      rw [lm lvs k2]
      have sp2 := same_new (o := .lst (zs.map V.str)) np2
      have s3 := (sT.trans sp).trans sp2
      have alz : Al (upd (upd (upd H T (.tup [.ty "list", .ty "tuple"])) p (.lst (zs.map V.str))) p2 (.lst (zs.map V.str))) m (.ref p) (.ref p2) := by
        cases m with
        | zero => exact absurd m1 (by decide)
        | succ m' => exact .inr (.inl ⟨p, p2, _, _, rfl, rfl, by rw [List.length_map]; exact hl, each_strs zs, .inl ⟨sp2 _ _ upd_same, upd_same⟩⟩)
      refine ⟨.ref p, .ref p2, rfl, alz, fun H2 s2 => ?_⟩
      have sm2 := s3.trans s2
      refine ⟨_, rfl, true, rfl, ifT ?_⟩
      have ea2 := sm2 _ _ ea
      have eb2 := sm2 _ _ eb
      refine ⟨a, _, ea2, True.intro, fun od => ?_⟩
      refine ⟨_, rfl, a, od, rfl, .inl ⟨kvs, upd_same, fun D nD => ?_⟩⟩
      have Da : D ≠ a := fun q => by
        rw [q, upd_same] at nD
        cases nD
      have rb : Rd (upd H2 a (.frz od (.dK kvs))) b (.dK lvs) := by
        by_cases q : b = a
        · subst q
          rw [ea2] at eb2
          cases eb2
          exact .inr ⟨od, upd_same⟩
        · exact .inl ((upd_ne q).trans eb2)
      refine lc_it walk_keys (fun i H' => Same (upd H2 a (.frz od (.dK kvs))) H' ∧ H' D = some (.lst ((List.replicate i true).map V.bl))) ⟨same_new nD, upd_same⟩ (fun i H' _ h => h.1 _ _ upd_same) ?_ ?_
      · rintro i x H1 H' hi ⟨sm, eD⟩ ⟨rfl, k, v, ex, rfl⟩
        have hk : k ∈ kvs.map (·.1) := List.mem_map.mpr ⟨_, List.mem_of_getElem? ex, rfl⟩
        rw [k1] at hk
        obtain ⟨z, hz, rfl⟩ := List.mem_map.mp hk
        obtain ⟨u, v, q1, q2, q3⟩ := hv z hz
        have rb' : Rd H' b (.dK lvs) := rb.elim (fun h => .inl (sm _ _ h)) fun ⟨o, h⟩ => .inr ⟨o, sm _ _ h⟩
        refine ⟨rfl, _, rfl, _, rfl, a, u, rfl, .inl ⟨kvs, .inr z, .inr ⟨od, sm _ _ upd_same⟩, rfl, q1.symm⟩, _, rfl, _, rfl, b, v, rfl, .inl ⟨lvs, .inr z, rb', rfl, q2.symm⟩, u, v, rfl, Al.sc q3, fun H3 s3 => ?_⟩
        refine ⟨_, s3 _ _ eD, by rw [List.length_map, List.length_replicate]; exact room_str _ (by omega), upd_same' (sm.trans s3) nD, ?_⟩
        rw [upd_same, rep_snoc]
      · rintro H' ⟨sm, eD⟩
        refine ⟨sm _ _ upd_same, D, List.replicate kvs.length true, rfl, SqL.of (H := upd H' a (.dK kvs)) ?_, ?_⟩
        · rw [upd_ne Da]
          exact eD
        · rw [all_rep]
          exact kk _ (sm2.trans (same_unlock ea2 sm))
theorem fn_none {f : Addr} {fd : FuncData} {ps : List Str} : FnOk P w K mg base CX0 0 f fd ps (spX 0) := ⟨fun _ _ _ _ h => h.elim, fun _ _ _ _ _ _ _ _ _ _ _ _ _ h => h.elim⟩
theorem ok_exact {f : Addr} {fd : FuncData} (F : FnP K "_law_exact" s_l_exact f fd) (B : FreeN mg) (kp : PySem.W.keepIn K (.ref f) = true) (bd : L2.Binds K fd ["_law_mine", "_law_theirs"] []) (gm : mg "_law_exact" = some (.ref f)) : ∀ n, FnOk P w K mg base CX0 n f fd ["_law_mine", "_law_theirs"] (spX n)
  | 0 => fn_none
  | n + 1 => exact_step F B ⟨f, fd, ok_exact F B kp bd gm n, kp, bd, gm⟩
end
end NK
/-! two tables compared; == and != by an own __eq__, whatever it says -/
namespace NK
open PySem PySem.Spec PyProof.Rows L2 He K1
section
variable {X : Cx} {pins : List (Addr × Obj)} {σ : L2.St} {H : Hp} {s : Shared}
/-- two values, told, and whether they are equal -/
def EqB (K : PySem.W.Frag) (H : Hp) (x y : V) (b : Bool) : Prop := ∃ d e, Dp K H x d ∧ Dp K H y e ∧ SeqAt.shaped d = true ∧ SeqAt.shaped e = true ∧ b = PyData.eqv d e
theorem eqB_run (I : Inv X pins σ H s) {A : Around} (hu : A.units + 64 < cLine) {x y : V} {v u : Value} {b : Bool} (h : EqB X.K H x y b) (rx : RelV x v) (ry : RelV y u) : SeqAt.EqP X.prog X.w A s v u b := by
  obtain ⟨d, e, hd, he, sd, se, rfl⟩ := h
  obtain ⟨as, r1⟩ := Dp.reads I d x v hd rx
  obtain ⟨bs, r2⟩ := Dp.reads I e y u he ry
  exact (SeqAt.eqAt_reads d e A s v u as bs r1 r2 (SeqAt.canLay_of_shaped sd) (SeqAt.canLay_of_shaped se) (SeqAt.room_of_shaped sd hu)).eqP
theorem hits_dec (I : Inv X pins σ H s) {A : Around} (hu : A.units + 64 < cLine) {ls : List (Key × V)} {vb : List (Key × Value)} (rb : KV ls vb) {e : Key → Bool} {ks : List (Key × V)} {va : List (Key × Value)} (ra : KV ks va) :
    (∀ p ∈ ks, (valV ls p.1 = none ∧ e p.1 = false) ∨ ∃ u, valV ls p.1 = some u ∧ EqB X.K H p.2 u (e p.1)) → PySem.W.KeqHitsP X.prog X.w A s vb va (ks.all fun p => e p.1) := by
  unfold KV at ra
  induction ra with
  | nil => intro _; exact .nil
  | @cons p q ps qs h t k =>
    intro hp
    obtain ⟨h1, h2⟩ := h
    have ih := k fun p' hm => hp p' (List.mem_cons_of_mem _ hm)
    have hp0 := hp p List.mem_cons_self
    obtain ⟨key, v⟩ := q
    obtain ⟨pk, pv⟩ := p
    have h1' : pk = key := h1
    subst h1'
    have h2' : RelV pv v := h2
    rw [List.all_cons]
    rcases hp0 with ⟨n, ef⟩ | ⟨u, eu, eb⟩
    · have n' : valV ls pk = none := n
      have ef' : e pk = false := ef
      have rr : RelO none (valueAt vb pk) := by rw [← n']; exact rb.val pk
      show PySem.W.KeqHitsP X.prog X.w A s vb ((pk, v) :: qs) (e pk && _)
      rw [ef', Bool.false_and]
      exact .miss rr.none_of
    · have eu' : valV ls pk = some u := eu
      have rr : RelO (some u) (valueAt vb pk) := by rw [← eu']; exact rb.val pk
      obtain ⟨y, hy, ry⟩ := rr.some_of
      exact .hit hy (eqB_run I hu eb h2' ry) ih
end
section
variable {X : Cx}
def rEqT (K : PySem.W.Frag) : R2 := fun x y H Q => ∃ (a b : Addr) (ks ls : List (Key × V)) (e : Key → Bool), x = .ref a ∧ y = .ref b ∧ H a = some (.dK ks) ∧ H b = some (.dK ls) ∧
  (∀ p ∈ ks, (valV ls p.1 = none ∧ e p.1 = false) ∨ ∃ u, valV ls p.1 = some u ∧ EqB K H p.2 u (e p.1)) ∧ Q (.bl (ks.length == ls.length && ks.all fun p => e p.1)) H
theorem op_eqT (hu : X.A.units + 65 < cLine) : OpR X (compareOp .Eq) (rEqT X.K) := by
  intro pins s σ H x y v u Q I rx ry h
  obtain ⟨a, b, ks, ls, e, rfl, rfl, ea, eb, hp, q⟩ := h
  cases (show v = Value.ref a from rx)
  cases (show u = Value.ref b from ry)
  obtain ⟨_, ya, va, ra, da⟩ := (show ObjOk X.prog X.w H s.heap a (.dK ks) from I.hok a _ ea)
  obtain ⟨_, yb, vb, rb, db⟩ := (show ObjOk X.prog X.w H s.heap b (.dK ls) from I.hok b _ eb)
  refine PySem.W.rcP_dicts (knd := mixKind X.prog X.w) ya yb da db (by omega) (fun _ => hits_dec I (A := X.A.in1) (by show X.A.units + 1 + 64 < cLine; omega) rb ra hp) _ _ ?_
  have hl : (va.length == vb.length) = (ks.length == ls.length) := by rw [← ra.length, ← rb.length]
  rw [hl]
  exact ⟨.bl _, H, I, rfl, q⟩
theorem k_eqT {K : PySem.W.Frag} (h : X.K = K) (hu : X.A.units + 65 < cLine) : OpR X (compareOp .Eq) (rEqT K) := by subst h; exact op_eqT hu
theorem k_pit {K : PySem.W.Frag} (h : X.K = K) {tg l : Expr} {tl : TE} (hl : PE X l tl) : PI X tg l (iTup K tl) := by subst h; exact pi_tup hl
end
/-! ### an own __eq__ -/
structure EqC (K : PySem.W.Frag) (C g : Addr) : Prop where
  eq : PySem.W.findIn K (.ref C) "__eq__" = some (some (.ref g))
  fn : PySem.W.isFn K (.ref g) = true
  ne : PySem.W.findIn K (.ref C) "__ne__" = some (some (.builtin "object.__ne__"))
  obj : PySem.W.mroIn K C (.type "object") = some true
structure EqM (P : Program) (w : World) (K : PySem.W.Frag) (mg : Str → Option Value) (base : Heap) (k : Nat) (C : Addr) (sp : Sp) : Prop where
  ex : ∃ (g : Addr) (fd : FuncData) (ps : List Str), EqC K C g ∧ FnOk P w K mg base CX0 k g fd ps sp ∧ Binds K fd ps []
section
open PySem.SeqAt
variable {prog : Program} {w : World} {A : Around} {E : Value → Shared → Prop} {s : Shared} {K : PySem.W.Frag} {x C g L : Addr} {ox : Obj} {od : Option Obj} {b tb : Value} {h₀ : Heap} {m : Str → Option Value}
theorem ne_entry {Q : Fin → Shared → Prop} (hu : A.units < cLine) (X : K.In s.heap) (I : PySem.W.InstAt s.heap x ox C od) (c : EqC K C g)
    (h : wpAny (model prog w) A (call (.ref g) [.ref x, b]) (fun v s' => ∃ r, v = .bool r ∧ Q (.done (.ret (.bool (!r)))) s') E s) : wpAny (model prog w) A (Builtin.«object.__ne__» ⟨[.ref x, b], []⟩) Q E s := by
  unfold Builtin.«object.__ne__»
  repeat (first
    | with_reducible refine wpAny_cRoomFor hu ?_
    | (refine wpAny_bind (m := callSpecialIfBound? (.ref x) (Str.ofString "__eq__") [b])
        (PySem.W.ifBound_K X I c.eq c.fn (wpAny_mono h (fun r s' hr => by
          obtain ⟨b, rfl, hq⟩ := hr
          repeat (first | exact hq | exact wpAny_pure hq | exact wpAny_truthy_bool hq | (refine wpAny_bind (m := truthy (.bool _)) (wpAny_truthy_bool ?_)) | wp_step)) fun _ _ e => e)))
    | wp_step)

theorem call_objNe {Q : Value → Shared → Prop} (hu : A.units + 1 < cLine) (X : K.In s.heap) (I : PySem.W.InstAt s.heap x ox C od) (c : EqC K C g)
    (h : wpAny (model prog w) A.in1 (call (.ref g) [.ref x, b]) (fun v s' => ∃ r, v = .bool r ∧ Q (.bool (!r)) s') E s) : wpAny (model prog w) A (call (.builtin "object.__ne__") [.ref x, b]) Q E s :=
  wpAny_call (codeAny_call_builtin F.cmp_object.ne.plain F.cmpEntry_ne (PySem.W.check_slot F.cmpKind_ne F.cmpSplit_ne (I.type.andThen (PySem.W.looks_mroIn X c.obj)) (F.cmpArgs_ne _ _) (ne_entry (A := A.in1) hu X I c (wpAny_mono h (fun v s' hv => by
    obtain ⟨r, rfl, q⟩ := hv
    exact ⟨r, rfl, q⟩) fun _ _ e => e))))
theorem ifBound_objNe {M : Model} {args : List Value} {Q : Option Value → Shared → Prop} (X : K.In s.heap) (I : PySem.W.InstAt s.heap x ox C od) (hs : PySem.W.findIn K (.ref C) "__ne__" = some (some (.builtin "object.__ne__")))
    (h : wpAny M A (call (.builtin "object.__ne__") (.ref x :: args)) (fun v => Q (some v)) E s) : wpAny M A (callSpecialIfBound? (.ref x) "__ne__" args) Q E s := by
  simp only [callSpecialIfBound?, bindSpecialIfBound?]
  refine wpAny_holding (wpAny_bind (wpAny_bind (wpAny_bind (I.type.here ((PySem.W.looks_findIn X hs).here ?_)))))
  refine wpAny_bind (wpAny_askSetting (wpAny_ite ?_))
  have fin : wpAny M A (call (.builtin "object.__ne__") ([.ref x] ++ args) >>= fun v => pure (some v)) Q E s := wpAny_bind (wpAny_mono h (fun v s' h' => wpAny_pure h') fun _ _ h' => h')
  split
  · exact wpAny_bind (wpAny_of_eq (F.cmp_object.ne.bind _) (wpAny_pure (by exact fin)))
  · exact wpAny_tryCatch (wpAny_bind (wpAny_of_eq (F.cmp_object.ne.bind _) (wpAny_pure (by exact fin))))
theorem ne_K {Q : Value → Shared → Prop} (hu : A.units + 1 < cLine) (F : PyProof.Rows.Fr h₀ L s.heap m) (X₀ : K.In h₀) (I : PySem.W.InstAt s.heap x ox C od) (hb : PySem.W.Looks (model prog w) s.heap (typeOf b) tb) (hn : PySem.W.notFirst K C tb = true) (c : EqC K C g)
    (h : wpAny (model prog w) A.in1 (call (.ref g) [.ref x, b]) (fun v s' => ∃ r, v = .bool r ∧ Q (.bool (!r)) s') E s) : wpAny (model prog w) A (richCompare .NotEq (.ref x) b) Q E s := by
  have X := X₀.keeps F.keep
  have one : wpAny (model prog w) A (tryCompare (.ref x) "__ne__" b) (fun r s' => ∃ v, r = some v ∧ Q v s') E s := by
    unfold tryCompare
    refine wpAny_bind (ifBound_objNe X I c.ne (call_objNe hu X I c (wpAny_mono h (fun v s' hv => ?_) fun _ _ e => e)))
    obtain ⟨r, rfl, q⟩ := hv
    exact ⟨r, rfl, wpAny_pure ⟨_, rfl, q⟩⟩
  unfold richCompare
  simp only [oneThing_ref, cmpInfo_NotEq]
  refine wpAny_holding (wpAny_bind (wpAny_cRoomFor (Nat.lt_of_succ_lt hu) ?_))
  refine wpAny_bind (I.type.here (wpAny_bind (hb.here ?_)))
  split
  · rename_i q
    have e : PySem.W.subIn K tb (.ref C) = some false := by
      rcases Bool.or_eq_true_iff.mp hn with e | e
      · rw [beq_iff_eq.mp e] at q; simp at q
      · exact beq_iff_eq.mp e
    refine wpAny_bind ((PySem.W.looks_subIn X e).here ?_)
    simp only [Bool.false_eq_true, if_false]
    refine wpAny_bind (wpAny_mono one (fun r s' z => ?_) fun _ _ e => e)
    obtain ⟨v, rfl, hq⟩ := z
    exact wpAny_pure hq
  · refine wpAny_bind (wpAny_pure ?_)
    simp only [Bool.false_eq_true, if_false]
    refine wpAny_bind (wpAny_mono one (fun r s' z => ?_) fun _ _ e => e)
    obtain ⟨v, rfl, hq⟩ := z
    exact wpAny_pure hq
end
section
variable {X : Cx} {C : Addr} {k : Nat} {sp : Sp}
def rOwnE (K : PySem.W.Frag) (C : Addr) (sp : Sp) : R2 := fun x y H Q => ∃ (a dx : Addr) (fs : List (Str × V)) (t : Value), x = .ref a ∧ H a = some (.ins C dx fs) ∧ TyX K H y t ∧ PySem.W.notFirst K C t = true ∧ sp [x, y] H Q E0
def rOwnN (K : PySem.W.Frag) (C : Addr) (sp : Sp) : R2 := fun x y H Q => ∃ (a dx : Addr) (fs : List (Str × V)) (t : Value), x = .ref a ∧ H a = some (.ins C dx fs) ∧ TyX K H y t ∧ PySem.W.notFirst K C t = true ∧ sp [x, y] H (fun v H' => ∃ r, v = .bl r ∧ Q (.bl (!r)) H') E0
theorem op_ownE (M : EqM X.prog X.w X.K X.mg X.base k C sp) (hr : Room k X.A) : OpR X (compareOp .Eq) (rOwnE X.K C sp) := by
  obtain ⟨g, fd, ps, c, F, hb⟩ := M.ex
  intro pins s σ H x y v u Q I rx ry h
  obtain ⟨a, dx, fs, t, rfl, ha, ty, nf, q⟩ := h
  cases (show v = Value.ref a from rx)
  obtain ⟨mA, J, _⟩ := ins_get I.hok ha
  obtain ⟨od, J, _⟩ := J.look
  obtain ⟨m, hF⟩ := I.fr
  obtain ⟨Pr, kx, hP, _⟩ := kit_of I ry ty
  show wpAny (model X.prog X.w) X.A (richCompare .Eq (.ref a) u) _ _ _
  refine PySem.W.cmp_K (op := .Eq) hr.units0 hF I.ok.mod.kin J (kx.ty _ _ I.kIn hP) nf c.eq c.fn ?_
  refine thn (run_fn (us := [.ref a, u]) (vs := [.ref a, y]) F hr hb .nil pass0 I (.cons rfl (.cons ry .nil)) q) fun w s' ⟨z, H', I', rz, qz⟩ => ?_
  exact SlX.cmpback rz ⟨z, H', I', rz, qz⟩
theorem op_ownN (M : EqM X.prog X.w X.K X.mg X.base k C sp) (hr : Room (k + 1) X.A) : OpR X (compareOp .NotEq) (rOwnN X.K C sp) := by
  obtain ⟨g, fd, ps, c, F, hb⟩ := M.ex
  intro pins s σ H x y v u Q I rx ry h
  obtain ⟨a, dx, fs, t, rfl, ha, ty, nf, q⟩ := h
  cases (show v = Value.ref a from rx)
  obtain ⟨mA, J, _⟩ := ins_get I.hok ha
  obtain ⟨od, J, _⟩ := J.look
  obtain ⟨m, hF⟩ := I.fr
  obtain ⟨Pr, kx, hP, _⟩ := kit_of I ry ty
  show wpAny (model X.prog X.w) X.A (richCompare .NotEq (.ref a) u) _ _ _
  have un := hr.un
  refine ne_K (by omega) hF I.ok.mod.kin J (kx.ty _ _ I.kIn hP) nf c ?_
  have r2 : Vals [V.ref a, y] [Value.ref a, u] := .cons rfl (.cons ry .nil)
  have hl := F.len _ _ _ _ q
  refine wpAny_call (codeAny_mono (F.run X.A.in1 X.stack s H ⟨[.ref a, u], []⟩ [.ref a, u] [.ref a, y] _ E0 hr.in1 I.env0.in1 (by
    have := hb s [.ref a, u] I.kIn (by simpa using hl)
    simpa using this) r2 q) fun r s' hq => ?_)
  cases r with
  | error e => exact pass0 pins σ H s e s' I hq
  | ok fl =>
    cases fl with
    | ret w =>
      obtain ⟨z, H', I', rz, r, ez, qz⟩ := I.after hq
      subst ez
      cases rz
      exact ⟨r, rfl, .bl (!r), H', I', rfl, qz⟩
    | next => exact False.elim hq
    | brk => exact False.elim hq
    | cont => exact False.elim hq
theorem k_ownE {K : PySem.W.Frag} (h : X.K = K) (M : EqM X.prog X.w K X.mg X.base k C sp) (hr : Room k X.A) : OpR X (compareOp .Eq) (rOwnE K C sp) := by subst h; exact op_ownE M hr
theorem k_ownN {K : PySem.W.Frag} (h : X.K = K) (M : EqM X.prog X.w K X.mg X.base k C sp) (hr : Room (k + 1) X.A) : OpR X (compareOp .NotEq) (rOwnN K C sp) := by subst h; exact op_ownN M hr
end
end NK
/-! what a made net tells: lamps, ties, wishes; whether two are equal -/
namespace NK
open PySem PySem.Spec PyProof.Rows L2 He K1
section
theorem lc2_it {J : It} {n : Nat} {G : Hp → Prop} {Y : Nat → Hp → V → Hp → Prop} (w : Walk J n G Y) {g : TG} {tt : L2.TT} {wi1 : TI} {g1 : TG} {tt1 : L2.TT} {te : TE} {vs vs1 : List Nat} {σ : L2.St} {H1 : Hp} {D : Addr} {Qd : Hp → Prop} (Pv : Nat → Hp → Prop) (h0 : Pv 0 (upd H1 D (.lst []))) (hG : ∀ i H, i ≤ n → Pv i H → G H)
    (hs : ∀ i x H H', i < n → Pv i H → Y i H x H' → g x (wipe σ vs) H' fun σ2 H2 => wipe σ2 vs = wipe σ vs ∧ tt σ2 H2 fun b H3 =>
      if b = true then wi1 σ2 H3 fun J1 H4 => ∃ W1 : Nat → Nat → Hp → Prop, (∃ m, W1 0 m H4) ∧ ∀ j k H, W1 j k H →
        (J1.stop j H ∧ Pv (i + 1) H) ∨ (J1.go j H ∧ ∃ Nx1 : Hp → Prop, (∀ H', Nx1 H' → ∃ k', k' < k ∧ W1 (j + 1) k' H') ∧ ∀ x H', J1.yld j H x H' → g1 x (wipe σ2 vs1) H' fun σ3 H5 => wipe σ3 vs1 = wipe σ2 vs1 ∧ tt1 σ3 H5 fun b H6 =>
          if b = true then te σ3 H6 fun y H7 => ∃ acc, H7 D = some (.lst acc) ∧ acc.length < sizeLine ∧ Nx1 (upd H7 D (.lst (acc ++ [y]))) else Nx1 H6)
      else Pv (i + 1) H3) (hd : ∀ H, Pv n H → Qd H) :
    ∃ W : Nat → Nat → Hp → Prop, (∃ m, W 0 m (upd H1 D (.lst []))) ∧ ∀ i m H, W i m H →
      (J.stop i H ∧ Qd H) ∨ (J.go i H ∧ ∃ Nx : Hp → Prop, (∀ H', Nx H' → ∃ m', m' < m ∧ W (i + 1) m' H') ∧ ∀ x H', J.yld i H x H' → g x (wipe σ vs) H' fun σ2 H2 => wipe σ2 vs = wipe σ vs ∧ tt σ2 H2 fun b H3 =>
        if b = true then wi1 σ2 H3 fun J1 H4 => ∃ W1 : Nat → Nat → Hp → Prop, (∃ m, W1 0 m H4) ∧ ∀ j k H, W1 j k H →
          (J1.stop j H ∧ Nx H) ∨ (J1.go j H ∧ ∃ Nx1 : Hp → Prop, (∀ H', Nx1 H' → ∃ k', k' < k ∧ W1 (j + 1) k' H') ∧ ∀ x H', J1.yld j H x H' → g1 x (wipe σ2 vs1) H' fun σ3 H5 => wipe σ3 vs1 = wipe σ2 vs1 ∧ tt1 σ3 H5 fun b H6 =>
            if b = true then te σ3 H6 fun y H7 => ∃ acc, H7 D = some (.lst acc) ∧ acc.length < sizeLine ∧ Nx1 (upd H7 D (.lst (acc ++ [y]))) else Nx1 H6)
        else Nx H3) := by
  refine ⟨fun i m H => m = n - i ∧ i ≤ n ∧ Pv i H, ⟨n, by simp, Nat.zero_le _, h0⟩, ?_⟩
  rintro i m H ⟨rfl, hi, p⟩
  have q := hG i H hi p
  by_cases hlt : i < n
  · refine .inr ⟨w.goes i H hlt q, Pv (i + 1), fun H' p' => ⟨n - (i + 1), by omega, rfl, hlt, p'⟩, fun x H' y => hs i x H H' hlt p (w.yields i H x H' hlt q y)⟩
  · have e : i = n := by omega
    subst e
    exact .inl ⟨w.stops H q, hd H p⟩
theorem in_it {J1 : It} {n : Nat} {G : Hp → Prop} {Y : Nat → Hp → V → Hp → Prop} (w : Walk J1 n G Y) {g1 : TG} {tt1 : L2.TT} {te : TE} {vs1 : List Nat} {σ2 : L2.St} {H4 : Hp} {D : Addr} {Nx : Hp → Prop} (Pv : Nat → Hp → Prop) (h0 : Pv 0 H4) (hG : ∀ i H, i ≤ n → Pv i H → G H)
    (hs : ∀ j x H H', j < n → Pv j H → Y j H x H' → g1 x (wipe σ2 vs1) H' fun σ3 H5 => wipe σ3 vs1 = wipe σ2 vs1 ∧ tt1 σ3 H5 fun b H6 =>
      if b = true then te σ3 H6 fun y H7 => ∃ acc, H7 D = some (.lst acc) ∧ acc.length < sizeLine ∧ Pv (j + 1) (upd H7 D (.lst (acc ++ [y]))) else Pv (j + 1) H6) (hd : ∀ H, Pv n H → Nx H) :
    ∃ W1 : Nat → Nat → Hp → Prop, (∃ m, W1 0 m H4) ∧ ∀ j k H, W1 j k H →
      (J1.stop j H ∧ Nx H) ∨ (J1.go j H ∧ ∃ Nx1 : Hp → Prop, (∀ H', Nx1 H' → ∃ k', k' < k ∧ W1 (j + 1) k' H') ∧ ∀ x H', J1.yld j H x H' → g1 x (wipe σ2 vs1) H' fun σ3 H5 => wipe σ3 vs1 = wipe σ2 vs1 ∧ tt1 σ3 H5 fun b H6 =>
        if b = true then te σ3 H6 fun y H7 => ∃ acc, H7 D = some (.lst acc) ∧ acc.length < sizeLine ∧ Nx1 (upd H7 D (.lst (acc ++ [y]))) else Nx1 H6) := by
  refine ⟨fun i m H => m = n - i ∧ i ≤ n ∧ Pv i H, ⟨n, by simp, Nat.zero_le _, h0⟩, ?_⟩
  rintro i m H ⟨rfl, hi, p⟩
  have q := hG i H hi p
  by_cases hlt : i < n
  · refine .inr ⟨w.goes i H hlt q, Pv (i + 1), fun H' p' => ⟨n - (i + 1), by omega, rfl, hlt, p'⟩, fun x H' y => hs i x H H' hlt p (w.yields i H x H' hlt q y)⟩
  · have e : i = n := by omega
    subst e
    exact .inl ⟨w.stops H q, hd H p⟩
end
/-! ### ties, told in order -/
def upTo (N : NetD) (z : Str) : List Str := (nb N z).filter (sl z)
def tiesOf (N : NetD) (zs : List Str) : List Pr := zs.flatMap fun z => (upTo N z).map fun y => (z, y)
theorem tiesOf_mem {N : NetD} (F : NetF N) (r : Pr) : r ∈ tiesOf N N.bs ↔ r ∈ N.ts := by
  obtain ⟨x, y⟩ := r
  unfold tiesOf upTo
  rw [List.mem_flatMap]
  constructor
  · rintro ⟨z, hz, h⟩
    obtain ⟨y', h1, h2⟩ := List.mem_map.mp h
    obtain ⟨rfl, rfl⟩ := Prod.mk.inj h2
    obtain ⟨h3, h4⟩ := List.mem_filter.mp h1
    rcases (mem_nbrs.mp h3).2 with h5 | h5
    · exact h5
    · have := (F.tin _ h5).2.2
      rw [ord_sl.asym h4] at this
      cases this
  · intro h
    obtain ⟨h1, h2, h3⟩ := F.tin _ h
    exact ⟨x, h1, List.mem_map.mpr ⟨y, List.mem_filter.mpr ⟨mem_nbrs.mpr ⟨h2, .inl h⟩, h3⟩, rfl⟩⟩
theorem tiesOf_asc (N : NetD) (hb : Asc sl N.bs) : ∀ {zs : List Str}, Asc sl zs → Asc pl (tiesOf N zs)
  | [], _ => List.Pairwise.nil
  | z :: zs, h => by
    obtain ⟨h1, h2⟩ := List.pairwise_cons.mp h
    have e : tiesOf N (z :: zs) = (upTo N z).map (fun y => (z, y)) ++ tiesOf N zs := List.flatMap_cons ..
    rw [e]
    refine List.pairwise_append.mpr ⟨List.pairwise_map.mpr (List.Pairwise.imp (fun {a b} q => by rw [pl_same]; exact q) (List.Pairwise.filter _ (nbrs_asc hb N.ts z))), tiesOf_asc N hb h2, ?_⟩
    intro p hp q hq
    obtain ⟨y, _, rfl⟩ := List.mem_map.mp hp
    obtain ⟨z', hz', hq'⟩ := List.mem_flatMap.mp hq
    obtain ⟨y', _, rfl⟩ := List.mem_map.mp hq'
    have l := h1 z' hz'
    rw [pl_ne (show (z, y).1 ≠ (z', y').1 from fun e => by
      have e' : z = z' := e
      rw [e', ord_sl.irr] at l
      cases l)]
    exact l
theorem tiesOf_snoc (N : NetD) {bs : List Str} {i : Nat} {z : Str} (h : bs[i]? = some z) : tiesOf N (bs.take (i + 1)) = tiesOf N (bs.take i) ++ (upTo N z).map fun y => (z, y) := by
  unfold tiesOf
  rw [take_snoc h, List.flatMap_append, List.flatMap_cons, List.flatMap_nil, List.append_nil]
section
variable {P : Program} {w : World} {K : PySem.W.Frag} {mg : Str → Option Value} {base : Heap} {C W : Addr}
def spMLamps (C : Addr) : Sp := fun vs H Q _ => ∃ (a : Addr) (N : NetD), vs = [.ref a] ∧ Made C H a N ∧ newL N.bs Q H
theorem ok_m_lamps {f : Addr} {fd : FuncData} (F : FnM K "lamps" "Net.lamps" s_Net_lamps f fd) (B : FreeN mg) (NC : NetC K C) : FnOk P w K mg base CX0 1 f fd ["self"] (spMLamps C) := by
  refine fnM_ok F sc_Net_lamps (fun vs H Q E h => ?_) (fun cdv A outer s H vs Q E hr h => ?_)
  · obtain ⟨a, N, rfl, _⟩ := h
    rfl
  · obtain ⟨a, N, rfl, m, kk⟩ := h
    have nd := sc_Net_lamps.nd
    refine ⟨_, (pss_one (ps_ret (pe_callTy (call_listD rfl) (by rfl) B.list (by decide +kernel) (pa_cons (k_fld (K := K) rfl (pv 0) rfl) pa_nil)))), ?_⟩
    obtain ⟨dx, nr, wr, tt, a1, a2, a3, a4, a5⟩ := m.ex
    refine ⟨_, rfl, a, C, dx, _, _, rfl, a1, NC.cls, NC.near, rfl, nr, _, rfl, .inl a2, fun D nD => kk D _ nD ?_ (same_new nD)⟩
    rw [upd_same]
    unfold tabR
    rw [← a3, List.map_map, List.map_map]
    rfl
def spMWishes (C : Addr) : Sp := fun vs H Q _ => ∃ (a : Addr) (N : NetD), vs = [.ref a] ∧ Made C H a N ∧ ∀ (D : Addr) (H' : Hp), H D = none → H' D = some (.dK (wtab N.bs N.wf)) → Same H H' → Q (.ref D) H'
theorem ok_m_wishes {f : Addr} {fd : FuncData} (F : FnM K "wishes" "Net.wishes" s_Net_wishes f fd) (B : FreeN mg) (NC : NetC K C) : FnOk P w K mg base CX0 1 f fd ["self"] (spMWishes C) := by
  refine fnM_ok F sc_Net_wishes (fun vs H Q E h => ?_) (fun cdv A outer s H vs Q E hr h => ?_)
  · obtain ⟨a, N, rfl, _⟩ := h
    rfl
  · obtain ⟨a, N, rfl, m, kk⟩ := h
    have nd := sc_Net_wishes.nd
    refine ⟨_, (pss_one (ps_ret (pe_callTy call_dictD (by rfl) B.dict (by decide +kernel) (pa_cons (k_fld (K := K) rfl (pv 0) rfl) pa_nil)))), ?_⟩
    obtain ⟨dx, nr, wr, tt, a1, a2, a3, a4, a5⟩ := m.ex
    refine ⟨_, rfl, a, C, dx, _, _, rfl, a1, NC.cls, NC.wish, rfl, wr, _, rfl, .inl a5, fun D nD => kk D _ nD upd_same (same_new nD)⟩
def spMTies (C : Addr) : Sp := fun vs H Q _ => ∃ (a : Addr) (N : NetD), vs = [.ref a] ∧ Made C H a N ∧ NetF N ∧
  ∀ (D : Addr) (H' : Hp) (qs : Qs), H D = none → H' D = some (.lst (qrefs qs)) → QAt H' qs → qs.map (·.2) = tiesOf N N.bs → (∀ q ∈ qs, H q.1 = none) → Same H H' → Q (.ref D) H'
theorem ok_m_ties {f : Addr} {fd : FuncData} (F : FnM K "ties" "Net.ties" s_Net_ties f fd) (B : FreeN mg) (NC : NetC K C) : FnOk P w K mg base CX0 1 f fd ["self"] (spMTies C) := by
  refine fnM_ok F sc_Net_ties (fun vs H Q E h => ?_) (fun cdv A outer s H vs Q E hr h => ?_)
  · obtain ⟨a, N, rfl, _⟩ := h
    rfl
  · obtain ⟨a, N, rfl, m, NF, kk⟩ := h
    have nd := sc_Net_ties.nd
    have hu1 := room1 hr
    refine ⟨_, (pss_one (ps_ret (pe_lock (pe_lc2 (own := [("lamp", 1), ("other", 2)]) (vs1 := [2]) (g := gName 1) (g1 := gName 2) (tt := tYes) rfl nd (pi_keys (k_fld (K := K) rfl (pv 0) rfl)) (blkOk_by (N := nm_Net_ties) (sc := defScope s_Net_ties) (by decide +kernel)) (by decide) (fun _ _ _ _ _ => (pg_name (i := 1) nd rfl (Or.inl rfl))) (fun _ _ _ _ _ => pts_nil) (fun _ _ _ _ _ => (k_pit (K := K) rfl (pe_dget hu1 (k_fld (K := K) rfl (pv 0) rfl) (pv 1) (fun _ _ => rfl)))) (fun _ _ _ _ _ => (pg_name (i := 2) nd rfl (Or.inl rfl))) (fun _ _ _ _ _ => (pts_one (pt_cmpR op_lt_str (pv 1) (pv 2) (nomark _)))) (fun _ _ _ _ _ => (pe_tup (pa_cons (pv 1) (pa_cons (pv 2) pa_nil)))))))), ?_⟩
    obtain ⟨dx, nr, wr, tt, a1, a2, a3, a4, a5⟩ := m.ex
    have few := NF.few
    have lt : tt.length = N.bs.length := by
      have := congrArg List.length a3
      rw [List.length_map] at this
      exact this
    have an : a ≠ nr := fun q => by
      rw [q, a2] at a1
      cases a1
    refine ⟨nr, _, a2, True.intro, fun od => ?_⟩
    have e1 : upd H nr (.frz od (.dK (tabR tt))) a = _ := (upd_ne an).trans a1
    have e4 : ∀ e ∈ tt, upd H nr (.frz od (.dK (tabR tt))) e.2 = some (.tup ((nbrs N.bs N.ts e.1).map V.str)) := fun e he => by
      have h4 := a4 e he
      rw [upd_ne (fun q => by rw [q, a2] at h4; cases h4)]
      exact h4
    refine ⟨_, rfl, a, C, dx, _, _, rfl, e1, NC.cls, NC.near, rfl, nr, od, rfl, .inl ⟨tabR tt, upd_same, fun D nD => ?_⟩⟩
    have Dn : D ≠ nr := fun q => by
      rw [q, upd_same] at nD
      cases nD
    have nD0 : H D = none := by
      rw [upd_ne Dn] at nD
      exact nD
    have esub : ∀ {b : Addr} {H' : Hp}, Same (upd H nr (.frz od (.dK (tabR tt)))) H' → H' b = none → H b = none := fun {b H'} sm n => by
      by_cases q : b = nr
      · rw [q, sm _ _ upd_same] at n
        cases n
      · have := none_of_same sm n
        rwa [upd_ne q] at this
    refine lc2_it walk_keys (fun i H' => Same (upd H nr (.frz od (.dK (tabR tt)))) H' ∧ ∃ qs : Qs, H' D = some (.lst (qrefs qs)) ∧ QAt H' qs ∧ qs.map (·.2) = tiesOf N (N.bs.take i) ∧ qs.length ≤ 64 * i ∧ ∀ q ∈ qs, H q.1 = none) ⟨same_new nD, [], upd_same, fun q h => (nomatch h), rfl, Nat.le_refl _, fun q h => (nomatch h)⟩ (fun i H' _ h => h.1 _ _ upd_same) ?_ ?_
    · rintro i x H1 H' hi ⟨sm, qs, eD, qa, eq, lq, nq⟩ ⟨rfl, k, v, ex, rfl⟩
      unfold tabR at ex hi
      rw [List.length_map] at hi
      rw [List.getElem?_map, List.getElem?_eq_getElem hi] at ex
      cases ex
      have ebi : N.bs[i]? = some tt[i].1 := by
        rw [← a3, List.getElem?_map, List.getElem?_eq_getElem hi]
        rfl
      generalize tt[i].1 = z at *
      have hz := List.mem_of_getElem? ebi
      obtain ⟨T, g, eT⟩ := near_at NF (.inr ⟨od, sm _ _ upd_same⟩) a3 (fun e he => sm _ _ (e4 e he)) hz
      have lnb : (nb N z).length < 64 := Nat.lt_of_le_of_lt (List.length_filter_le _ _) few
      refine ⟨rfl, ?_⟩
      unfold tYes
      dsimp only
      rw [if_pos rfl]
      refine ⟨_, rfl, a, C, dx, _, _, rfl, sm _ _ e1, NC.cls, NC.near, rfl, _, rfl, nr, .ref T, rfl, g, T, rfl, ⟨_, SqT.of eT⟩, ?_⟩
      refine in_it (walk_tup (K := K) (a := T) (xs := (nb N z).map V.str)) (fun j H' => Same (upd H nr (.frz od (.dK (tabR tt)))) H' ∧ H' T = some (.tup ((nb N z).map V.str)) ∧ ∃ qs : Qs, H' D = some (.lst (qrefs qs)) ∧ QAt H' qs ∧ qs.map (·.2) = tiesOf N (N.bs.take i) ++ (((nb N z).take j).filter (sl z)).map (fun y => (z, y)) ∧ qs.length ≤ 64 * i + j ∧ ∀ q ∈ qs, H q.1 = none) ⟨sm, eT, qs, eD, qa, ?_, by omega, nq⟩ (fun j H' _ h => SqT.of h.2.1) ?_ ?_
      · rw [eq]
        exact (List.append_nil _).symm
      · rintro j x H2 H3 hj ⟨sm2, eT2, qs2, eD2, qa2, eq2, lq2, nq2⟩ ⟨rfl, ex⟩
        rw [List.length_map] at hj
        rw [List.getElem?_map, List.getElem?_eq_getElem hj] at ex
        cases ex
        have ey : (nb N z)[j]? = some (nb N z)[j] := List.getElem?_eq_getElem hj
        generalize (nb N z)[j] = y at *
        refine ⟨rfl, _, rfl, _, rfl, z, y, rfl, rfl, _, rfl, ?_⟩
        have tk : ((nb N z).take (j + 1)).filter (sl z) = ((nb N z).take j).filter (sl z) ++ (if sl z y = true then [y] else []) := by
          rw [List.take_add_one, ey, List.filter_append]
          congr 1
          exact List.filter_cons ..
        rw [tk]
        have len : (qrefs qs2).length < sizeLine := by
          unfold qrefs
          rw [List.length_map]
          exact room_str _ (by omega)
        refine ite2 (fun h => ?_) (fun h => ?_)
        · have h' : sl z y = true := h
          refine ⟨_, rfl, _, rfl, by show 2 ≤ sizeLine; decide, fun T2 nT2 => ?_⟩
          have sT := same_new (o := .tup [.str z, .str y]) nT2
          have eD3 := sT _ _ eD2
          have qa3 : QAt (upd (upd H3 T2 (.tup [.str z, .str y])) D (.lst (qrefs qs2 ++ [V.ref T2]))) (qs2 ++ [(T2, z, y)]) := fun q hq => by
            refine Tu.upd eD3 _ _ ?_
            rcases List.mem_append.mp hq with hq | hq
            · exact sT _ _ (qa2 q hq)
            · rw [List.mem_singleton.mp hq]
              exact upd_same
          refine ⟨_, eD3, len, upd_same' (sm2.trans sT) nD, Tu.upd eD3 _ _ (sT _ _ eT2), qs2 ++ [(T2, z, y)], ?_, qa3, ?_, ?_, ?_⟩
          · rw [upd_same]
            unfold qrefs
            rw [List.map_append]
            rfl
          · rw [if_pos h', List.map_append, eq2, List.append_assoc, List.map_append]
            rfl
          · rw [List.length_append]
            show qs2.length + 1 ≤ _
            omega
          · intro q hq
            rcases List.mem_append.mp hq with hq | hq
            · exact nq2 q hq
            · rw [List.mem_singleton.mp hq]
              exact esub sm2 nT2
        · have h' : ¬ sl z y = true := h
          refine ⟨sm2, eT2, qs2, eD2, qa2, ?_, by omega, nq2⟩
          rw [if_neg h', List.append_nil]
          exact eq2
      · rintro H2 ⟨sm2, eT2, qs2, eD2, qa2, eq2, lq2, nq2⟩
        rw [List.length_map] at eq2 lq2
        rw [List.take_length] at eq2
        exact ⟨sm2, qs2, eD2, qa2, by rw [tiesOf_snoc N ebi]; exact eq2, by omega, nq2⟩
    · rintro H' ⟨sm, qs, eD, qa, eq, lq, nq⟩
      refine ⟨sm _ _ upd_same, kk D _ qs nD0 ?_ (fun q hq => ?_) ?_ nq (same_unlock a2 sm)⟩
      · rw [upd_ne Dn, eD]
      · have h := qa q hq
        rw [upd_ne (fun e => by rw [e, sm _ _ upd_same] at h; cases h)]
        exact h
      · rw [eq, show (tabR tt).length = N.bs.length by unfold tabR; rw [List.length_map, lt], List.take_length]
end
end NK
/-! whether two made nets are equal -/
namespace NK
open PySem PySem.Spec PyProof.Rows L2 He K1
theorem eqv_tups (xs ys : List Str) : PyData.eqv (.tuple (xs.map PyData.str)) (.tuple (ys.map PyData.str)) = decide (xs = ys) := by
  have h := eqv_strs xs ys
  simpa [PyData.eqv] using h
theorem shaped_tups {ns : List Str} (h : ∀ z ∈ ns, Word z) : SeqAt.shaped (.tuple (ns.map PyData.str)) = true := shaped_tuple (n := 0) (by decide) fun d hd => by
  obtain ⟨i, hi, rfl⟩ := List.mem_map.mp hd
  exact ⟨word_ok (h i hi), Nat.le_refl 0⟩
theorem shaped_wish {z : Str} (h : wish3 z) : SeqAt.shaped (.str z) = true := by
  rcases h with rfl | rfl | rfl <;> decide +kernel
theorem subset_len {l m : List Str} (nl : l.Nodup) (h : ∀ x ∈ l, x ∈ m) (e : l.length = m.length) : ∀ y ∈ m, y ∈ l := fun y hy => by
  by_cases q : y ∈ l
  · exact q
  · have := nodup_le (List.nodup_cons.mpr ⟨q, nl⟩) (m := m) fun x hx => by
      rcases List.mem_cons.mp hx with rfl | hx
      · exact hy
      · exact h x hx
    rw [List.length_cons] at this
    omega
def nearS (N N' : NetD) : Bool := decide (N.bs = N'.bs) && N.bs.all fun x => decide (nb N x = nb N' x)
def wishS (N N' : NetD) : Bool := N.bs.all fun x => decide (N.wf x = N'.wf x)
def sameN (N N' : NetD) : Bool := nearS N N' && wishS N N'
theorem nearS_tab {N N' : NetD} (F : NetF N) (F' : NetF N') : (N.bs.length == N'.bs.length && N.bs.all fun x => decide (x ∈ N'.bs) && decide (nb N x = nb N' x)) = nearS N N' := by
  unfold nearS
  rw [Bool.eq_iff_iff, Bool.and_eq_true, Bool.and_eq_true, beq_iff_eq, decide_eq_true_eq, List.all_eq_true, List.all_eq_true]
  constructor
  · rintro ⟨h1, h2⟩
    have h3 : ∀ x ∈ N.bs, x ∈ N'.bs := fun x hx => of_decide_eq_true (Bool.and_eq_true_iff.mp (h2 x hx)).1
    exact ⟨asc_uniq ord_sl F.asc F'.asc fun x => ⟨h3 x, subset_len (asc_nodup ord_sl F.asc) h3 h1 x⟩, fun x hx => (Bool.and_eq_true_iff.mp (h2 x hx)).2⟩
  · rintro ⟨h1, h2⟩
    exact ⟨by rw [h1], fun x hx => Bool.and_eq_true_iff.mpr ⟨decide_eq_true (h1 ▸ hx), h2 x hx⟩⟩
def kNear (N N' : NetD) : Key → Bool
  | .inr x => decide (x ∈ N'.bs) && decide (nb N x = nb N' x)
  | .inl _ => false
def kWish (N N' : NetD) : Key → Bool
  | .inr x => decide (N.wf x = N'.wf x)
  | .inl _ => false
section
variable {P : Program} {w : World} {K : PySem.W.Frag} {mg : Str → Option Value} {base : Heap} {C W : Addr}
def spNetEq (K : PySem.W.Frag) (C : Addr) : Sp := fun vs H Q _ => ∃ (a : Addr) (N : NetD) (y : V), vs = [.ref a, y] ∧ Made C H a N ∧ NetF N ∧
  ((∃ (b : Addr) (N' : NetD), y = .ref b ∧ Made C H b N' ∧ NetF N' ∧ Q (.bl (sameN N N')) H) ∨ ∃ t, TyX K H y t ∧ PySem.W.kitOne K t (.ref C) = some false ∧ Q (.bl false) H)
theorem ok_net_eq {f : Addr} {fd : FuncData} (F : FnM K "__eq__" "Net.__eq__" s_Net___eq f fd) (B : FreeN mg) (NC : NetC K C) (TG : TopG K mg C W) : FnOk P w K mg base CX0 1 f fd ["self", "other"] (spNetEq K C) := by
  refine fnM_ok F sc_Net___eq (fun vs H Q E h => ?_) (fun cdv A outer s H vs Q E hr h => ?_)
  · obtain ⟨a, N, y, rfl, _⟩ := h
    rfl
  · obtain ⟨a, N, y, rfl, m, NF, h⟩ := h
    have nd := sc_Net___eq.nd
    have hu65 := room65 hr
    refine ⟨_, (pss_one (ps_ret (pe_and (pe_callB (k_isi (K := K) rfl) (by rfl) B.isi (by decide +kernel) (pa_cons (pv 1) (pa_cons (pe_glob (v := .ref C) rfl TG.net rfl) pa_nil))) (pe_and (pe_cmpR (k_eqT (K := K) rfl hu65) (k_fld (K := K) rfl (pv 0) rfl) (k_fld (K := K) rfl (pv 1) rfl) (nomark _)) (pe_one (pe_cmpR (k_eqT (K := K) rfl hu65) (k_fld (K := K) rfl (pv 0) rfl) (k_fld (K := K) rfl (pv 1) rfl) (nomark _))))))), ?_⟩
    obtain ⟨dx, nr, wr, tt, a1, a2, a3, a4, a5⟩ := m.ex
    rcases h with ⟨b, N', rfl, m', NF', kk⟩ | ⟨t, ty, kt, kk⟩
    · obtain ⟨dx', nr', wr', tt', b1, b2, b3, b4, b5⟩ := m'.ex
      refine ⟨_, rfl, _, _, _, _, true, rfl, .own C, NC.ty b1, kit_self K _, true, rfl, ifT ?_⟩
      refine ⟨_, rfl, a, C, dx, _, _, rfl, a1, NC.cls, NC.near, rfl, _, rfl, b, C, dx', _, _, rfl, b1, NC.cls, NC.near, rfl, nr, nr', _, _, kNear N N', rfl, rfl, a2, b2, ?_, ?_⟩
      · intro p hp
        obtain ⟨e, he, rfl⟩ := List.mem_map.mp hp
        have hx : e.1 ∈ N.bs := by
          rw [← a3]
          exact List.mem_map.mpr ⟨e, he, rfl⟩
        by_cases q : e.1 ∈ N'.bs
        · have q' := q
          rw [← b3] at q'
          obtain ⟨e', he', ee⟩ := List.mem_map.mp q'
          refine .inr ⟨.ref e'.2, ?_, _, _, .tup (SqT.of (a4 e he)) (dp_strs _), .tup (SqT.of (b4 e' he')) (dp_strs _), shaped_tups fun z hz => NF.word z (mem_nbrs.mp hz).1, shaped_tups fun z hz => NF'.word z (mem_nbrs.mp hz).1, ?_⟩
          · rw [← ee]
            exact tabR_at (by rw [b3]; exact asc_nodup ord_sl NF'.asc) he'
          · rw [eqv_tups, ee]
            show (decide (e.1 ∈ N'.bs) && _) = _
            rw [decide_eq_true q, Bool.true_and]
            rfl
        · refine .inl ⟨valV_app_none _ _ ?_, ?_⟩
          · rw [tabR_keys, b3]
            intro h
            obtain ⟨z, hz, ez⟩ := List.mem_map.mp h
            cases ez
            exact q hz
          · show (decide (e.1 ∈ N'.bs) && _) = _
            rw [decide_eq_false q, Bool.false_and]
      have e1 : ((tabR tt).length == (tabR tt').length && (tabR tt).all fun p => kNear N N' p.1) = nearS N N' := by
        rw [← nearS_tab NF NF', ← b3]
        conv => rhs; rw [← a3]
        unfold tabR
        rw [List.length_map, List.length_map, List.length_map, List.length_map, List.all_map, List.all_map, b3]
        rfl
      refine ⟨_, rfl, ?_⟩
      rw [e1]
      cases hn : nearS N N' with
      | false =>
        refine ifF ?_
        unfold sameN at kk
        rw [hn] at kk
        exact kk
      | true =>
        refine ifT ?_
        have eb : N.bs = N'.bs := of_decide_eq_true (Bool.and_eq_true_iff.mp hn).1
        refine ⟨_, rfl, a, C, dx, _, _, rfl, a1, NC.cls, NC.wish, rfl, _, rfl, b, C, dx', _, _, rfl, b1, NC.cls, NC.wish, rfl, wr, wr', _, _, kWish N N', rfl, rfl, a5, b5, ?_, ?_⟩
        · intro p hp
          obtain ⟨x, hx, rfl⟩ := List.mem_map.mp hp
          refine .inr ⟨_, wtab_at (eb ▸ hx), _, _, .str _, .str _, shaped_wish (NF.wish x hx), shaped_wish (NF'.wish x (eb ▸ hx)), ?_⟩
          show decide _ = _
          rw [PyData.eqv]
          rfl
        · have e2 : ((wtab N.bs N.wf).length == (wtab N'.bs N'.wf).length && (wtab N.bs N.wf).all fun p => kWish N N' p.1) = wishS N N' := by
            unfold wtab
            rw [List.length_map, List.length_map, List.all_map, eb, beq_self_eq_true, Bool.true_and, ← eb]
            rfl
          rw [e2]
          unfold sameN at kk
          rw [hn, Bool.true_and] at kk
          exact kk
    · refine ⟨_, rfl, _, _, _, _, false, rfl, .own C, ty, kt, false, rfl, ifF kk⟩
end
end NK
/-! sets of texts that are put in order -/
namespace NK
open PySem PySem.Spec PyProof.Rows L2
def strOf : Value → Str
  | .str z _ => z
  | _ => Str.empty
def Row (w : World) (e : Int × Value) : Prop := ∃ z tk, e = (hashStr w z, Value.str z tk)
/-- a set of texts, which may be walked -/
structure SW (w : World) (h : Heap) (S : Addr) (L : List Str) : Prop where
  ex : ∃ (o : Obj) (es : Array (Int × Value)) (ep : Nat) (t : SetTable), h.get? S = some o ∧ o.ExactSet ∧ o.data = .set es ep t ∧ (∀ e ∈ es.toList, Row w e) ∧ es.toList.map (fun e => strOf e.2) = L ∧ L.Nodup ∧
    es.size < scanBound ∧ t.fits es.size = true ∧ Ris t.place.toList ∧ (w.params.followText "set-order" = true ∨ t.led = true)
section
variable {P : Program} {w : World} {A : Around} {E : Value → Shared → Prop} {s : Shared} {S : Addr} {L : List Str}
theorem SW.at_ {h h' : Heap} (R : SW w h S L) (k : ∀ o, h.get? S = some o → h'.get? S = some o) : SW w h' S L := by
  obtain ⟨o, es, ep, t, ho, r⟩ := R
  exact ⟨o, es, ep, t, k o ho, r⟩
theorem rows_elems {l : List (Int × Value)} (g : ∀ e ∈ l, Row w e) : ElemsOf (mixKind P w) l := fun e he => by
  obtain ⟨z, tk, rfl⟩ := g e he
  exact ⟨⟨.inr z, keyIs_str z tk, rfl⟩, rfl⟩
theorem row_is {e : Int × Value} (g : Row w e) (z : Str) : (mixKind P w).is (.inr z) e.2 = true ↔ strOf e.2 = z := by
  obtain ⟨y, tk, rfl⟩ := g
  constructor
  · intro h
    have h1 : (mixKind P w).is (.inr y) (.str y tk) = true := keyIs_str y tk
    have := (mixKind P w).inj (.str y tk) (.inr z) (.inr y) h h1
    injection this with this
    exact this.symm
  · intro h
    have h' : y = z := h
    subst h'
    exact keyIs_str y tk
theorem rows_mem {l : List (Int × Value)} (g : ∀ e ∈ l, Row w e) (z : Str) : z ∈ l.map (fun e => strOf e.2) ↔ ∃ e ∈ l, (mixKind P w).is (.inr z) e.2 = true := by
  rw [List.mem_map]
  exact ⟨fun ⟨e, he, q⟩ => ⟨e, he, (row_is (g e he) z).mpr q⟩, fun ⟨e, he, q⟩ => ⟨e, he, (row_is (g e he) z).mp q⟩⟩
theorem put_there {h : Heap} {o : Obj} {es es' : Array (Int × Value)} {ep : Nat} {t t' : SetTable} (ho : h.get? S = some o) (hd : o.data = .set es ep t) : (h.update S (Obj.putSet es' t')).get? S = some { o with data := .set es' (ep + 1) t' } := store_at ho hd
/-- what stands behind the place that was found -/
theorem SW.behind {tell : Bool → Sem Unit} (quiet : ∀ (b : Bool) (s1 : Shared) (Q1 : Unit → Shared → Prop), Q1 () s1 → wpAny (model P w) A (tell b) Q1 E s1) {o : Obj} {es es1 : Array (Int × Value)} {ep : Nat} {t t2 : SetTable} (ho : s.heap.get? S = some o) (ex : o.ExactSet)
    (hd : o.data = .set es ep t) (rows : ∀ e ∈ es1.toList, Row w e) (one : (es1.toList.map fun e => strOf e.2).Nodup) (few : es1.size < scanBound) (fits : t2.fits es1.size = true) (ris : Ris t2.place.toList) (led : w.params.followText "set-order" = true ∨ t2.led = true)
    {old : Bool} {R : Option Bool → Shared → Prop} (q : ∀ h' L', Heap.SameBut S s.heap h' → SW w h' S L' → L'.Perm (es1.toList.map fun e => strOf e.2) → R (some true) { s with heap := h' }) :
    wpAny (model P w) A (do
        storeSet S es1 t2
        if (!old && t2.tooFull) = true then do
            tell (relayAll t2 es1 (SetTable.grown es1.size)).2.2
            storeSet S (relayAll t2 es1 (SetTable.grown es1.size)).1 (relayAll t2 es1 (SetTable.grown es1.size)).2.1
            pure (some true)
          else pure (some true)) R E s := by
  refine wpAny_bind (wpAny_storeSet_of ho hd ?_ (fits_of_scanBound few))
  have there := put_there (es' := es1) (t' := t2) ho hd
  have sb := Heap.SameBut.update s.heap S (Obj.putSet es1 t2)
  split
  · have p1 := relayAll_perm t2 es1 (SetTable.grown es1.size)
    have p2 := relayAll_fits t2 es1 (SetTable.grown es1.size)
    have p3 := relayAll_ris t2 es1 (SetTable.grown es1.size)
    have p4 := relayAll_led t2 es1 (SetTable.grown es1.size)
    generalize relayAll t2 es1 (SetTable.grown es1.size) = ZZ at p1 p2 p3 p4 ⊢
    obtain ⟨es2, t3, gave⟩ := ZZ
    dsimp only at p1 p2 p3 p4 ⊢
    have few2 : es2.size < scanBound := by
      have : es2.size = es1.size := by rw [← Array.length_toList, p1.length_eq, Array.length_toList]
      rw [this]
      exact few
    refine wpAny_bind (quiet _ _ _ ?_)
    refine wpAny_bind (wpAny_storeSet_of there rfl ?_ (fits_of_scanBound few2))
    have there2 := put_there (es' := es2) (t' := t3) there rfl
    refine wpAny_pure (q _ (es2.toList.map fun e => strOf e.2) (sb.trans (Heap.SameBut.update _ S _)) ⟨_, es2, _, t3, there2, ex, rfl, fun e he => rows e (p1.mem_iff.mp he), rfl, (p1.map _).nodup_iff.mpr one, few2, p2, p3, led.imp id fun z => by rw [p4]; exact z⟩ (p1.map _))
  · exact wpAny_pure (q _ _ sb ⟨_, es1, _, t2, there, ex, rfl, rows, rfl, one, few, fits, ris, led⟩ (List.Perm.refl _))
theorem SW.add {z : Str} {tk : Tok} {Q : Bool → Shared → Prop} (R : SW w s.heap S L) (room : L.length + 1 < scanBound) (q : ∀ c h' L', Heap.SameBut S s.heap h' → SW w h' S L' → (∀ y, y ∈ L' ↔ y ∈ L ∨ y = z) → L'.length ≤ L.length + 1 → Q c { s with heap := h' }) :
    wpAny (model P w) A (setAddHashed S (.str z tk) ((mixKind P w).hash (.inr z))) Q E s := by
  obtain ⟨o, es, ep, t, ho, ex, hd, rows, eL, one, few, fits, ris, led⟩ := R
  have len : es.size = L.length := by rw [← eL, List.length_map, Array.length_toList]
  have key : (mixKind P w).is (.inr z) (.str z tk) = true := keyIs_str z tk
  have scan : (Value.str z tk).scannable = true := rfl
  have elems : ElemsOf (mixKind P w) es.toList := rows_elems rows
  unfold setAddHashed setAddHashedIn
  refine wpAny_holding (wpAny_bind (wpAny_setState_of ho hd fits ?_))
  dsimp only
  rw [byScan_of scan few elems]
  simp only [↓reduceIte]
  unfold setAddByScan
  refine wpAny_bind (wpAny_bind (wpAny_rule (wpAny_bind (wpAny_setScan_of key ho hd fits elems ?_))))
  cases found : List.findIdx? (fun e => (mixKind P w).is (.inr z) e.2) es.toList with
  | some j =>
    dsimp only
    obtain ⟨hj, pj, _⟩ := List.findIdx?_eq_some_iff_getElem.mp found
    have zin : z ∈ L := by
      rw [← eL]
      exact (rows_mem (P := P) rows z).mpr ⟨es.toList[j], List.getElem_mem hj, pj⟩
    refine wpAny_pure (wpAny_pure ?_)
    exact q _ s.heap L (Heap.SameBut.refl S s.heap) ⟨o, es, ep, t, ho, ex, hd, rows, eL, one, few, fits, ris, led⟩ (fun y => ⟨.inl, fun h => h.elim id fun e => e ▸ zin⟩) (Nat.le_succ _)
  | none =>
    dsimp only
    have zout : z ∉ L := fun h => by
      rw [← eL] at h
      obtain ⟨e, he, hq⟩ := (rows_mem (P := P) rows z).mp h
      have := List.findIdx?_eq_none_iff.mp found e he
      rw [hq] at this
      cases this
    have silent : ∀ (b : Bool) {s1 : Shared} {Q1 : Unit → Shared → Prop}, Q1 () s1 → wpAny (model P w) A (match b with | true => rule "set.scan.the-table-gave-way" | false => pure ()) Q1 E s1 := fun b s1 Q1 h => by
      cases b
      · exact wpAny_pure h
      · exact wpAny_rule h
    have n1 := layNew_perm t es ((mixKind P w).hash (.inr z)) (.str z tk)
    have n2 := layNew_fits t es ((mixKind P w).hash (.inr z)) (.str z tk)
    have n3 := layNew_ris t es ((mixKind P w).hash (.inr z)) (.str z tk) ris
    have n4 := layNew_led t es ((mixKind P w).hash (.inr z)) (.str z tk)
    generalize layNew t es ((mixKind P w).hash (.inr z)) (.str z tk) = ZZ at n1 n2 n3 n4 ⊢
    obtain ⟨es1, t1, wasDummy, gave⟩ := ZZ
    dsimp only at n1 n2 n3 n4 ⊢
    rw [Array.toList_push] at n1
    have pc : es1.toList.Perm (((mixKind P w).hash (.inr z), Value.str z tk) :: es.toList) := n1.trans (List.perm_append_singleton _ _)
    have pz : (es1.toList.map fun e => strOf e.2).Perm (z :: L) := by
      rw [← eL]
      exact pc.map _
    have rows1 : ∀ e ∈ es1.toList, Row w e := fun e he => by
      rcases List.mem_cons.mp (pc.mem_iff.mp he) with h | h
      · exact ⟨z, tk, h⟩
      · exact rows e h
    have one1 := pz.nodup_iff.mpr (List.nodup_cons.mpr ⟨zout, one⟩)
    have few1 : es1.size < scanBound := by
      have : es1.size = L.length + 1 := by rw [← Array.length_toList, pc.length_eq, List.length_cons, Array.length_toList, len]
      omega
    have led1 : w.params.followText "set-order" = true ∨ t1.led = true := led.imp id fun h => by rw [n4]; exact h
    have fin : ∀ h' L', Heap.SameBut S s.heap h' → SW w h' S L' → L'.Perm (es1.toList.map fun e => strOf e.2) → Q true { s with heap := h' } := fun h' L' sb r pm => by
      have pm2 := pm.trans pz
      refine q true h' L' sb r (fun y => ?_) (Nat.le_of_eq (by rw [pm2.length_eq]; rfl))
      rw [pm2.mem_iff, List.mem_cons]
      exact Or.comm
    refine wpAny_bind (silent _ ?_)
    split
    · refine wpAny_bind ?_
      rw [hashByValue_scannable 8 scan]
      refine wpAny_pure ?_
      refine SW.behind ?_ ho ex hd rows1 one1 few1 ?_ ?_ ?_ ?_
      · intro b s1 Q1 h
        cases b
        · first | exact wpAny_pure h | exact wpAny_rule h
        · first | exact wpAny_pure h | exact wpAny_rule h
      · first | (split <;> first | exact n2 | exact SetTable.fits_plain_off n2) | exact n2
      · first | (split <;> exact n3) | exact n3
      · first | (split <;> exact led1) | exact led1
      · intro h' L' sb r pm
        dsimp only
        exact wpAny_pure (fin h' L' sb r pm)
    · refine wpAny_bind (wpAny_pure ?_)
      simp only [↓reduceIte]
      refine SW.behind ?_ ho ex hd rows1 one1 few1 n2 n3 led1 ?_
      · intro b s1 Q1 h
        cases b
        · first | exact wpAny_pure h | exact wpAny_rule h
        · first | exact wpAny_pure h | exact wpAny_rule h
      · intro h' L' sb r pm
        dsimp only
        exact wpAny_pure (fin h' L' sb r pm)
theorem row_vals {w : World} {l : List (Int × Value)} (g : ∀ e ∈ l, Row w e) : StrsAre (l.map (·.2)) (l.map fun e => strOf e.2) := by
  induction l with
  | nil => exact .nil
  | cons e l ih =>
    obtain ⟨z, tk, rfl⟩ := g e List.mem_cons_self
    exact .cons z tk (ih fun e he => g e (List.mem_cons_of_mem _ he))
/-- texts, in another order -/
theorem strs_perm {us vs : List Value} (pm : us.Perm vs) : ∀ {zs : List Str}, StrsAre vs zs → ∃ ys, StrsAre us ys ∧ ys.Perm zs := by
  induction pm with
  | nil => exact fun h => ⟨_, h, List.Perm.refl _⟩
  | cons x _ ih =>
    intro zs h
    cases h with
    | cons y t h =>
      obtain ⟨ys, a, b⟩ := ih h
      exact ⟨_, .cons y t a, b.cons y⟩
  | swap x y l =>
    intro zs h
    cases h with
    | cons y1 t1 h =>
      cases h with
      | cons y2 t2 h => exact ⟨_, .cons _ _ (.cons _ _ h), List.Perm.swap _ _ _⟩
  | trans _ _ i1 i2 =>
    intro zs h
    obtain ⟨ys, a, b⟩ := i2 h
    obtain ⟨xs, c, d⟩ := i1 a
    exact ⟨xs, c, d.trans b⟩
/-- sorted(set) -/
theorem sorted_texts {a : Addr} {Q : Value → Shared → Prop} (R : SW w s.heap a L) (calm : A.handled = none) (few : L.length < 64)
    (q : ∀ (s' : Shared) (p : Addr) (out : Array Value) (c : Nat) (ys : List Str), Stands s.heap s'.heap → s'.gens = s.gens → s'.os = s.os → s.heap.objs.size ≤ p → s'.heap.get? p = some (seqObj "list" out c) → StrsAre out.toList ys → ys.Perm L → sortedS ys = true → Q (.ref p) s') :
    wpAny (model P w) A (call (.builtin "sorted") [.ref a]) Q E s := by
  obtain ⟨o, es, ep, t, ho, ex, hd, rows, eL, one, hb, fits, ris, led⟩ := R
  refine Calls.call_function_entry kind_sorted plain_sorted entry_sorted (args_sorted1 _) ?_
  unfold Builtin.«sorted»
  refine wpAny_bind (m := checkCount "sorted" 1 1 _) (wpAny_pure (wpAny_bind (collect_set (A := A.in1) calm ⟨o, ho, ex.1, hd⟩ fits hb ris led fun s1 vs k1 z1 g1 o1 pm => ?_)))
  obtain ⟨zs, hz, pz⟩ := strs_perm pm (row_vals rows)
  rw [eL] at pz
  have hl : vs.length = L.length := by
    rw [← pz.length_eq]
    exact hz.length
  refine wpAny_bind (wpAny_newList ?_ (by rw [hl, sizeLine_eq]; omega))
  have there : (s1.heap.push (seqObj "list" vs.toArray 0)).get? s1.heap.objs.size = some (seqObj "list" vs.toArray 0) := Heap.get?_push_size _ rfl
  refine wpAny_bind (wpAny_holding (wpAny_call_entry slot_list_sort ⟨_, there, rfl⟩ entry_list_sort
    (list_sort_treeK strKind_oneLt there hz.keysOf (fun v1 v2 rest e => keyKind_strs (by rw [← e]; exact hz)) (by rw [hl]; exact few) fun st' h1 h2 => ⟨_, rfl, ?_⟩) (args_list_sort _)))
  obtain ⟨ys, a1, a2, a3⟩ := sorted_out_str hz h1 h2
  obtain ⟨c, hc⟩ := sortedHeap_at (vs := vs) (out := (arrOf st').map (·.2)) there
  refine wpAny_pure ⟨_, rfl, q _ s1.heap.objs.size _ c ys (fun b u e => ?_) g1 o1 z1 hc a1 (a2.trans pz) a3⟩
  have e1 := k1 b u e
  have lt := Heap.lt_size e1
  show (sortedHeap (s1.heap.push (seqObj "list" vs.toArray 0)) s1.heap.objs.size vs _).get? b = some u
  rw [sortedHeap_old (Nat.ne_of_lt lt) (by rw [size_push']; exact Nat.lt_succ_of_lt lt)]
  exact Heap.get?_push_of_some _ e1
end
/-- a set of these texts stands there -/
def SwO (w : World) (a : Addr) (L : List Str) : HO := .ext fun h => SW w h a L
theorem swO_ok {P : Program} {w : World} {H : Hp} {h : Heap} {a : Addr} {L : List Str} (R : SW w h a L) : ObjOk P w H h a (SwO w a L) := by
  refine ⟨R, let ⟨o, _, _, _, e, _⟩ := R.ex; ⟨o, e⟩, ?_⟩
  intro h1 h2 z k
  exact z.at_ k
section
variable {X : Cx}
theorem bare_SW {w : World} {h : Heap} {S : Addr} (e : h.get? S = some (bareSet w)) : SW w h S [] :=
  ⟨_, #[], 0, _, e, ⟨rfl, rfl, rfl⟩, rfl, fun x hx => by simp at hx, rfl, List.nodup_nil, by decide, rfl, List.Pairwise.nil, by
    show _ ∨ (!w.params.followText "set-order") = true
    cases w.params.followText "set-order"
    · exact .inr rfl
    · exact .inl rfl⟩
def JW (w : World) (S : Addr) (zs : List Str) (i : Nat) (h : Heap) : Prop := ∃ L, SW w h S L ∧ L.length ≤ i ∧ ∀ z, z ∈ L ↔ z ∈ zs.take i
theorem strs_get {us : List Value} {zs : List Str} (r : StrsAre us zs) : ∀ (i : Nat) (u : Value), us[i]? = some u → ∃ z tk, zs[i]? = some z ∧ u = .str z tk := by
  induction r with
  | nil =>
    intro i u e
    cases e
  | cons y t _ ih =>
    intro i u e
    cases i with
    | zero =>
      cases e
      exact ⟨y, t, rfl, rfl⟩
    | succ i => exact ih i u e
theorem fills_texts {P : Program} {w : World} {h0 : Heap} {S : Addr} {zs : List Str} {us : List Value} (r : StrsAre us zs) (few : zs.length + 1 < scanBound) : Fills P w h0 S us (JW w S zs) := by
  constructor
  · rintro i h h' ⟨L, R, r⟩ hS _
    exact ⟨L, R.at_ hS, r⟩
  · rintro A E i u s Q low hi ⟨L, R, lL, mem⟩ st q
    obtain ⟨z, tk, e, rfl⟩ := strs_get r i u hi
    have il : i < zs.length := (List.getElem?_eq_some_iff.mp e).1
    unfold setAdd
    refine wpAny_holding (wpAny_bind ((mixKind P w).pyHash (show (mixKind P w).is (.inr z) (.str z tk) = true from keyIs_str z tk) ?_))
    refine SW.add (s := { s with toks := s.toks + 1 }) R (by omega) fun c h' L' sb R' m' l' => ?_
    refine q _ h' _ (Nat.le_succ _) sb ⟨L', R', by omega, fun y => ?_⟩
    rw [m' y, mem y, take_snoc e, List.mem_append, List.mem_singleton]
/-- set(texts) -/
def rSetS (K : PySem.W.Frag) (w : World) : List V → Hp → VK → Prop := fun xs H Q => ∃ (l : Addr) (zs : List Str), xs = [V.ref l] ∧ SqL K H l (zs.map V.str) ∧ zs.length < 1000 ∧ ∀ a L, H a = none → L.Nodup → L.length ≤ zs.length → (∀ z, z ∈ L ↔ z ∈ zs) → Q (.ref a) (upd H a (SwO w a L))
theorem cr_setS (hc : X.calm = true) (hu : X.A.units + 64 < cLine) : CallR X (.type "set") (rSetS X.K X.w) := by
  intro pins s σ H xs us Q I r h
  obtain ⟨l, zs, rfl, hl, few, q⟩ := h
  obtain ⟨u, rfl, ru⟩ := r.one
  obtain rfl : u = Value.ref l := ru
  obtain ⟨its, rv, pl, hz⟩ := I.list hl
  have hn : H s.heap.objs.size = none := I.hok.fresh (Nat.le_refl _)
  have lk : its.toArray.size = zs.length := by rw [List.size_toArray, ← rv.length, List.length_map]
  have sb : scanBound = 4096 := rfl
  refine set_call (J := JW X.w s.heap.objs.size zs) (I.ok.hd hc) (by omega) pl.isList (fills_texts (by rw [List.toList_toArray]; exact rv.strs) (by omega)) (fun h e _ => ⟨[], bare_SW e, Nat.le_refl _, fun z => by simp⟩) fun h' tk st j => ?_
  rw [lk] at j
  obtain ⟨L, R, lL, mem⟩ := j
  rw [List.take_length] at mem
  have R0 := R
  obtain ⟨_, _, _, _, _, _, _, _, _, one, _⟩ := R0
  exact ⟨.ref s.heap.objs.size, upd H s.heap.objs.size (SwO X.w s.heap.objs.size L), I.laid (t' := tk) st (Nat.le_refl _) (swO_ok R), rfl, q _ L hn one lL mem⟩
/-- sorted(set(texts)) -/
def rSortW (w : World) : List V → Hp → VK → Prop := fun vs H Q => ∃ (a : Addr) (L : List Str), vs = [V.ref a] ∧ H a = some (SwO w a L) ∧ L.length < 64 ∧ ∀ (ys : List Str) (p : Addr), ys.Perm L → sortedS ys = true → H p = none → Q (.ref p) (upd H p (.lst (ys.map V.str)))
theorem cr_sortW (hc : X.calm = true) : CallR X (.builtin "sorted") (rSortW X.w) := by
  intro pins s σ H vs us Q I r h
  obtain ⟨a, L, rfl, ha, few, q⟩ := h
  have R : SW X.w s.heap a L := (I.hok a _ ha).1
  obtain ⟨u, rfl, ru⟩ := r.one
  obtain rfl : u = Value.ref a := ru
  refine sorted_texts R (I.ok.hd hc) few fun s' p out c ys st g o hp hg hi pm so => ?_
  have hlen : (ys.map V.str).length ≤ sizeLine := by
    rw [List.length_map, pm.length_eq, sizeLine_eq]
    omega
  have hn : H p = none := I.hok.fresh hp
  have J : Inv X pins σ (upd H p (.lst (ys.map V.str))) { s with heap := s'.heap, gens := s'.gens, drawn := s'.drawn, toks := s'.toks } :=
    I.call (ch := []) (Un.laid st hp hn) (I.hok.laid st hp ⟨hlen, out.toList, c, vals_of_strs hi, hg⟩) (by rw [g]; exact I.bare) fun _ z => nomatch z
  have e : s' = { s with heap := s'.heap, gens := s'.gens, drawn := s'.drawn, toks := s'.toks } := by
    cases s'
    cases s
    cases o
    rfl
  rw [e]
  exact ⟨.ref p, _, J, rfl, q ys p pm so hn⟩
theorem k_setS {K : PySem.W.Frag} {w : World} (h : X.K = K) (hw : X.w = w) (hc : X.calm = true) (hu : X.A.units + 64 < cLine) : CallR X (.type "set") (rSetS K w) := by
  subst h hw
  exact cr_setS hc hu
theorem k_sortW {w : World} (hw : X.w = w) (hc : X.calm = true) : CallR X (.builtin "sorted") (rSortW w) := by
  subst hw
  exact cr_sortW hc
end
end NK
/-! lists of lamps that are settings, of any object -/
namespace NK
open PySem PySem.Spec PyProof.Rows L2 He K1
/-- a block within a block -/
theorem lookup_cell {env : Env} : ∀ {names : List (Str × NameKind)} {x : Str}, (names.lookup x = some .cell ∨ names.lookup x = some .free) →
    ((names.map fun (n, k) => if (k == NameKind.free && env.scope.kind == .function && env.kindOf n == some .cell) then (n, NameKind.cell) else (n, k)).lookup x = some .cell ∨ (names.map fun (n, k) => if (k == NameKind.free && env.scope.kind == .function && env.kindOf n == some .cell) then (n, NameKind.cell) else (n, k)).lookup x = some .free)
  | [], _, h => by simp at h
  | (n, k) :: r, x, h => by
    have ih := lookup_cell (env := env) (names := r) (x := x)
    rw [List.map_cons]
    dsimp only
    cases e : x == n with
    | true =>
      rw [List.lookup_cons, e] at h
      by_cases c : (k == NameKind.free && env.scope.kind == .function && env.kindOf n == some .cell) = true
      · rw [if_pos c, List.lookup_cons, e]
        exact .inl rfl
      · rw [if_neg c, List.lookup_cons, e]
        exact h
    | false =>
      rw [List.lookup_cons, e] at h
      by_cases c : (k == NameKind.free && env.scope.kind == .function && env.kindOf n == some .cell) = true
      · rw [if_pos c, List.lookup_cons, e]
        exact ih h
      · rw [if_neg c, List.lookup_cons, e]
        exact ih h
theorem blk_in {N : List Str} {sc scope : Scope} {own : List (Str × Nat)} {env : Env} (h : BlkOk N sc scope own) : BlkOk N (relabel sc env) scope own := ⟨h.kind, h.uniq, h.ix, fun y hy e => lookup_cell (h.free y hy e), h.own⟩
theorem filt_snoc {α : Type} {zs : List α} {f : α → Bool} {j : Nat} {z : α} (e : zs[j]? = some z) : (zs.take (j + 1)).filter f = (zs.take j).filter f ++ (if f z = true then [z] else []) := by
  rw [List.take_add_one, e, List.filter_append]
  congr 1
  exact List.filter_cons ..
theorem room_filt {zs : List Str} {f : Str → Bool} (h : zs.length ≤ 1000) (j : Nat) : (((zs.take j).filter f).map V.str).length < sizeLine := by
  rw [List.length_map]
  have h1 := List.length_filter_le f (zs.take j)
  rw [List.length_take] at h1
  exact room_str _ (by omega)
theorem valV_some {kvs : List (Key × V)} {bs : List Str} (h0 : kvs.map (·.1) = bs.map fun z => (Sum.inr z : Key)) (z : Str) : (valV kvs (Sum.inr z)).isSome = decide (z ∈ bs) := by
  have e : (Sum.inr z : Key) ∈ kvs.map (·.1) ↔ z ∈ bs := by
    rw [h0]
    exact ⟨fun h => by
      obtain ⟨y, hy, e⟩ := List.mem_map.mp h
      injection e with e
      exact e ▸ hy, fun h => List.mem_map.mpr ⟨z, h, rfl⟩⟩
  by_cases h : z ∈ bs
  · rw [valV_key (e.mpr h), decide_eq_true h]
  · rw [valV_app_none kvs _ (fun q => h (e.mp q)), decide_eq_false h]
    rfl
def lampB (N : NetD) : V → Bool
  | .str z => decide (z ∈ N.bs)
  | _ => false
/-- no text -/
def NoStr (K : PySem.W.Frag) (H : Hp) (x : V) : Prop := (∀ z, x ≠ .str z) ∧ ∃ t, TyX K H x t ∧ PySem.W.kitOne K t (.type "str") = some false
def Item (K : PySem.W.Frag) (H : Hp) (x : V) : Prop := (∃ z, x = .str z) ∨ NoStr K H x
def NoList (K : PySem.W.Frag) (H : Hp) (x : V) : Prop := ∃ t, TyX K H x t ∧ PySem.W.kitOne K t (.type "list") = some false
theorem lampB_no {K : PySem.W.Frag} {H : Hp} {N : NetD} {x : V} (h : NoStr K H x) : lampB N x = false := by
  cases x with
  | str z => exact absurd rfl (h.1 z)
  | _ => rfl
/-- all of it lamps, ascending -/
def SetP (N : NetD) (xs : List V) : Prop := ∃ zs : List Str, xs = zs.map V.str ∧ (∀ z ∈ zs, z ∈ N.bs) ∧ Asc sl zs
theorem all_lamps {N : NetD} {xs : List V} (h : xs.all (lampB N) = true) : ∃ zs : List Str, xs = zs.map V.str ∧ ∀ z ∈ zs, z ∈ N.bs := by
  induction xs with
  | nil => exact ⟨[], rfl, fun z hz => nomatch hz⟩
  | cons x xs ih =>
    rw [List.all_cons, Bool.and_eq_true] at h
    obtain ⟨zs, rfl, hz⟩ := ih h.2
    cases x with
    | str z => exact ⟨z :: zs, rfl, fun y hy => (List.mem_cons.mp hy).elim (fun e => e ▸ of_decide_eq_true h.1) (hz y)⟩
    | _ => cases h.1
theorem lamps_all {N : NetD} {zs : List Str} (h : ∀ z ∈ zs, z ∈ N.bs) : (zs.map V.str).all (lampB N) = true := by
  rw [List.all_eq_true]
  intro x hx
  obtain ⟨z, hz, rfl⟩ := List.mem_map.mp hx
  exact decide_eq_true (h z hz)
section
variable {P : Program} {w : World} {K : PySem.W.Frag} {mg : Str → Option Value} {base : Heap} {C W RW : Addr}
def spAsc : Sp := fun vs H Q _ => ∃ (p : Addr) (zs : List Str), vs = [.ref p] ∧ H p = some (.lst (zs.map V.str)) ∧ zs.length < 64 ∧ (∀ z ∈ zs, Word z) ∧ ∀ b H', (b = true ↔ Asc sl zs) → Same H H' → Q (.bl b) H'
theorem ok_asc {f : Addr} {fd : FuncData} (F : FnP K "is_ascending" s_is_ascending f fd) (B : FreeN mg) : FnOk P w K mg base CX0 1 f fd ["values"] spAsc := by
  refine fnP_ok F sc_is_ascending (fun vs H Q E h => ?_) (fun cdv A outer s H vs Q E hr h => ?_)
  · obtain ⟨p, zs, rfl, _⟩ := h
    rfl
  · obtain ⟨p, zs, rfl, ep, few, wz, kk⟩ := h
    have nd := sc_is_ascending.nd
    have hu := hr.units
    refine ⟨_, (pss_one (ps_ret (pe_cmpR (k_eqD (K := K) rfl hu) (pv 0) (pe_callB (k_sortW (w := w) rfl rfl) (by rfl) B.sorted (by decide +kernel) (pa_cons (pe_callTy (k_setS (K := K) (w := w) rfl rfl rfl hu) (by rfl) B.set (by decide +kernel) (pa_cons (pv 0) pa_nil)) pa_nil)) (nomark _)))), ?_⟩
    refine ⟨_, rfl, _, rfl, p, zs, rfl, SqL.of ep, by omega, fun a L na one lL mem => ?_⟩
    have sa := same_new (o := SwO w a L) na
    refine ⟨a, L, rfl, upd_same, by omega, fun ys q pm so nq => ?_⟩
    have sq := same_new (o := .lst (ys.map V.str)) nq
    have wy : ∀ y ∈ ys, Word y := fun y hy => wz y ((mem y).mp (pm.mem_iff.mp hy))
    refine ⟨_, _, .lst (SqL.of (sq _ _ (sa _ _ ep))) (dp_strs zs), .lst (SqL.of upd_same) (dp_strs ys), shaped_strs wz, shaped_strs wy, ?_⟩
    rw [eqv_strs]
    have asc : Asc sl ys := asc_sortedS (pm.nodup_iff.mpr one) so
    refine kk _ _ ⟨fun h => ?_, fun h => decide_eq_true ?_⟩ (sa.trans sq)
    · rw [of_decide_eq_true h]
      exact asc
    · exact asc_uniq ord_sl h asc fun x => by rw [pm.mem_iff, mem x]
def spIsLampV (K : PySem.W.Frag) (C : Addr) : Sp := fun vs H Q _ => ∃ (a : Addr) (N : NetD) (x : V), vs = [.ref a, x] ∧ Made C H a N ∧ Item K H x ∧ Q (.bl (lampB N x)) H
theorem ok_is_lampV {f : Addr} {fd : FuncData} (F : FnP K "is_lamp" s_is_lamp f fd) (B : FreeN mg) (NC : NetC K C) : FnOk P w K mg base CX0 1 f fd ["net", "value"] (spIsLampV K C) := by
  refine fnP_ok F sc_is_lamp (fun vs H Q E h => ?_) (fun cdv A outer s H vs Q E hr h => ?_)
  · obtain ⟨a, N, x, rfl, _⟩ := h
    rfl
  · obtain ⟨a, N, x, rfl, m, it, kk⟩ := h
    have nd := sc_is_lamp.nd
    have hu1 := room1 hr
    refine ⟨_, (pss_one (ps_ret (pe_and (pe_callB (k_isi (K := K) rfl) (by rfl) B.isi (by decide +kernel) (pa_cons (pv 1) (pa_cons (pe_bltn (v := .ty "str") (by rfl) B.str (by decide +kernel) rfl) pa_nil))) (pe_one (pe_cmp (pc_din hu1 (pv 1) (k_fld (K := K) rfl (pv 0) rfl)) rfl))))), ?_⟩
    obtain ⟨dx, nr, wr, tt, a1, a2, a3, a4, a5⟩ := m.ex
    rcases it with ⟨z, rfl⟩ | ns
    · refine ⟨_, rfl, _, _, _, _, true, rfl, .ty "str", .base (.str z), rfl, true, rfl, ifT ?_⟩
      refine ⟨_, rfl, _, rfl, a, C, dx, _, _, rfl, a1, NC.cls, NC.near, rfl, nr, _, rfl, .inl ⟨tabR tt, .inr z, .inl a2, rfl, rfl⟩, ?_⟩
      rw [valV_some (by rw [tabR_keys, a3])]
      exact kk
    · obtain ⟨_, t, ty, kt⟩ := ns
      refine ⟨_, rfl, x, _, t, _, false, rfl, .ty "str", ty, kt, false, rfl, ifF ?_⟩
      rw [lampB_no ⟨by assumption, t, ty, kt⟩] at kk
      exact kk
def spAreLampsV (K : PySem.W.Frag) (C : Addr) : Sp := fun vs H Q _ => ∃ (a : Addr) (N : NetD) (x : V), vs = [.ref a, x] ∧ Made C H a N ∧ ((∃ (p : Addr) (xs : List V), x = .ref p ∧ H p = some (.lst xs) ∧ xs.length ≤ 1000 ∧ (∀ y ∈ xs, ∀ H', Same H H' → Item K H' y) ∧ tells (xs.all (lampB N)) Q H) ∨ (NoList K H x ∧ Q (.bl false) H))
theorem ok_are_lampsV {f : Addr} {fd : FuncData} (F : FnP K "are_lamps" s_are_lamps f fd) (B : FreeN mg) (NC : NetC K C) (G_is_lamp : Has P w K mg base 1 "is_lamp" ["net", "value"] (spIsLampV K C)) : FnOk P w K mg base CX0 2 f fd ["net", "value"] (spAreLampsV K C) := by
  refine fnP_ok F sc_are_lamps (fun vs H Q E h => ?_) (fun cdv A outer s H vs Q E hr h => ?_)
  · obtain ⟨a, N, x, rfl, _⟩ := h
    rfl
  · obtain ⟨a, N, x, rfl, m, h⟩ := h
    have nd := sc_are_lamps.nd
    refine ⟨_, (pss_one (ps_ret (pe_and (pe_callB (k_isi (K := K) rfl) (by rfl) B.isi (by decide +kernel) (pa_cons (pv 1) (pa_cons (pe_bltn (v := .ty "list") (by rfl) B.list (by decide +kernel) rfl) pa_nil))) (pe_one (pe_callB (k_all (K := K) rfl rfl) (by rfl) B.all (by decide +kernel) (pa_cons (pe_lc (own := [("lamp", 2)]) (g := gName 2) (tt := tYes) rfl nd (k_pil (K := K) rfl (pv 1)) (blkOk_by (N := nm_are_lamps) (sc := defScope s_are_lamps) (by decide +kernel)) (fun _ _ _ _ _ => (pg_name (i := 2) nd rfl (Or.inl rfl))) (fun _ _ _ _ _ => pts_nil) (fun _ _ _ _ _ => (pe_has G_is_lamp (hr.mono (by decide)) (pa_cons (pv 0) (pa_cons (pv 2) pa_nil))))) pa_nil)))))), ?_⟩
    rcases h with ⟨p, xs, rfl, ep, lz, hz, kk⟩ | ⟨⟨t, ty, kt⟩, kk⟩
    · refine ⟨_, rfl, _, _, _, _, true, rfl, .ty "list", .base (.lst ep), rfl, true, rfl, ifT ?_⟩
      refine ⟨_, rfl, p, rfl, ⟨_, SqL.of ep⟩, fun D nD => ?_⟩
      refine lc_list (K := K) (a := p) (xs := xs) (fun i H' => Same H H' ∧ H' D = some (.lst (((xs.take i).map (lampB N)).map V.bl))) ⟨same_new nD, upd_same⟩ (fun i H' _ ⟨sm, _⟩ => SqL.of (sm _ _ ep)) ?_ ?_
      · rintro i x H' hx ⟨sm, eD⟩
        have hi := (List.getElem?_eq_some_iff.mp hx).1
        refine ⟨rfl, _, rfl, _, rfl, a, N, x, rfl, m.same sm, hz x (List.mem_of_getElem? hx) H' sm, ?_⟩
        refine ⟨_, eD, by rw [List.length_map, List.length_map, List.length_take]; exact room_str _ (by omega), upd_same' sm nD, ?_⟩
        rw [upd_same, List.take_add_one, hx, List.map_append, List.map_append]
        rfl
      · rintro H' ⟨sm, eD⟩
        refine ⟨D, _, rfl, SqL.of eD, ?_⟩
        rw [List.take_length]
        have : (xs.map (lampB N)).all id = xs.all (lampB N) := by rw [List.all_map]; rfl
        rw [this]
        exact kk H' sm
    · refine ⟨_, rfl, x, _, t, _, false, rfl, .ty "list", ty, kt, false, rfl, ifF ?_⟩
      exact kk
/-- is_setting, of any object -/
def spIsSetting (K : PySem.W.Frag) (C : Addr) : Sp := fun vs H Q _ => ∃ (a : Addr) (N : NetD) (x : V), vs = [.ref a, x] ∧ Made C H a N ∧ NetF N ∧ ((∃ (p : Addr) (xs : List V), x = .ref p ∧ H p = some (.lst xs) ∧ xs.length < 64 ∧ (∀ y ∈ xs, ∀ H', Same H H' → Item K H' y) ∧ ∀ b H', (b = true ↔ SetP N xs) → Same H H' → Q (.bl b) H') ∨ (NoList K H x ∧ tells false Q H))
theorem ok_is_setting {f : Addr} {fd : FuncData} (F : FnP K "is_setting" s_is_setting f fd) (B : FreeN mg) (G_need_net : Has P w K mg base 1 "need_net" ["net"] (spNeedNet C)) (G_are_lamps : Has P w K mg base 2 "are_lamps" ["net", "value"] (spAreLampsV K C)) (G_is_ascending : Has P w K mg base 1 "is_ascending" ["values"] spAsc) : FnOk P w K mg base CX0 3 f fd ["net", "value"] (spIsSetting K C) := by
  refine fnP_ok F sc_is_setting (fun vs H Q E h => ?_) (fun cdv A outer s H vs Q E hr h => ?_)
  · obtain ⟨a, N, x, rfl, _⟩ := h
    rfl
  · obtain ⟨a, N, x, rfl, m, NF, h⟩ := h
    have nd := sc_is_setting.nd
    refine ⟨_, (pss_cons (ps_expr (pe_has G_need_net (hr.mono (by decide)) (pa_cons (pv 0) pa_nil)))
      (pss_one (ps_ret (pe_and (pe_has G_are_lamps (hr.mono (by decide)) (pa_cons (pv 0) (pa_cons (pv 1) pa_nil))) (pe_one (pe_has G_is_ascending (hr.mono (by decide)) (pa_cons (pv 1) pa_nil))))))), ?_⟩
    refine ⟨_, rfl, a, N, rfl, m, ?_⟩
    rcases h with ⟨p, xs, rfl, ep, lz, hz, kk⟩ | ⟨nl, kk⟩
    · refine ⟨_, rfl, _, rfl, a, N, _, rfl, m, .inl ⟨p, xs, rfl, ep, by omega, hz, fun H1 s1 => ⟨_, rfl, ?_⟩⟩⟩
      cases eb : xs.all (lampB N) with
      | true =>
        obtain ⟨zs, rfl, mz⟩ := all_lamps eb
        rw [List.length_map] at lz
        refine ifT ⟨_, rfl, p, zs, rfl, s1 _ _ ep, lz, fun z hz => NF.word z (mz z hz), fun b H2 hb s2 => kk b H2 ?_ (s1.trans s2)⟩
        rw [hb]
        refine ⟨fun h => ⟨zs, rfl, mz, h⟩, fun ⟨ys, e, _, h⟩ => ?_⟩
        have : zs = ys := (List.map_inj_right fun _ _ => V.str.inj).mp e
        rw [this]
        exact h
      | false =>
        refine ifF (kk false H1 ⟨fun h => absurd h (by decide), fun ⟨zs, e, mz, _⟩ => ?_⟩ s1)
        rw [e, lamps_all mz] at eb
        cases eb
    · exact ⟨_, rfl, _, rfl, a, N, _, rfl, m, .inr ⟨nl, false, rfl, ifF (kk H fun _ _ e => e)⟩⟩
end
end NK
/-! settings: which lamps are ready -/
namespace NK
open PySem PySem.Spec PyProof.Rows L2 He K1
structure IsSet (N : NetD) (zs : List Str) : Prop where
  mem : ∀ z ∈ zs, z ∈ N.bs
  asc : Asc sl zs
theorem IsSet.eq {N : NetD} {zs : List Str} (F : NetF N) (h : IsSet N zs) : zs = N.bs.filter fun z => decide (z ∈ zs) :=
  asc_uniq ord_sl h.asc (List.Pairwise.filter _ F.asc) fun x => by
    rw [List.mem_filter, decide_eq_true_eq]
    exact ⟨fun q => ⟨h.mem x q, q⟩, fun q => q.2⟩
theorem IsSet.len {N : NetD} {zs : List Str} (F : NetF N) (h : IsSet N zs) : zs.length ≤ N.bs.length := by
  rw [h.eq F]
  exact List.length_filter_le _ _
theorem isSet_filt {N : NetD} (F : NetF N) (f : Str → Bool) : IsSet N (N.bs.filter f) := ⟨fun z h => (List.mem_filter.mp h).1, List.Pairwise.filter _ F.asc⟩
theorem item_strs {K : PySem.W.Frag} {zs : List Str} : ∀ y ∈ zs.map V.str, ∀ H' : Hp, Item K H' y := fun y hy _ => by
  obtain ⟨z, _, rfl⟩ := List.mem_map.mp hy
  exact .inl ⟨z, rfl⟩
/-- a net that may be read, its tables walked or not -/
def ReadOn (C : Addr) (H : Hp) (a : Addr) (N : NetD) : Prop := ∃ (dx nr wr : Addr) (tt : List (Str × Addr)), H a = some (.ins C dx [("near", .ref nr), ("wish", .ref wr)]) ∧ Rd H nr (.dK (tabR tt)) ∧ tt.map (·.1) = N.bs ∧ (∀ e ∈ tt, H e.2 = some (.tup ((nb N e.1).map V.str))) ∧ H wr = some (.dK (wtab N.bs N.wf))
theorem Made.read {C : Addr} {H : Hp} {a : Addr} {N : NetD} (m : Made C H a N) : ReadOn C H a N := by
  obtain ⟨dx, nr, wr, tt, a1, a2, a3, a4, a5⟩ := m.ex
  exact ⟨dx, nr, wr, tt, a1, .inl a2, a3, a4, a5⟩
theorem ReadOn.same {C : Addr} {H H' : Hp} {a : Addr} {N : NetD} (s : Same H H') (m : ReadOn C H a N) : ReadOn C H' a N := by
  obtain ⟨dx, nr, wr, tt, a1, a2, a3, a4, a5⟩ := m
  exact ⟨dx, nr, wr, tt, s _ _ a1, a2.elim (fun h => .inl (s _ _ h)) (fun ⟨o, h⟩ => .inr ⟨o, s _ _ h⟩), a3, fun e he => s _ _ (a4 e he), s _ _ a5⟩
def litN (N : NetD) (zs : List Str) (x : Str) : List Str := (nb N x).filter fun y => decide (y ∈ zs)
def rdw (n : Nat) : Str := if n % 2 = 1 then "odd" else "even"
theorem rdw_at (n : Nat) : atI [V.str "even", V.str "odd"] ((n : Int) % 2) = some (.str (rdw n)) := by
  unfold rdw
  by_cases h : n % 2 = 1
  · rw [if_pos h, show (n : Int) % 2 = 1 by omega]
    rfl
  · rw [if_neg h, show (n : Int) % 2 = 0 by omega]
    rfl
def rd (N : NetD) (zs : List Str) (x : Str) : Bool := decide (N.wf x = rdw (litN N zs x).length)
structure RdyG (K : PySem.W.Frag) (mg : Str → Option Value) (RW : Addr) : Prop where
  glo : mg "READY_WISHES" = some (.ref RW)
  tup : ∀ H : Hp, SqT K H RW [.str "even", .str "odd"]
section
variable {P : Program} {w : World} {K : PySem.W.Frag} {mg : Str → Option Value} {base : Heap} {C W RW : Addr}
def spNeedSetting (C : Addr) : Sp := fun vs H Q _ => ∃ (a p : Addr) (N : NetD) (zs : List Str), vs = [.ref a, .ref p] ∧ Made C H a N ∧ NetF N ∧ H p = some (.lst (zs.map V.str)) ∧ IsSet N zs ∧ ∀ H', Same H H' → Q .non H'
theorem ok_need_setting {f : Addr} {fd : FuncData} (F : FnP K "need_setting" s_need_setting f fd) (B : FreeN mg) (G_is_setting : Has P w K mg base 3 "is_setting" ["net", "value"] (spIsSetting K C)) : FnOk P w K mg base CX0 4 f fd ["net", "setting"] (spNeedSetting C) := by
  refine fnP_ok F sc_need_setting (fun vs H Q E h => ?_) (fun cdv A outer s H vs Q E hr h => ?_)
  · obtain ⟨a, p, N, zs, rfl, _⟩ := h
    rfl
  · obtain ⟨a, p, N, zs, rfl, m, NF, ep, st, kk⟩ := h
    have nd := sc_need_setting.nd
    refine ⟨_, (pss_one (ps_if (pt_not (pt_val (pe_has G_is_setting (hr.mono (by decide)) (pa_cons (pv 0) (pa_cons (pv 1) pa_nil))))) (pss_one ps_never) pss_nil)), ?_⟩
    have lz := st.len NF
    have few := NF.few
    refine ⟨_, rfl, _, rfl, a, N, _, rfl, m, NF, .inl ⟨p, _, rfl, ep, by rw [List.length_map]; omega, fun y hy H' _ => item_strs y hy H', fun b H1 hb s1 => ?_⟩⟩
    have : b = true := hb.mpr ⟨zs, rfl, st.mem, st.asc⟩
    subst this
    refine ⟨true, rfl, ifF (kk H1 s1)⟩
def spLitNear (C : Addr) : Sp := fun vs H Q _ => ∃ (a p : Addr) (N : NetD) (zs : List Str) (x : Str), vs = [.ref a, .ref p, .str x] ∧ ReadOn C H a N ∧ NetF N ∧ H p = some (.lst (zs.map V.str)) ∧ zs.length ≤ 1000 ∧ x ∈ N.bs ∧ newL (litN N zs x) Q H
theorem ok_lit_near {f : Addr} {fd : FuncData} (F : FnP K "_lit_near" s_lit_near f fd) (B : FreeN mg) (NC : NetC K C) : FnOk P w K mg base CX0 1 f fd ["net", "lit", "lamp"] (spLitNear C) := by
  refine fnP_ok F sc_lit_near (fun vs H Q E h => ?_) (fun cdv A outer s H vs Q E hr h => ?_)
  · obtain ⟨a, p, N, zs, x, rfl, _⟩ := h
    rfl
  · obtain ⟨a, p, N, zs, x, rfl, m, NF, ep, lz, hx, kk⟩ := h
    have nd := sc_lit_near.nd
    have hu1 := room1 hr
    refine ⟨_, (pss_one (ps_ret (pe_lc (own := [("near", 3)]) (g := gName 3) rfl nd (pi_tup (pe_dget hu1 (k_fld (K := K) rfl (pv 0) rfl) (pv 2) (fun _ _ => rfl))) (blkOk_by (N := nm_lit_near) (sc := defScope s_lit_near) (by decide +kernel)) (fun _ _ _ _ _ => (pg_name (i := 3) nd rfl (Or.inl rfl))) (fun _ _ _ _ _ => (pts_one (pt_cmpR (k_in (K := K) rfl) (pv 3) (pv 1) (by rfl)))) (fun _ _ _ _ _ => (pv 3))))), ?_⟩
    obtain ⟨dx, nr, wr, tt, a1, a2, a3, a4, a5⟩ := m
    have hx' := hx
    rw [← a3] at hx'
    obtain ⟨e, he, ex⟩ := List.mem_map.mp hx'
    have va : valV (tabR tt) (Sum.inr x) = some (V.ref e.2) := by
      rw [← ex]
      exact tabR_at (by rw [a3]; exact asc_nodup ord_sl NF.asc) he
    have te := a4 e he
    rw [ex] at te
    have lnb : (nb N x).length ≤ 1000 := by
      have h1 : (nb N x).length ≤ N.bs.length := List.length_filter_le _ _
      have := NF.few
      omega
    refine ⟨_, rfl, a, C, dx, _, _, rfl, a1, NC.cls, NC.near, rfl, _, rfl, nr, _, rfl, .inl ⟨tabR tt, .inr x, a2, rfl, va.symm⟩, ?_⟩
    refine ⟨e.2, rfl, ⟨_, SqT.of te⟩, fun D nD => ?_⟩
    refine lc_tup (K := K) (a := e.2) (xs := (nb N x).map V.str) (fun i H' => Same H H' ∧ H' D = some (.lst ((((nb N x).take i).filter fun y => decide (y ∈ zs)).map V.str))) ⟨same_new nD, upd_same⟩ (fun i H' _ ⟨sm, _⟩ => SqT.of (sm _ _ te)) ?_ ?_
    · rintro i y H' hy ⟨sm, eD⟩
      rw [List.getElem?_map] at hy
      cases ey : (nb N x)[i]? with
      | none =>
        rw [ey] at hy
        cases hy
      | some z =>
      rw [ey] at hy
      cases hy
      refine ⟨rfl, _, rfl, _, rfl, p, _, rfl, .inl (SqL.of (sm _ _ ep)), rfl, flat_strs zs, _, rfl, ?_⟩
      rw [inV_str, filt_snoc ey]
      refine ite2 (fun h => ?_) (fun h => ?_)
      · refine ⟨_, rfl, _, eD, room_filt lnb i, upd_same' sm nD, ?_⟩
        rw [upd_same, if_pos (show decide (z ∈ zs) = true from h), List.map_append]
        rfl
      · refine ⟨sm, ?_⟩
        rw [if_neg (show ¬ decide (z ∈ zs) = true from h), List.append_nil]
        exact eD
    · rintro H' ⟨sm, eD⟩
      rw [List.length_map, List.take_length] at eD
      exact kk D H' nD eD sm
def spReady (C : Addr) : Sp := fun vs H Q _ => ∃ (a p : Addr) (N : NetD) (zs : List Str) (x : Str), vs = [.ref a, .ref p, .str x] ∧ ReadOn C H a N ∧ NetF N ∧ H p = some (.lst (zs.map V.str)) ∧ zs.length ≤ 1000 ∧ x ∈ N.bs ∧ tells (rd N zs x) Q H
theorem ok_ready {f : Addr} {fd : FuncData} (F : FnP K "is_ready_by" s_is_ready_by f fd) (B : FreeN mg) (NC : NetC K C) (RY : RdyG K mg RW) (G__lit_near : Has P w K mg base 1 "_lit_near" ["net", "lit", "lamp"] (spLitNear C)) : FnOk P w K mg base CX0 2 f fd ["net", "lit", "lamp"] (spReady C) := by
  refine fnP_ok F sc_is_ready_by (fun vs H Q E h => ?_) (fun cdv A outer s H vs Q E hr h => ?_)
  · obtain ⟨a, p, N, zs, x, rfl, _⟩ := h
    rfl
  · obtain ⟨a, p, N, zs, x, rfl, m, NF, ep, lz, hx, kk⟩ := h
    have nd := sc_is_ready_by.nd
    have hu1 := room1 hr
    refine ⟨_, (pss_one (ps_ret (pe_cmpR op_eq (pe_dget hu1 (k_fld (K := K) rfl (pv 0) rfl) (pv 2) (fun _ _ => rfl)) (pe_ix (k_ixt (K := K) rfl) (pe_glob (v := .ref RW) rfl RY.glo rfl) (pe_op op_and (pe_callB (k_len (K := K) rfl) (by rfl) B.len (by decide +kernel) (pa_cons (pe_has G__lit_near (hr.mono (by decide)) (pa_cons (pv 0) (pa_cons (pv 1) (pa_cons (pv 2) pa_nil)))) pa_nil)) pe_int) (fun _ _ => rfl)) (nomark _)))), ?_⟩
    have m0 := m
    obtain ⟨dx, nr, wr, tt, a1, a2, a3, a4, a5⟩ := m
    refine ⟨_, rfl, a, C, dx, _, _, rfl, a1, NC.cls, NC.wish, rfl, _, rfl, wr, _, rfl, .inl ⟨_, .inr x, .inl a5, rfl, (wtab_at hx).symm⟩, ?_⟩
    refine ⟨_, rfl, _, rfl, _, rfl, a, p, N, zs, x, rfl, m0, NF, ep, lz, hx, fun D H1 nD eD s1 => ?_⟩
    refine ⟨D, _, rfl, .inl (SqL.of eD), _, _, rfl, rfl, RW, _, _, .str (rdw (litN N zs x).length), rfl, rfl, RY.tup _, ?_, ?_⟩
    · rw [List.length_map, bitAnd_m1]
      exact rdw_at _
    · refine ⟨rfl, ?_⟩
      rw [dec_vstr]
      exact kk H1 s1
end
end NK
/-! what is asked of settings -/
namespace NK
open PySem PySem.Spec PyProof.Rows L2 He K1
theorem tab_ne {H : Hp} {nr wr : Addr} {tt : List (Str × Addr)} {bs : List Str} {wf : Str → Str} (pos : 1 ≤ bs.length) (lt : tt.length = bs.length) (a2 : H nr = some (.dK (tabR tt))) (a5 : H wr = some (.dK (wtab bs wf))) : wr ≠ nr := fun q => by
  rw [q, a2] at a5
  have z := HO.dK.inj (Option.some.inj a5)
  cases tt with
  | nil =>
    rw [← lt] at pos
    exact absurd pos (by decide)
  | cons e r =>
    cases bs with
    | nil => exact absurd pos (by decide)
    | cons b r' =>
      unfold tabR wtab at z
      rw [List.map_cons, List.map_cons] at z
      injection z with z _
      injection z with _ z
      cases z
def xor1 (zs : List Str) (x : Str) (y : Str) : Bool := (decide (y ∈ zs)) != decide (y = x)
/-- with x switched -/
def flp (N : NetD) (zs : List Str) (x : Str) : List Str := N.bs.filter (xor1 zs x)
section
variable {P : Program} {w : World} {K : PySem.W.Frag} {mg : Str → Option Value} {base : Heap} {C W RW : Addr}
def spLitNb (C : Addr) : Sp := fun vs H Q _ => ∃ (a p : Addr) (N : NetD) (zs : List Str) (x : Str), vs = [.ref a, .ref p, .str x] ∧ Made C H a N ∧ NetF N ∧ H p = some (.lst (zs.map V.str)) ∧ IsSet N zs ∧ x ∈ N.bs ∧ newL (litN N zs x) Q H
theorem ok_lit_nb {f : Addr} {fd : FuncData} (F : FnP K "lit_neighbours" s_lit_neighbours f fd) (B : FreeN mg) (G_need_setting : Has P w K mg base 4 "need_setting" ["net", "setting"] (spNeedSetting C)) (G_need_lamp : Has P w K mg base 2 "need_lamp" ["net", "lamp"] (spNeedLamp C)) (G__lit_near : Has P w K mg base 1 "_lit_near" ["net", "lit", "lamp"] (spLitNear C)) : FnOk P w K mg base CX0 5 f fd ["net", "setting", "lamp"] (spLitNb C) := by
  refine fnP_ok F sc_lit_neighbours (fun vs H Q E h => ?_) (fun cdv A outer s H vs Q E hr h => ?_)
  · obtain ⟨a, p, N, zs, x, rfl, _⟩ := h
    rfl
  · obtain ⟨a, p, N, zs, x, rfl, m, NF, ep, st, hx, kk⟩ := h
    have nd := sc_lit_neighbours.nd
    refine ⟨_, (pss_cons (ps_expr (pe_has G_need_setting (hr.mono (by decide)) (pa_cons (pv 0) (pa_cons (pv 1) pa_nil))))
      (pss_cons (ps_expr (pe_has G_need_lamp (hr.mono (by decide)) (pa_cons (pv 0) (pa_cons (pv 2) pa_nil))))
      (pss_one (ps_ret (pe_has G__lit_near (hr.mono (by decide)) (pa_cons (pv 0) (pa_cons (pv 1) (pa_cons (pv 2) pa_nil)))))))), ?_⟩
    have lz := st.len NF
    have few := NF.few
    refine ⟨_, rfl, _, rfl, a, p, N, zs, rfl, m, NF, ep, st, fun H1 s1 => ?_⟩
    refine ⟨_, rfl, _, rfl, a, N, x, rfl, m.same s1, hx, ?_⟩
    exact ⟨_, rfl, _, rfl, _, rfl, a, p, N, zs, x, rfl, (m.same s1).read, NF, s1 _ _ ep, by omega, hx, fun D H2 nD eD s2 => kk D H2 (s1.free nD) eD (s1.trans s2)⟩
def spIsReady (C : Addr) : Sp := fun vs H Q _ => ∃ (a p : Addr) (N : NetD) (zs : List Str) (x : Str), vs = [.ref a, .ref p, .str x] ∧ Made C H a N ∧ NetF N ∧ H p = some (.lst (zs.map V.str)) ∧ IsSet N zs ∧ x ∈ N.bs ∧ tells (rd N zs x) Q H
theorem ok_is_ready {f : Addr} {fd : FuncData} (F : FnP K "is_ready" s_is_ready f fd) (B : FreeN mg) (G_need_setting : Has P w K mg base 4 "need_setting" ["net", "setting"] (spNeedSetting C)) (G_need_lamp : Has P w K mg base 2 "need_lamp" ["net", "lamp"] (spNeedLamp C)) (G_is_ready_by : Has P w K mg base 2 "is_ready_by" ["net", "lit", "lamp"] (spReady C)) : FnOk P w K mg base CX0 5 f fd ["net", "setting", "lamp"] (spIsReady C) := by
  refine fnP_ok F sc_is_ready (fun vs H Q E h => ?_) (fun cdv A outer s H vs Q E hr h => ?_)
  · obtain ⟨a, p, N, zs, x, rfl, _⟩ := h
    rfl
  · obtain ⟨a, p, N, zs, x, rfl, m, NF, ep, st, hx, kk⟩ := h
    have nd := sc_is_ready.nd
    refine ⟨_, (pss_cons (ps_expr (pe_has G_need_setting (hr.mono (by decide)) (pa_cons (pv 0) (pa_cons (pv 1) pa_nil))))
      (pss_cons (ps_expr (pe_has G_need_lamp (hr.mono (by decide)) (pa_cons (pv 0) (pa_cons (pv 2) pa_nil))))
      (pss_one (ps_ret (pe_has G_is_ready_by (hr.mono (by decide)) (pa_cons (pv 0) (pa_cons (pv 1) (pa_cons (pv 2) pa_nil)))))))), ?_⟩
    have lz := st.len NF
    have few := NF.few
    refine ⟨_, rfl, _, rfl, a, p, N, zs, rfl, m, NF, ep, st, fun H1 s1 => ?_⟩
    refine ⟨_, rfl, _, rfl, a, N, x, rfl, m.same s1, hx, ?_⟩
    exact ⟨_, rfl, _, rfl, _, rfl, a, p, N, zs, x, rfl, (m.same s1).read, NF, s1 _ _ ep, by omega, hx, fun H2 s2 => kk H2 (s1.trans s2)⟩
def spReadyLamps (C : Addr) : Sp := fun vs H Q _ => ∃ (a p : Addr) (N : NetD) (zs : List Str), vs = [.ref a, .ref p] ∧ Made C H a N ∧ NetF N ∧ H p = some (.lst (zs.map V.str)) ∧ IsSet N zs ∧ newL (N.bs.filter (rd N zs)) Q H
theorem ok_ready_lamps {f : Addr} {fd : FuncData} (F : FnP K "ready_lamps" s_ready_lamps f fd) (B : FreeN mg) (NC : NetC K C) (G_need_setting : Has P w K mg base 4 "need_setting" ["net", "setting"] (spNeedSetting C)) (G_is_ready_by : Has P w K mg base 2 "is_ready_by" ["net", "lit", "lamp"] (spReady C)) : FnOk P w K mg base CX0 5 f fd ["net", "setting"] (spReadyLamps C) := by
  refine fnP_ok F sc_ready_lamps (fun vs H Q E h => ?_) (fun cdv A outer s H vs Q E hr h => ?_)
  · obtain ⟨a, p, N, zs, rfl, _⟩ := h
    rfl
  · obtain ⟨a, p, N, zs, rfl, m, NF, ep, st, kk⟩ := h
    have nd := sc_ready_lamps.nd
    refine ⟨_, (pss_cons (ps_expr (pe_has G_need_setting (hr.mono (by decide)) (pa_cons (pv 0) (pa_cons (pv 1) pa_nil))))
      (pss_one (ps_ret (pe_lock (pe_lc (own := [("lamp", 2)]) (g := gName 2) rfl nd (pi_keys (k_fld (K := K) rfl (pv 0) rfl)) (blkOk_by (N := nm_ready_lamps) (sc := defScope s_ready_lamps) (by decide +kernel)) (fun _ _ _ _ _ => (pg_name (i := 2) nd rfl (Or.inl rfl))) (fun _ _ _ _ _ => (pts_one (pt_val (pe_has G_is_ready_by (hr.mono (by decide)) (pa_cons (pv 0) (pa_cons (pv 1) (pa_cons (pv 2) pa_nil))))))) (fun _ _ _ _ _ => (pv 2))))))), ?_⟩
    have lz := st.len NF
    have few := NF.few
    refine ⟨_, rfl, _, rfl, a, p, N, zs, rfl, m, NF, ep, st, fun H0 s0 => ?_⟩
    have m0 := m.same s0
    have ep0 := s0 _ _ ep
    obtain ⟨dx, nr, wr, tt, a1, a2, a3, a4, a5⟩ := m0.ex
    have lt : tt.length = N.bs.length := by
      have := congrArg List.length a3
      rw [List.length_map] at this
      exact this
    have an : a ≠ nr := fun q => by
      rw [q, a2] at a1
      cases a1
    have tn : ∀ e ∈ tt, e.2 ≠ nr := fun e he q => by
      have := a4 e he
      rw [q, a2] at this
      cases this
    have pn : p ≠ nr := fun q => by
      rw [q, a2] at ep0
      cases ep0
    have wn : wr ≠ nr := tab_ne NF.pos lt a2 a5
    refine ⟨nr, _, a2, True.intro, fun od => ?_⟩
    have e1 : upd H0 nr (.frz od (.dK (tabR tt))) a = _ := (upd_ne an).trans a1
    have w1 : ReadOn C (upd H0 nr (.frz od (.dK (tabR tt)))) a N := ⟨dx, nr, wr, tt, e1, .inr ⟨od, upd_same⟩, a3, fun e he => (upd_ne (tn e he)).trans (a4 e he), (upd_ne wn).trans a5⟩
    refine ⟨_, rfl, a, C, dx, _, _, rfl, e1, NC.cls, NC.near, rfl, nr, od, rfl, .inl ⟨tabR tt, upd_same, fun D nD => ?_⟩⟩
    have Dn : D ≠ nr := fun q => by
      rw [q, upd_same] at nD
      cases nD
    have nD0 : H0 D = none := by
      rw [upd_ne Dn] at nD
      exact nD
    refine lc_it walk_keys (fun i H' => Same (upd H0 nr (.frz od (.dK (tabR tt)))) H' ∧ H' D = some (.lst (((N.bs.take i).filter (rd N zs)).map V.str))) ⟨same_new nD, upd_same⟩ (fun i H' _ h => h.1 _ _ upd_same) ?_ ?_
    · rintro i x H1 H' hi ⟨sm, eD⟩ ⟨rfl, k, v, ex, rfl⟩
      unfold tabR at ex hi
      rw [List.length_map] at hi
      rw [List.getElem?_map, List.getElem?_eq_getElem hi] at ex
      cases ex
      have ebi : N.bs[i]? = some tt[i].1 := by
        rw [← a3, List.getElem?_map, List.getElem?_eq_getElem hi]
        rfl
      generalize tt[i].1 = z at *
      refine ⟨rfl, _, rfl, _, rfl, _, rfl, a, p, N, zs, z, rfl, w1.same sm, NF, sm _ _ ((upd_ne pn).trans ep0), by omega, List.mem_of_getElem? ebi, fun H2 s2 => ⟨_, rfl, ?_⟩⟩
      rw [filt_snoc ebi]
      have eD2 := s2 _ _ eD
      refine ite2 (fun h => ?_) (fun h => ?_)
      · refine ⟨_, rfl, _, eD2, room_filt (by omega) i, upd_same' (sm.trans s2) nD, ?_⟩
        rw [upd_same, if_pos h, List.map_append]
        rfl
      · refine ⟨sm.trans s2, ?_⟩
        rw [if_neg h, List.append_nil]
        exact eD2
    · rintro H' ⟨sm, eD⟩
      refine ⟨sm _ _ upd_same, kk D _ (s0.free nD0) ?_ (s0.trans (same_unlock a2 sm))⟩
      rw [upd_ne Dn, eD, show (tabR tt).length = N.bs.length by unfold tabR; rw [List.length_map, lt], List.take_length]
end
end NK
/-! hanging together -/
namespace NK
open PySem PySem.Spec PyProof.Rows L2 He K1
theorem len_same {α : Type} [DecidableEq α] {l m : List α} (h1 : l.Nodup) (h2 : m.Nodup) (h : ∀ x, x ∈ l ↔ x ∈ m) : l.length = m.length :=
  Nat.le_antisymm (nodup_le h1 fun x hx => (h x).mp hx) (nodup_le h2 fun x hx => (h x).mpr hx)
/-- do they hang together? -/
noncomputable def hng (N : NetD) : List Str → Bool
  | [] => false
  | z :: r => decide ((reach N (z :: r) z).length = (z :: r).length)
theorem hng_all {N : NetD} (F : NetF N) {z : Str} {r : List Str} (nd : (z :: r).Nodup) (hb : ∀ y ∈ z :: r, y ∈ N.bs) : hng N (z :: r) = true ↔ ∀ y ∈ z :: r, Rch (nb N) (· ∈ z :: r) z y := by
  have hz := hb z List.mem_cons_self
  have sub : ∀ y ∈ reach N (z :: r) z, y ∈ z :: r := fun y hy => ((mem_reach hz).mp hy).in_ List.mem_cons_self
  have rnd := asc_nodup ord_sl (reach_asc F (z :: r) z)
  show decide _ = true ↔ _
  rw [decide_eq_true_eq]
  constructor
  · intro e y hy
    rw [← mem_reach hz]
    by_cases m : y ∈ reach N (z :: r) z
    · exact m
    · have := nodup_le (l := y :: reach N (z :: r) z) (m := z :: r) (List.nodup_cons.mpr ⟨m, rnd⟩) fun x hx => by
        rcases List.mem_cons.mp hx with hx | hx
        · rw [hx]
          exact hy
        · exact sub x hx
      rw [List.length_cons (a := y), e] at this
      omega
  · exact fun h => len_same rnd nd fun x => ⟨sub x, fun hx => (mem_reach hz).mpr (h x hx)⟩
theorem hng_perm {N : NetD} (F : NetF N) {l m : List Str} (p : l.Perm m) (nd : l.Nodup) (hb : ∀ y ∈ l, y ∈ N.bs) : hng N l = hng N m := by
  cases l with
  | nil =>
    rw [List.nil_perm.mp p]
  | cons z r =>
    cases m with
    | nil => exact absurd p.length_eq (by simp)
    | cons z' r' =>
      have nd' := p.nodup_iff.mp nd
      have hb' : ∀ y ∈ z' :: r', y ∈ N.bs := fun y hy => hb y (p.mem_iff.mpr hy)
      rw [Bool.eq_iff_iff, hng_all F nd hb, hng_all F nd' hb']
      have sy : ∀ (l : List Str), (∀ y ∈ l, y ∈ N.bs) → ∀ x y, x ∈ l → y ∈ nb N x → y ∈ l → x ∈ nb N y := fun l hl x y hx hy _ => nb_symm (hl x hx) hy
      constructor
      · intro h y hy
        have a1 := (h z' (p.mem_iff.mpr List.mem_cons_self)).symm (sy _ hb) List.mem_cons_self
        exact (a1.trans (h y (p.mem_iff.mpr hy))).mono fun x hx => p.mem_iff.mp hx
      · intro h y hy
        have a1 := (h z (p.mem_iff.mp List.mem_cons_self)).symm (sy _ hb') List.mem_cons_self
        exact (a1.trans (h y (p.mem_iff.mp hy))).mono fun x hx => p.mem_iff.mpr hx
section
variable {P : Program} {w : World} {K : PySem.W.Frag} {mg : Str → Option Value} {base : Heap} {C W : Addr}
def spHangs : Sp := fun vs H Q _ => ∃ (R p : Addr) (N : NetD) (z : Str) (r : List Str), vs = [.ref R, .ref p] ∧ NetAt H R N ∧ H p = some (.lst ((z :: r).map V.str)) ∧ (z :: r).Nodup ∧ (∀ y ∈ z :: r, y ∈ N.bs) ∧ tells (hng N (z :: r)) Q H
end
end NK
/-! hanging together, tried -/
namespace NK
open PySem PySem.Spec PyProof.Rows L2 He K1
section
variable {X : Cx}
/-- two ways of an expression joined -/
def tCut (t : TE) : TE := fun σ H Q => ∃ M : V → Hp → Prop, t σ H M ∧ ∀ x H1, M x H1 → Q x H1
theorem pe_cut {e : Expr} {t : TE} (h : PE X e t) : PE X e (tCut t) := ⟨fun pins s σ H Q I hw => by
  obtain ⟨M, h1, h2⟩ := hw
  exact thn (h.run pins s σ H M I h1) fun v s1 ⟨x, H1, I1, r, q⟩ => ⟨x, H1, I1, r, h2 x H1 q⟩⟩
end
theorem Made.but {C : Addr} {H H' : Hp} {a m : Addr} {n : Int} {N : NetD} (pu : Purse H a n) (bt : But a H H') (h : Made C H m N) : Made C H' m N := by
  obtain ⟨dx, nr, wr, tt, a1, a2, a3, a4, a5⟩ := h.ex
  exact ⟨dx, nr, wr, tt, bt _ _ (purse_ne pu a1 fun _ _ _ _ q => by cases q) a1, bt _ _ (purse_ne pu a2 fun _ _ _ _ q => by cases q) a2, a3, fun e he => bt _ _ (purse_ne pu (a4 e he) fun _ _ _ _ q => by cases q) (a4 e he), bt _ _ (purse_ne pu a5 fun _ _ _ _ q => by cases q) a5⟩
theorem LsAt.but {H H' : Hp} {a : Addr} {n : Int} {ls : List (Addr × List Str)} (pu : Purse H a n) (bt : But a H H') (h : LsAt H ls) : LsAt H' ls := fun l hl => bt _ _ (strs_ne pu (h l hl)) (h l hl)
theorem perm_strs {ys : List V} {zs : List Str} (p : ys.Perm (zs.map V.str)) : ∃ ws : List Str, ws.Perm zs ∧ ys = ws.map V.str := by
  refine ⟨ys.map fun v => match v with | .str s => s | _ => "", ?_, ?_⟩
  · have := p.map fun v => match v with | .str s => s | _ => ""
    rw [List.map_map] at this
    have e : zs.map ((fun v : V => match v with | .str s => s | _ => "") ∘ V.str) = zs := by
      conv => rhs; rw [← List.map_id zs]
      rfl
    rw [e] at this
    exact this
  · rw [List.map_map]
    conv => lhs; rw [← List.map_id ys]
    refine List.map_congr_left fun v hv => ?_
    obtain ⟨s, _, rfl⟩ := List.mem_map.mp (p.mem_iff.mp hv)
    rfl
section
variable {P : Program} {w : World} {K : PySem.W.Frag} {mg : Str → Option Value} {base : Heap} {C W : Addr}
def spRight : Sp := fun vs H Q _ => ∃ (a R : Addr) (N : NetD) (n : Int), vs = [.ref a, .ref R] ∧ Purse H a n ∧ n ≤ 60000 ∧ NetAt H R N ∧ ∀ H', But a H H' → Purse H' a (n + 10000) → Q (.bl true) H'
end
end NK
/-! pieces told and judged, tried: what is known of pieces -/
namespace NK
open PySem PySem.Spec PyProof.Rows L2 He K1
/-! ### pieces -/
theorem pc_same {N : NetD} (F : NetF N) {x y : Str} (hx : x ∈ fr N) (h : y ∈ pc N x) : pc N y = pc N x :=
  asc_uniq ord_sl (reach_asc F _ _) (reach_asc F _ _) fun z => ⟨fun k => pc_trans hx h k, fun k => pc_trans (pc_fr hx h) (pc_symm hx h) k⟩
theorem fold_keep {N : NetD} {l : List Str} : ∀ (zs : List Str) (acc : List (List Str)), l ∈ acc → l ∈ zs.foldl (pstep N) acc
  | [], _, h => h
  | z :: zs, acc, h => fold_keep zs _ (by
      unfold pstep
      by_cases m : z ∈ acc.flatten
      · rw [if_pos m]
        exact h
      · rw [if_neg m]
        exact List.mem_append_left _ h)
theorem fold_has {N : NetD} (F : NetF N) {x : Str} : ∀ (zs : List Str) (acc : List (List Str)), Some_ N acc → (∀ z ∈ zs, z ∈ fr N) → x ∈ zs → pc N x ∈ zs.foldl (pstep N) acc
  | [], _, _, _, h => nomatch h
  | z :: zs, acc, sm, hz, h => by
    have hz0 := hz z List.mem_cons_self
    have sm' := sm.step hz0
    rcases List.mem_cons.mp h with rfl | h
    · refine fold_keep zs _ ?_
      unfold pstep
      by_cases m : x ∈ acc.flatten
      · rw [if_pos m]
        obtain ⟨l, hl, hx⟩ := List.mem_flatten.mp m
        obtain ⟨z', hz', rfl⟩ := sm l hl
        rw [pc_same F hz' hx]
        exact hl
      · rw [if_neg m]
        exact List.mem_append_right _ (List.mem_singleton.mpr rfl)
    · exact fold_has F zs _ sm' (fun y hy => hz y (List.mem_cons_of_mem _ hy)) h
theorem pcs_has {N : NetD} (F : NetF N) {x : Str} (hx : x ∈ fr N) : pc N x ∈ pcs N := fold_has F _ _ (fun l h => (nomatch h)) (fun _ h => h) hx
theorem pcs_lamp {N : NetD} (F : NetF N) {l : List Str} (hl : l ∈ pcs N) {x : Str} (hx : x ∈ l) : x ∈ fr N ∧ pc N x = l := by
  obtain ⟨z, hz, rfl⟩ := pcs_some N l hl
  exact ⟨pc_fr hz hx, pc_same F hz hx⟩
theorem pcs_ne {N : NetD} {l : List Str} (hl : l ∈ pcs N) : l ≠ [] := by
  obtain ⟨z, hz, rfl⟩ := pcs_some N l hl
  intro e
  have := pc_self hz
  rw [e] at this
  cases this
theorem pcs_asc {N : NetD} (F : NetF N) {l : List Str} (hl : l ∈ pcs N) : Asc sl l := by
  obtain ⟨z, hz, rfl⟩ := pcs_some N l hl
  exact reach_asc F _ _
/-- a list is a piece just if it is among the pieces -/
theorem isP_mem {N : NetD} (F : NetF N) {zs : List Str} (hb : ∀ z ∈ zs, z ∈ N.bs) : isP N zs = decide (zs ∈ pcs N) := by
  cases zs with
  | nil =>
    show false = _
    exact (decide_eq_false fun h => pcs_ne h rfl).symm
  | cons z r =>
    show (isF N z && decide (z :: r = pc N z)) = _
    rw [Bool.eq_iff_iff, Bool.and_eq_true, decide_eq_true_eq, decide_eq_true_eq]
    constructor
    · rintro ⟨h1, h2⟩
      rw [h2]
      exact pcs_has F (List.mem_filter.mpr ⟨hb z List.mem_cons_self, h1⟩)
    · intro h
      obtain ⟨h1, h2⟩ := pcs_lamp F h List.mem_cons_self
      exact ⟨(List.mem_filter.mp h1).2, h2.symm⟩
theorem pcs_len {N : NetD} (F : NetF N) {l : List Str} (hl : l ∈ pcs N) : l.length < 64 := by
  obtain ⟨z, hz, rfl⟩ := pcs_some N l hl
  exact Nat.lt_of_le_of_lt (pc_len N z) F.few
theorem pcs_in {N : NetD} (F : NetF N) {l : List Str} (hl : l ∈ pcs N) : ∀ x ∈ l, x ∈ N.bs := fun x hx => fr_in (pcs_lamp F hl hx).1
/-- one that begins like itself behind itself is none -/
theorem pcs_twice {N : NetD} (F : NetF N) {z : Str} {r : List Str} : (z :: r) ++ [z] ∉ pcs N := fun h => by
  have := asc_nodup ord_sl (pcs_asc F h)
  rw [List.nodup_append] at this
  exact this.2.2 z List.mem_cons_self z (List.mem_singleton.mpr rfl) rfl
theorem stuck_none {N : NetD} (F : NetF N) {x : Str} (h : x ∉ fr N) : [x] ∉ pcs N := fun k => h (pcs_lamp F k (List.mem_singleton.mpr rfl)).1
/-- how many pieces at most -/
theorem pcs_many {N : NetD} : (pcs N).length ≤ (fr N).length := by
  have go : ∀ (zs : List Str) (acc : List (List Str)), (zs.foldl (pstep N) acc).length ≤ acc.length + zs.length := by
    intro zs
    induction zs with
    | nil => exact fun acc => Nat.le_refl _
    | cons z zs ih =>
      intro acc
      have h := ih (pstep N acc z)
      have h2 : (pstep N acc z).length ≤ acc.length + 1 := by
        unfold pstep
        by_cases m : z ∈ acc.flatten
        · rw [if_pos m]
          omega
        · rw [if_neg m, List.length_append]
          exact Nat.le_refl _
      rw [List.foldl_cons, List.length_cons]
      omega
  have := go (fr N) []
  rw [List.length_nil, Nat.zero_add] at this
  exact this
/-! ### slices of texts -/
def cutG (zs : List Str) (lo hi : Option Int) : List Str := (zs.drop (HT.sIx zs.length 0 lo)).take (HT.sIx zs.length zs.length hi - HT.sIx zs.length 0 lo)
theorem cut_strs (zs : List Str) (lo hi : Option Int) : cutV (zs.map V.str) lo hi = (cutG zs lo hi).map V.str := by
  unfold cutV cutG
  rw [List.length_map, List.map_take, List.map_drop]
theorem cutG_in {zs : List Str} {lo hi : Option Int} {x : Str} (h : x ∈ cutG zs lo hi) : x ∈ zs := List.mem_of_mem_drop (List.mem_of_mem_take h)
theorem cutG_len (zs : List Str) (lo hi : Option Int) : (cutG zs lo hi).length ≤ zs.length := by
  unfold cutG
  rw [List.length_take, List.length_drop]
  omega
theorem cutG_one (z : Str) (r : List Str) : cutG (z :: r) none (some 1) = [z] := rfl
theorem cutG_len1 (zs : List Str) : (cutG zs none (some 1)).length ≤ 1 := by
  cases zs with
  | nil => exact Nat.zero_le _
  | cons z r => rw [cutG_one]; exact Nat.le_refl _
/-- the data of lists of texts -/
def llD (zss : List (List Str)) : List PyData := zss.map fun zs => .list (zs.map PyData.str)
theorem dp_lls {K : PySem.W.Frag} {H : Hp} : ∀ {ls : List (Addr × List Str)}, LsAt H ls → DpAll K H (lrefs ls) (llD (ls.map (·.2)))
  | [], _ => .nil
  | l :: ls, h => .cons (.lst (SqL.of (h l List.mem_cons_self)) (dp_strs _)) (dp_lls fun x hx => h x (List.mem_cons_of_mem _ hx))
theorem shaped_lls {zss : List (List Str)} (h : ∀ zs ∈ zss, ∀ z ∈ zs, Word z) : SeqAt.shaped (.list (llD zss)) = true := shaped_list (n := 1) (by decide) fun d hd => by
  obtain ⟨zs, hz, rfl⟩ := List.mem_map.mp hd
  refine ⟨lay_all fun d hd => ?_, ?_⟩
  · obtain ⟨z, hz', rfl⟩ := List.mem_map.mp hd
    exact word_ok (h zs hz z hz')
  · show PyData.depthAll _ + 1 ≤ 1
    have : PyData.depthAll (zs.map PyData.str) ≤ 0 := dep_all fun d hd => by
      obtain ⟨z, _, rfl⟩ := List.mem_map.mp hd
      exact Nat.le_refl 0
    omega
theorem any_lls (zss : List (List Str)) (zs : List Str) : ((llD zss).any fun z => PyData.eqv z (.list (zs.map PyData.str))) = decide (zs ∈ zss) := by
  rw [Bool.eq_iff_iff, List.any_eq_true, decide_eq_true_eq]
  constructor
  · rintro ⟨d, hd, e⟩
    obtain ⟨ys, hy, rfl⟩ := List.mem_map.mp hd
    rw [eqv_strs, decide_eq_true_eq] at e
    rw [← e]
    exact hy
  · intro h
    refine ⟨_, List.mem_map.mpr ⟨zs, h, rfl⟩, ?_⟩
    rw [eqv_strs]
    exact decide_eq_true rfl
/-- two lists of the same texts are alike -/
theorem al_strs {H : Hp} {n : Nat} {a b : Addr} {zs : List Str} (ha : H a = some (.lst (zs.map V.str))) (hb : H b = some (.lst (zs.map V.str))) (l : zs.length ≤ 5000) : Al H (n + 1) (.ref a) (.ref b) :=
  .inr (.inl ⟨a, b, _, _, rfl, rfl, by rw [List.length_map]; exact l, each_strs zs, .inl ⟨ha, hb⟩⟩)
end NK
/-! a lamp switched; pieces that are still -/
namespace NK
open PySem PySem.Spec PyProof.Rows L2 He K1
theorem flp_of {N : NetD} (F : NetF N) {zs ys : List Str} {x : Str} (st : IsSet N zs) (hx : x ∈ N.bs) (pm : ys.Perm ((zs.filter fun y => !decide (y ∈ [x])) ++ [x].filter fun y => !decide (y ∈ zs))) (so : sortedS ys = true) : ys = flp N zs x := by
  have zn := asc_nodup ord_sl st.asc
  have one : ys.Nodup := by
    refine pm.nodup_iff.mpr (List.nodup_append.mpr ⟨List.Pairwise.filter _ zn, List.Pairwise.filter _ (List.nodup_cons.mpr ⟨List.not_mem_nil, List.nodup_nil⟩), fun a ha b hb e => ?_⟩)
    subst e
    obtain ⟨_, h1⟩ := List.mem_filter.mp ha
    obtain ⟨h2, _⟩ := List.mem_filter.mp hb
    rw [decide_eq_true h2] at h1
    cases h1
  refine asc_uniq ord_sl (asc_sortedS one so) (List.Pairwise.filter _ F.asc) fun y => ?_
  rw [pm.mem_iff, List.mem_append, List.mem_filter, List.mem_filter]
  unfold flp xor1
  rw [List.mem_filter]
  by_cases h1 : y = x
  · subst h1
    by_cases h2 : y ∈ zs
    · simp [h2]
    · simp [h2, hx]
  · by_cases h2 : y ∈ zs
    · simp [h1, h2, st.mem y h2]
    · simp [h1, h2]
section
variable {P : Program} {w : World} {K : PySem.W.Frag} {mg : Str → Option Value} {base : Heap} {C W RW : Addr}
def spOther : Sp := fun vs H Q _ => ∃ (p q : Addr) (N : NetD) (zs : List Str) (x : Str), vs = [.ref p, .ref q] ∧ NetF N ∧ H p = some (.lst (zs.map V.str)) ∧ H q = some (.lst ([x].map V.str)) ∧ IsSet N zs ∧ x ∈ N.bs ∧ newL (flp N zs x) Q H
theorem ok_other {f : Addr} {fd : FuncData} (F : FnP K "_other_ones" s_other_ones f fd) (B : FreeN mg) : FnOk P w K mg base CX0 1 f fd ["setting", "lamps"] spOther := by
  refine fnP_ok F sc_other_ones (fun vs H Q E h => ?_) (fun cdv A outer s H vs Q E hr h => ?_)
  · obtain ⟨p, q, N, zs, x, rfl, _⟩ := h
    rfl
  · obtain ⟨p, q, N, zs, x, rfl, NF, ep, eq, st, hx, kk⟩ := h
    have nd := sc_other_ones.nd
    refine ⟨_, (pss_one (ps_ret (pe_callB (k_sortS (K := K) rfl) (by rfl) B.sorted (by decide +kernel) (pa_cons (pe_op op_cat (pe_lc (own := [("lamp", 2)]) (g := gName 2) rfl nd (k_pil (K := K) rfl (pv 0)) (blkOk_by (N := nm_other_ones) (sc := defScope s_other_ones) (by decide +kernel)) (fun _ _ _ _ _ => (pg_name (i := 2) nd rfl (Or.inl rfl))) (fun _ _ _ _ _ => (pts_one (pt_cmpR (k_notin (K := K) rfl) (pv 2) (pv 1) (by rfl)))) (fun _ _ _ _ _ => (pv 2))) (pe_lc (own := [("lamp", 2)]) (g := gName 2) rfl nd (k_pil (K := K) rfl (pv 1)) (blkOk_by (N := nm_other_ones) (sc := defScope s_other_ones) (by decide +kernel)) (fun _ _ _ _ _ => (pg_name (i := 2) nd rfl (Or.inl rfl))) (fun _ _ _ _ _ => (pts_one (pt_cmpR (k_notin (K := K) rfl) (pv 2) (pv 0) (by rfl)))) (fun _ _ _ _ _ => (pv 2)))) pa_nil)))), ?_⟩
    have lz := st.len NF
    have few := NF.few
    refine ⟨_, rfl, p, rfl, ⟨_, SqL.of ep⟩, fun D1 nD1 => ?_⟩
    refine lc_list (K := K) (a := p) (xs := zs.map V.str) (fun i H' => Same H H' ∧ H' D1 = some (.lst (((zs.take i).filter fun y => !decide (y ∈ [x])).map V.str))) ⟨same_new nD1, upd_same⟩ (fun i H' _ ⟨sm, _⟩ => SqL.of (sm _ _ ep)) ?_ ?_
    · rintro i y H' hy ⟨sm, eD⟩
      rw [List.getElem?_map] at hy
      cases ey : zs[i]? with
      | none =>
        rw [ey] at hy
        cases hy
      | some z =>
      rw [ey] at hy
      cases hy
      refine ⟨rfl, _, rfl, _, rfl, q, _, rfl, .inl (SqL.of (sm _ _ eq)), rfl, flat_strs [x], _, rfl, ?_⟩
      rw [inV_str, filt_snoc ey]
      refine ite2 (fun h => ?_) (fun h => ?_)
      · refine ⟨_, rfl, _, eD, room_filt (by omega) i, upd_same' sm nD1, ?_⟩
        rw [upd_same, if_pos (show (!decide (z ∈ [x])) = true from h), List.map_append]
        rfl
      · refine ⟨sm, ?_⟩
        rw [if_neg (show ¬ (!decide (z ∈ [x])) = true from h), List.append_nil]
        exact eD
    rintro H1 ⟨s1, eD1⟩
    rw [List.length_map, List.take_length] at eD1
    refine ⟨_, rfl, q, rfl, ⟨_, SqL.of (s1 _ _ eq)⟩, fun D2 nD2 => ?_⟩
    refine lc_list (K := K) (a := q) (xs := [x].map V.str) (fun i H' => Same H1 H' ∧ H' D2 = some (.lst ((([x].take i).filter fun y => !decide (y ∈ zs)).map V.str))) ⟨same_new nD2, upd_same⟩ (fun i H' _ ⟨sm, _⟩ => SqL.of (sm _ _ (s1 _ _ eq))) ?_ ?_
    · rintro i y H' hy ⟨sm, eD⟩
      rw [List.getElem?_map] at hy
      cases ey : [x][i]? with
      | none =>
        rw [ey] at hy
        cases hy
      | some z =>
      rw [ey] at hy
      cases hy
      refine ⟨rfl, _, rfl, _, rfl, p, _, rfl, .inl (SqL.of (sm _ _ (s1 _ _ ep))), rfl, flat_strs zs, _, rfl, ?_⟩
      rw [inV_str, filt_snoc ey]
      refine ite2 (fun h => ?_) (fun h => ?_)
      · refine ⟨_, rfl, _, eD, room_filt (by show 1 ≤ 1000; decide) i, upd_same' sm nD2, ?_⟩
        rw [upd_same, if_pos (show (!decide (z ∈ zs)) = true from h), List.map_append]
        rfl
      · refine ⟨sm, ?_⟩
        rw [if_neg (show ¬ (!decide (z ∈ zs)) = true from h), List.append_nil]
        exact eD
    rintro H2 ⟨s2, eD2⟩
    rw [List.length_map, List.take_length] at eD2
    have l1 : (zs.filter fun y => !decide (y ∈ [x])).length ≤ zs.length := List.length_filter_le _ _
    have l2 : ([x].filter fun y => !decide (y ∈ zs)).length ≤ 1 := List.length_filter_le _ _
    have lb : (flp N zs x).length ≤ N.bs.length := List.length_filter_le _ _
    refine ⟨D1, D2, _, _, rfl, rfl, s2 _ _ eD1, eD2, by rw [List.length_map, List.length_map, sizeLine_eq]; omega, fun D3 nD3 => ?_⟩
    rw [← List.map_append]
    refine ⟨D3, _, rfl, SqL.of upd_same, ?_, fun ys D pm so nD => ?_⟩
    · rw [List.length_append]
      by_cases hz : x ∈ zs
      · have : ([x].filter fun y => !decide (y ∈ zs)) = [] := by simp [hz]
        rw [this]
        show _ + 0 < 64
        omega
      · have : (N.bs.filter fun z => decide (z ∈ zs)).length < N.bs.length := List.length_filter_lt_length_iff_exists.mpr ⟨x, hx, by simp [hz]⟩
        rw [← st.eq NF] at this
        omega
    · have e := flp_of NF st hx pm so
      subst e
      have sa := same_new (o := .lst (((zs.filter fun y => !decide (y ∈ [x])) ++ [x].filter fun y => !decide (y ∈ zs)).map V.str)) nD3
      have s03 := (s1.trans s2).trans sa
      exact kk D _ (s03.free nD) upd_same (s03.trans (same_new nD))
def spSwitched (K : PySem.W.Frag) (C : Addr) : Sp := fun vs H Q _ => ∃ (a p : Addr) (N : NetD) (zs : List Str) (x : Str), vs = [.ref a, .ref p, .str x] ∧ Made C H a N ∧ NetF N ∧ H p = some (.lst (zs.map V.str)) ∧ IsSet N zs ∧ x ∈ N.bs ∧ rd N zs x = true ∧ newL (flp N zs x) Q H
theorem ok_switched {f : Addr} {fd : FuncData} (F : FnP K "switched" s_switched f fd) (B : FreeN mg) (G_need_setting : Has P w K mg base 4 "need_setting" ["net", "setting"] (spNeedSetting C)) (G_is_lamp : Has P w K mg base 1 "is_lamp" ["net", "value"] (spIsLampV K C)) (G_is_ready_by : Has P w K mg base 2 "is_ready_by" ["net", "lit", "lamp"] (spReady C)) (G__other_ones : Has P w K mg base 1 "_other_ones" ["setting", "lamps"] spOther) : FnOk P w K mg base CX0 5 f fd ["net", "setting", "lamp"] (spSwitched K C) := by
  refine fnP_ok F sc_switched (fun vs H Q E h => ?_) (fun cdv A outer s H vs Q E hr h => ?_)
  · obtain ⟨a, p, N, zs, x, rfl, _⟩ := h
    rfl
  · obtain ⟨a, p, N, zs, x, rfl, m, NF, ep, st, hx, hrd, kk⟩ := h
    have nd := sc_switched.nd
    refine ⟨_, (pss_cons (ps_expr (pe_has G_need_setting (hr.mono (by decide)) (pa_cons (pv 0) (pa_cons (pv 1) pa_nil))))
      (pss_cons (ps_if (pt_not (PW.pt (pw_and (pt_val (pe_has G_is_lamp (hr.mono (by decide)) (pa_cons (pv 0) (pa_cons (pv 2) pa_nil)))) (pw_and1 (pt_val (pe_has G_is_ready_by (hr.mono (by decide)) (pa_cons (pv 0) (pa_cons (pv 1) (pa_cons (pv 2) pa_nil))))))))) (pss_one ps_never) pss_nil)
      (pss_one (ps_ret (pe_has G__other_ones (hr.mono (by decide)) (pa_cons (pv 1) (pa_cons (pe_lst (pa_cons (pv 2) pa_nil)) pa_nil))))))), ?_⟩
    have lz := st.len NF
    have few := NF.few
    refine ⟨_, rfl, _, rfl, a, p, N, zs, rfl, m, NF, ep, st, fun H1 s1 => ?_⟩
    refine ⟨_, rfl, _, rfl, a, N, _, rfl, m.same s1, .inl ⟨x, rfl⟩, _, rfl, ?_⟩
    have : lampB N (.str x) = true := decide_eq_true hx
    rw [this]
    refine ifT ⟨_, rfl, _, rfl, _, rfl, a, p, N, zs, x, rfl, (m.same s1).read, NF, s1 _ _ ep, by omega, hx, fun H2 s2 => ⟨_, rfl, ?_⟩⟩
    rw [hrd]
    refine ifF ?_
    refine ⟨_, rfl, _, rfl, by show 1 ≤ sizeLine; decide, fun q nq => ?_⟩
    have sq := same_new (o := .lst ([x].map V.str)) nq
    have s0q := (s1.trans s2).trans sq
    exact ⟨p, q, N, zs, x, rfl, NF, s0q _ _ ep, upd_same, st, hx, fun D H3 nD eD s3 => kk D H3 (s0q.free nD) eD (s0q.trans s3)⟩
noncomputable def stl (N : NetD) (zs : List Str) : List (List Str) := (pcs N).filter fun pc => !pc.any (rd N zs)
def spStill (C : Addr) : Sp := fun vs H Q _ => ∃ (a p : Addr) (N : NetD) (zs : List Str), vs = [.ref a, .ref p] ∧ Made C H a N ∧ NetF N ∧ H p = some (.lst (zs.map V.str)) ∧ IsSet N zs ∧ newLL (stl N zs) Q H
theorem ok_still {f : Addr} {fd : FuncData} (F : FnP K "still_pieces" s_still_pieces f fd) (B : FreeN mg) (G_need_setting : Has P w K mg base 4 "need_setting" ["net", "setting"] (spNeedSetting C)) (G_pieces : Has P w K mg base 4 "pieces" ["net"] (spPieces C)) (G_is_ready_by : Has P w K mg base 2 "is_ready_by" ["net", "lit", "lamp"] (spReady C)) : FnOk P w K mg base CX0 5 f fd ["net", "setting"] (spStill C) := by
  refine fnP_ok F sc_still_pieces (fun vs H Q E h => ?_) (fun cdv A outer s H vs Q E hr h => ?_)
  · obtain ⟨a, p, N, zs, rfl, _⟩ := h
    rfl
  · obtain ⟨a, p, N, zs, rfl, m, NF, ep, st, kk⟩ := h
    have nd := sc_still_pieces.nd
    refine ⟨_, (pss_cons (ps_expr (pe_has G_need_setting (hr.mono (by decide)) (pa_cons (pv 0) (pa_cons (pv 1) pa_nil))))
      (pss_one (ps_ret (pe_lc (own := [("piece", 2)]) (g := gName 2) rfl nd (k_pil (K := K) rfl (pe_has G_pieces (hr.mono (by decide)) (pa_cons (pv 0) pa_nil))) (blkOk_by (N := nm_still_pieces) (sc := defScope s_still_pieces) (by decide +kernel)) (fun _ _ _ _ _ => (pg_name (i := 2) nd rfl (Or.inl rfl))) (fun _ _ _ _ _ => (pts_one (pt_not (pt_val (pe_callB (k_any (K := K) rfl rfl) (by rfl) B.any (by decide +kernel) (pa_cons (pe_lc (own := [("lamp", 3)]) (g := gName 3) (tt := tYes) rfl nd (k_pil (K := K) rfl (pv 2)) (blk_in (blkOk_by (N := nm_still_pieces) (sc := ({ kind := ScopeKind.function, names := [(".0", NameKind.local), ("piece", NameKind.local), ("any", NameKind.globalImplicit), ("net", NameKind.free), ("setting", NameKind.free)], isGenerator := false, isCoroutine := false } : Scope)) (by decide +kernel))) (fun _ _ _ _ _ => (pg_name (i := 3) nd rfl (Or.inl rfl))) (fun _ _ _ _ _ => pts_nil) (fun _ _ _ _ _ => (pe_has G_is_ready_by (hr.mono (by decide)) (pa_cons (pv 0) (pa_cons (pv 1) (pa_cons (pv 3) pa_nil)))))) pa_nil)))))) (fun _ _ _ _ _ => (pv 2)))))), ?_⟩
    have lz := st.len NF
    have few := NF.few
    refine ⟨_, rfl, _, rfl, a, p, N, zs, rfl, m, NF, ep, st, fun H1 s1 => ?_⟩
    refine ⟨_, rfl, a, N, rfl, m.same s1, NF, fun L H2 ls nL eL els la na s2 => ?_⟩
    have s02 := s1.trans s2
    refine ⟨L, rfl, ⟨_, SqL.of eL⟩, fun D nD => ?_⟩
    have lls : ls.length ≤ 1000 := by
      have h1 := congrArg List.length els
      rw [List.length_map] at h1
      have h2 := pcs_many (N := N)
      have h3 := fr_len N
      omega
    have lin : ∀ l ∈ ls, l.2 ∈ pcs N := fun l hl => by
      rw [← els]
      exact List.mem_map.mpr ⟨l, hl, rfl⟩
    refine lc_list (K := K) (a := L) (xs := lrefs ls) (fun i H' => Same H2 H' ∧ H' D = some (.lst (lrefs ((ls.take i).filter fun l => !l.2.any (rd N zs))))) ⟨same_new nD, upd_same⟩ (fun i H' _ ⟨sm, _⟩ => SqL.of (sm _ _ eL)) ?_ ?_
    · rintro i y H' hy ⟨sm, eD⟩
      unfold lrefs at hy
      rw [List.getElem?_map] at hy
      cases ey : ls[i]? with
      | none =>
        rw [ey] at hy
        cases hy
      | some l =>
      rw [ey] at hy
      cases hy
      have hl := List.mem_of_getElem? ey
      have hi := (List.getElem?_eq_some_iff.mp ey).1
      have el := sm _ _ (la l hl)
      have ll := pcs_len NF (lin l hl)
      refine ⟨rfl, ?_⟩
      refine ⟨_, rfl, l.1, rfl, ⟨_, SqL.of el⟩, fun D2 nD2 => ?_⟩
      refine lc_list (K := K) (a := l.1) (xs := l.2.map V.str) (fun j H'' => Same H' H'' ∧ H'' D2 = some (.lst (((l.2.take j).map (rd N zs)).map V.bl))) ⟨same_new nD2, upd_same⟩ (fun j H'' _ ⟨sm2, _⟩ => SqL.of (sm2 _ _ el)) ?_ ?_
      · rintro j u H'' hu ⟨sm2, eD2⟩
        rw [List.getElem?_map] at hu
        cases eu : l.2[j]? with
        | none =>
          rw [eu] at hu
          cases hu
        | some z =>
        rw [eu] at hu
        cases hu
        have s0 := (s02.trans sm).trans sm2
        have hj := (List.getElem?_eq_some_iff.mp eu).1
        refine ⟨rfl, _, rfl, _, rfl, _, rfl, a, p, N, zs, z, rfl, (m.same s0).read, NF, s0 _ _ ep, by omega, pcs_in NF (lin l hl) z (List.mem_of_getElem? eu), fun H3 s3 => ?_⟩
        refine ⟨_, s3 _ _ eD2, by rw [List.length_map, List.length_map, List.length_take]; exact room_str _ (by omega), upd_same' (sm2.trans s3) nD2, ?_⟩
        rw [upd_same, List.take_add_one, eu, List.map_append, List.map_append]
        rfl
      rintro H3 ⟨s3, eD2⟩
      rw [List.length_map, List.take_length] at eD2
      refine ⟨D2, _, rfl, SqL.of eD2, _, rfl, ?_⟩
      have ea : (l.2.map (rd N zs)).any id = l.2.any (rd N zs) := by rw [List.any_map]; rfl
      rw [ea, filt_snoc ey]
      refine ite2 (fun h => ?_) (fun h => ?_)
      · refine ⟨_, rfl, _, s3 _ _ eD, ?_, upd_same' (sm.trans s3) nD, ?_⟩
        · unfold lrefs
          rw [List.length_map]
          have h1 := List.length_filter_le (fun l : Addr × List Str => !l.2.any (rd N zs)) (ls.take i)
          rw [List.length_take] at h1
          exact room_str _ (by omega)
        · rw [upd_same, if_pos h]
          unfold lrefs
          rw [List.map_append]
          rfl
      · refine ⟨sm.trans s3, ?_⟩
        rw [if_neg h, List.append_nil]
        exact s3 _ _ eD
    · rintro H' ⟨sm, eD⟩
      have : (lrefs ls).length = ls.length := by unfold lrefs; rw [List.length_map]
      rw [this, List.take_length] at eD
      refine kk D H' _ (s02.free nD) eD ?_ (fun l hl => sm _ _ (la l (List.mem_filter.mp hl).1)) (fun l hl => s1.free (na l (List.mem_filter.mp hl).1)) (s02.trans sm)
      unfold stl
      rw [← els, List.filter_map]
      rfl
end
end NK
/-! the law's own reading of settings -/
namespace NK
open PySem PySem.Spec PyProof.Rows L2 He K1
theorem op_mul_str {X : Cx} : OpR X (binaryOp .Mult) (fun x y H Q => ∃ z : Str, x = .str z ∧ y = .int 8 ∧ z.length ≤ 100 ∧ Q (.str (Txt.mul z 8)) H) := by
  intro pins s σ H x y v u Q I rx ry h
  obtain ⟨z, rfl, rfl, hz, q⟩ := h
  obtain ⟨t, rfl⟩ := rx
  obtain ⟨t', rfl⟩ := ry
  exact SB.mul (mulOk_of 100 8 hz (by decide) (by decide) (by decide) (by decide)) fun t'' k => ⟨.str (Txt.mul z 8), H, I.tok _, ⟨_, rfl⟩, q⟩
def eights : List Str := abcL.map fun z => Txt.mul z 8
theorem eights_nodup : eights.Nodup := by decide +kernel
theorem eights_len : eights.length = 26 := by decide +kernel
theorem eights_word : ∀ z ∈ eights, Word z := by
  have h : ∀ z ∈ eights, 1 ≤ z.cps.size ∧ z.cps.size ≤ 8 ∧ ∀ c ∈ z.cps.toList, 97 ≤ c ∧ c ≤ 122 := by decide +kernel
  exact h
theorem spare_eight {zs : List Str} (h : zs.length < 26) : ∃ z r, (eights.filter fun x => !decide (x ∈ zs)) = z :: r ∧ Word z ∧ z ∉ zs := by
  cases e : eights.filter fun x => !decide (x ∈ zs) with
  | nil =>
    exfalso
    have := nodup_few eights zs eights_nodup fun x hx => by
      have q := List.filter_eq_nil_iff.mp e x hx
      simpa using q
    rw [eights_len] at this
    omega
  | cons z r =>
    have m : z ∈ eights.filter fun x => !decide (x ∈ zs) := by rw [e]; exact List.mem_cons_self
    obtain ⟨m1, m2⟩ := List.mem_filter.mp m
    exact ⟨z, r, rfl, eights_word z m1, by simpa using m2⟩
section
variable {P : Program} {w : World} {K : PySem.W.Frag} {mg : Str → Option Value} {base : Heap} {C W RW : Addr}
def spFar : Sp := fun vs H Q _ => ∃ (p : Addr) (zs : List Str), vs = [.ref p] ∧ H p = some (.lst (zs.map V.str)) ∧ zs.length < 26 ∧ ∀ (z : Str) (H' : Hp), Word z → z ∉ zs → Same H H' → Q (.str z) H'
theorem ok_far {f : Addr} {fd : FuncData} (F : FnP K "_law_far" s_l_far f fd) (B : FreeN mg) : FnOk P w K mg base CX0 1 f fd ["_law_words_here"] spFar := by
  refine fnP_ok F sc_l_far (fun vs H Q E h => ?_) (fun cdv A outer s H vs Q E hr h => ?_)
  · obtain ⟨p, zs, rfl, _⟩ := h
    rfl
  · obtain ⟨p, zs, rfl, ep, few, kk⟩ := h
    have nd := sc_l_far.nd
    refine ⟨_, (pss_one (ps_ret (pe_ix (k_ixl (K := K) rfl) (pe_lc (own := [("_law_letter", 1)]) (g := gName 1) rfl nd (k_pil (K := K) rfl (pe_callTy (call_listS rfl) (by rfl) B.list (by decide +kernel) (pa_cons pe_str pa_nil))) (blkOk_by (N := nm_l_far) (sc := defScope s_l_far) (by decide +kernel)) (fun _ _ _ _ _ => (pg_name (i := 1) nd rfl (Or.inl rfl))) (fun _ _ _ _ _ => (pts_one (pt_cmpR (k_notin (K := K) rfl) (pe_op op_mul_str (pv 1) pe_int) (pv 0) (by rfl)))) (fun _ _ _ _ _ => (pe_op op_mul_str (pv 1) pe_int))) pe_int (fun _ _ => rfl)))), ?_⟩
    refine ⟨_, rfl, by show 26 ≤ sizeLine; decide, fun L nL => ?_⟩
    have sL : Same H (upd H L (.lst (abcL.map V.str))) := same_new nL
    have eL : upd H L (.lst (abcL.map V.str)) L = some (.lst (abcL.map V.str)) := upd_same
    refine ⟨L, rfl, ⟨_, SqL.of upd_same⟩, fun D nD => ?_⟩
    refine lc_list (K := K) (a := L) (xs := abcL.map V.str) (fun i H' => Same (upd H L (.lst (abcL.map V.str))) H' ∧ H' D = some (.lst (((eights.take i).filter fun y => !decide (y ∈ zs)).map V.str))) ⟨same_new nD, upd_same⟩ (fun i H' _ ⟨sm, _⟩ => SqL.of (sm _ _ eL)) ?_ ?_
    · rintro i x H' hx ⟨sm, eD⟩
      rw [List.getElem?_map] at hx
      cases ex : abcL[i]? with
      | none =>
        rw [ex] at hx
        cases hx
      | some y =>
      rw [ex] at hx
      cases hx
      have e8 : eights[i]? = some (Txt.mul y 8) := by
        unfold eights
        rw [List.getElem?_map, ex]
        rfl
      have ly : y.length ≤ 100 := Nat.le_trans (abcL_word y (List.mem_of_getElem? ex)).2.1 (by decide)
      refine ⟨rfl, _, rfl, y, rfl, rfl, ly, _, rfl, p, _, rfl, .inl (SqL.of (sm _ _ (sL _ _ ep))), rfl, flat_strs zs, _, rfl, ?_⟩
      rw [inV_str, filt_snoc e8]
      refine ite2 (fun h => ?_) (fun h => ?_)
      · refine ⟨_, rfl, y, rfl, rfl, ly, _, eD, room_filt (by rw [eights_len]; decide) i, upd_same' sm nD, ?_⟩
        rw [upd_same, if_pos (show (!decide (Txt.mul y 8 ∈ zs)) = true from h), List.map_append]
        rfl
      · refine ⟨sm, ?_⟩
        rw [if_neg (show ¬ (!decide (Txt.mul y 8 ∈ zs)) = true from h), List.append_nil]
        exact eD
    · rintro H' ⟨sm, eD⟩
      obtain ⟨z, r, ef, hz, nz⟩ := spare_eight few
      rw [List.length_map, abcL_len, ← eights_len, List.take_length, ef] at eD
      exact ⟨D, _, 0, .str z, rfl, rfl, SqL.of eD, at0 _ _, kk z H' hz nz (sL.trans sm)⟩
/-- the law's own readiness -/
def spLIsReady : Sp := fun vs H Q _ => ∃ (R D p : Addr) (N : NetD) (zs : List Str) (x : Str), vs = [.ref R, .ref D, .ref p, .str x] ∧ NetAt H R N ∧ NearL H D N ∧ H p = some (.lst (zs.map V.str)) ∧ x ∈ N.bs ∧ tells (rd N zs x) Q H
theorem ok_l_is_ready {f : Addr} {fd : FuncData} (F : FnP K "_law_is_ready" s_l_is_ready f fd) (B : FreeN mg) : FnOk P w K mg base CX0 1 f fd ["_law_net_here", "_law_near_here", "_law_setting_here", "_law_lamp"] spLIsReady := by
  refine fnP_ok F sc_l_is_ready (fun vs H Q E h => ?_) (fun cdv A outer s H vs Q E hr h => ?_)
  · obtain ⟨R, D, p, N, zs, x, rfl, _⟩ := h
    rfl
  · obtain ⟨R, D, p, N, zs, x, rfl, na, near, ep, hx, kk⟩ := h
    have nd := sc_l_is_ready.nd
    have hu1 := room1 hr
    refine ⟨_, (pss_cons (ps_set (i := 4) nd rfl (.inl rfl) (pe_callB (k_len (K := K) rfl) (by rfl) B.len (by decide +kernel) (pa_cons (pe_lc (own := [("_law_other", 5)]) (g := gName 5) rfl nd (k_pil (K := K) rfl (pe_dget hu1 (pv 1) (pv 3) (fun _ _ => rfl))) (blkOk_by (N := nm_l_is_ready) (sc := defScope s_l_is_ready) (by decide +kernel)) (fun _ _ _ _ _ => (pg_name (i := 5) nd rfl (Or.inl rfl))) (fun _ _ _ _ _ => (pts_one (pt_cmpR (k_in (K := K) rfl) (pv 5) (pv 2) (by rfl)))) (fun _ _ _ _ _ => (pv 5))) pa_nil)))
      (pss_one (ps_ret (pe_cmpR op_eq (pe_dget hu1 (pe_ix (k_ixl (K := K) rfl) (pv 0) pe_int (fun _ _ => rfl)) (pv 3) (fun _ _ => rfl)) (pe_ix (k_ixl (K := K) rfl) (pe_lst (pa_cons pe_str (pa_cons pe_str pa_nil))) (pe_op op_mod (pe_callTy call_int1 (by rfl) B.int (by decide +kernel) (pa_cons (pv 4) pa_nil)) pe_int) (fun _ _ => rfl)) (nomark _))))), ?_⟩
    have NF := na.ok.toF
    obtain ⟨b, t, w0, qs, a1, a2, a3, a4, a5, a6⟩ := na.ex
    obtain ⟨lt, e1, e2, e3⟩ := near.ex
    have hx' := hx
    rw [← e2] at hx'
    obtain ⟨e, he, ex⟩ := List.mem_map.mp hx'
    have va : valV (tabR lt) (Sum.inr x) = some (V.ref e.2) := by
      rw [← ex]
      exact tabR_at (by rw [e2]; exact asc_nodup ord_sl NF.asc) he
    have te := e3 e he
    rw [ex] at te
    have lnb : (nb N x).length ≤ 1000 := by
      have h1 : (nb N x).length ≤ N.bs.length := List.length_filter_le _ _
      have := NF.few
      omega
    refine ⟨_, rfl, _, rfl, D, _, rfl, .inl ⟨tabR lt, .inr x, .inl e1, rfl, va.symm⟩, ?_⟩
    refine ⟨e.2, rfl, ⟨_, SqL.of te⟩, fun G nG => ?_⟩
    refine lc_list (K := K) (a := e.2) (xs := (nb N x).map V.str) (fun i H' => Same H H' ∧ H' G = some (.lst ((((nb N x).take i).filter fun y => decide (y ∈ zs)).map V.str))) ⟨same_new nG, upd_same⟩ (fun i H' _ ⟨sm, _⟩ => SqL.of (sm _ _ te)) ?_ ?_
    · rintro i y H' hy ⟨sm, eD⟩
      rw [List.getElem?_map] at hy
      cases ey : (nb N x)[i]? with
      | none =>
        rw [ey] at hy
        cases hy
      | some z =>
      rw [ey] at hy
      cases hy
      refine ⟨rfl, _, rfl, _, rfl, p, _, rfl, .inl (SqL.of (sm _ _ ep)), rfl, flat_strs zs, _, rfl, ?_⟩
      rw [inV_str, filt_snoc ey]
      refine ite2 (fun h => ?_) (fun h => ?_)
      · refine ⟨_, rfl, _, eD, room_filt lnb i, upd_same' sm nG, ?_⟩
        rw [upd_same, if_pos (show decide (z ∈ zs) = true from h), List.map_append]
        rfl
      · refine ⟨sm, ?_⟩
        rw [if_neg (show ¬ decide (z ∈ zs) = true from h), List.append_nil]
        exact eD
    · rintro H' ⟨sm, eD⟩
      rw [List.length_map, List.take_length] at eD
      have ew : H' w0 = some (.dK (wtab N.bs N.wf)) := sm _ _ a6
      refine ⟨G, _, rfl, .inl (SqL.of eD), ?_⟩
      refine ⟨_, rfl, R, _, 2, .ref w0, rfl, rfl, SqL.of (sm _ _ a1), rfl, _, rfl, w0, _, rfl, .inl ⟨_, .inr x, .inl ew, rfl, (wtab_at hx).symm⟩, ?_⟩
      refine ⟨by show 2 ≤ sizeLine; decide, fun q nq => ⟨_, rfl, .inl ⟨_, rfl, _, 2, rfl, rfl, show (0 : Int) < 2 by decide, q, [.str "even", .str "odd"], _, .str (rdw (litN N zs x).length), rfl, rfl, SqL.of upd_same, ?_, rfl, ?_⟩⟩⟩
      · rw [List.length_map]
        exact rdw_at _
      · rw [dec_vstr]
        exact kk _ (sm.trans (same_new nq))
def spLReady : Sp := fun vs H Q _ => ∃ (R p : Addr) (N : NetD) (zs : List Str), vs = [.ref R, .ref p] ∧ NetAt H R N ∧ H p = some (.lst (zs.map V.str)) ∧ newL (N.bs.filter (rd N zs)) Q H
theorem ok_l_ready {f : Addr} {fd : FuncData} (F : FnP K "_law_ready" s_l_ready f fd) (B : FreeN mg) (G__law_near : Has P w K mg base 1 "_law_near" ["_law_net_here"] spLNear) (G__law_is_ready : Has P w K mg base 1 "_law_is_ready" ["_law_net_here", "_law_near_here", "_law_setting_here", "_law_lamp"] spLIsReady) : FnOk P w K mg base CX0 2 f fd ["_law_net_here", "_law_setting_here"] spLReady := by
  refine fnP_ok F sc_l_ready (fun vs H Q E h => ?_) (fun cdv A outer s H vs Q E hr h => ?_)
  · obtain ⟨R, p, N, zs, rfl, _⟩ := h
    rfl
  · obtain ⟨R, p, N, zs, rfl, na, ep, kk⟩ := h
    have nd := sc_l_ready.nd
    refine ⟨_, (pss_cons (ps_set (i := 2) nd rfl (.inr rfl) (pe_has G__law_near (hr.mono (by decide)) (pa_cons (pv 0) pa_nil)))
      (pss_one (ps_ret (pe_lc (own := [("_law_lamp", 3)]) (g := gName 3) rfl nd (k_pil (K := K) rfl (pe_ix (k_ixl (K := K) rfl) (pv 0) pe_int (fun _ _ => rfl))) (blkOk_by (N := nm_l_ready) (sc := defScope s_l_ready) (by decide +kernel)) (fun _ _ _ _ _ => (pg_name (i := 3) nd rfl (Or.inl rfl))) (fun _ _ _ _ _ => (pts_one (pt_val (pe_has G__law_is_ready (hr.mono (by decide)) (pa_cons (pv 0) (pa_cons (pv 2) (pa_cons (pv 1) (pa_cons (pv 3) pa_nil)))))))) (fun _ _ _ _ _ => (pv 3)))))), ?_⟩
    have few := na.ok.toF.few
    refine ⟨_, rfl, R, N, rfl, na, fun D H1 nD near s1 _ => ?_⟩
    have na1 := na.same s1
    obtain ⟨b, t, w0, qs, a1, a2, a3, a4, a5, a6⟩ := na1.ex
    refine ⟨_, rfl, R, _, 0, .ref b, rfl, rfl, SqL.of a1, rfl, b, rfl, ⟨_, SqL.of a2⟩, fun G nG => ?_⟩
    refine lc_list (K := K) (a := b) (xs := N.bs.map V.str) (fun i H' => Same H1 H' ∧ H' G = some (.lst (((N.bs.take i).filter (rd N zs)).map V.str))) ⟨same_new nG, upd_same⟩ (fun i H' _ ⟨sm, _⟩ => SqL.of (sm _ _ a2)) ?_ ?_
    · rintro i y H' hy ⟨sm, eD⟩
      rw [List.getElem?_map] at hy
      cases ey : N.bs[i]? with
      | none =>
        rw [ey] at hy
        cases hy
      | some z =>
      rw [ey] at hy
      cases hy
      refine ⟨rfl, _, rfl, _, rfl, _, rfl, _, rfl, R, D, p, N, zs, z, rfl, na1.same sm, near.same sm, sm _ _ (s1 _ _ ep), List.mem_of_getElem? ey, fun H2 s2 => ⟨_, rfl, ?_⟩⟩
      rw [filt_snoc ey]
      have eD2 := s2 _ _ eD
      refine ite2 (fun h => ?_) (fun h => ?_)
      · refine ⟨_, rfl, _, eD2, room_filt (by omega) i, upd_same' (sm.trans s2) nG, ?_⟩
        rw [upd_same, if_pos h, List.map_append]
        rfl
      · refine ⟨sm.trans s2, ?_⟩
        rw [if_neg h, List.append_nil]
        exact eD2
    · rintro H' ⟨sm, eD⟩
      rw [List.length_map, List.take_length] at eD
      exact kk G H' (s1.free nG) eD (s1.trans sm)
def spLFlip : Sp := fun vs H Q _ => ∃ (p : Addr) (N : NetD) (zs : List Str) (x : Str), vs = [.ref p, .str x] ∧ NetF N ∧ H p = some (.lst (zs.map V.str)) ∧ IsSet N zs ∧ x ∈ N.bs ∧ newL (flp N zs x) Q H
theorem ok_flip {f : Addr} {fd : FuncData} (F : FnP K "_law_flip" s_l_flip f fd) (B : FreeN mg) : FnOk P w K mg base CX0 1 f fd ["_law_setting_here", "_law_lamp"] spLFlip := by
  refine fnP_ok F sc_l_flip (fun vs H Q E h => ?_) (fun cdv A outer s H vs Q E hr h => ?_)
  · obtain ⟨p, N, zs, x, rfl, _⟩ := h
    rfl
  · obtain ⟨p, N, zs, x, rfl, NF, ep, st, hx, kk⟩ := h
    have nd := sc_l_flip.nd
    refine ⟨_, (pss_one (ps_ret (pe_ifExp (pt_cmpR (k_in (K := K) rfl) (pv 1) (pv 0) (by rfl)) (pe_lc (own := [("_law_other", 2)]) (g := gName 2) rfl nd (k_pil (K := K) rfl (pv 0)) (blkOk_by (N := nm_l_flip) (sc := defScope s_l_flip) (by decide +kernel)) (fun _ _ _ _ _ => (pg_name (i := 2) nd rfl (Or.inl rfl))) (fun _ _ _ _ _ => (pts_one (pt_cmpR op_ne (pv 2) (pv 1) (nomark _)))) (fun _ _ _ _ _ => (pv 2))) (pe_callB (k_sortS (K := K) rfl) (by rfl) B.sorted (by decide +kernel) (pa_cons (pe_op op_cat (pv 0) (pe_lst (pa_cons (pv 1) pa_nil))) pa_nil))))), ?_⟩
    have lz := st.len NF
    have few := NF.few
    refine ⟨_, rfl, _, rfl, p, _, rfl, .inl (SqL.of ep), rfl, flat_strs zs, _, rfl, ?_⟩
    rw [inV_str]
    refine ite2 (fun h => ?_) (fun h => ?_)
    · have hz : x ∈ zs := of_decide_eq_true h
      refine ⟨_, rfl, p, rfl, ⟨_, SqL.of ep⟩, fun G nG => ?_⟩
      refine lc_list (K := K) (a := p) (xs := zs.map V.str) (fun i H' => Same H H' ∧ H' G = some (.lst (((zs.take i).filter fun y => !decide (y = x)).map V.str))) ⟨same_new nG, upd_same⟩ (fun i H' _ ⟨sm, _⟩ => SqL.of (sm _ _ ep)) ?_ ?_
      · rintro i y H' hy ⟨sm, eD⟩
        rw [List.getElem?_map] at hy
        cases ey : zs[i]? with
        | none =>
          rw [ey] at hy
          cases hy
        | some z =>
        rw [ey] at hy
        cases hy
        refine ⟨rfl, _, rfl, _, rfl, rfl, _, rfl, ?_⟩
        rw [dec_vstr, filt_snoc ey]
        refine ite2 (fun h => ?_) (fun h => ?_)
        · refine ⟨_, rfl, _, eD, room_filt (by omega) i, upd_same' sm nG, ?_⟩
          rw [upd_same, if_pos h, List.map_append]
          rfl
        · refine ⟨sm, ?_⟩
          rw [if_neg h, List.append_nil]
          exact eD
      · rintro H' ⟨sm, eD⟩
        rw [List.length_map, List.take_length] at eD
        have : (zs.filter fun y => !decide (y = x)) = flp N zs x := asc_uniq ord_sl (List.Pairwise.filter _ st.asc) (List.Pairwise.filter _ NF.asc) fun y => by
          unfold flp xor1
          rw [List.mem_filter, List.mem_filter]
          by_cases h1 : y = x
          · subst h1
            simp [hz]
          · by_cases h2 : y ∈ zs
            · simp [h1, h2, st.mem y h2]
            · simp [h1, h2]
        rw [this] at eD
        exact kk G H' nG eD sm
    · have hz : x ∉ zs := of_decide_eq_false (by simpa using h)
      have e1 : (zs.filter fun y => !decide (y ∈ [x])) = zs := List.filter_eq_self.mpr fun y hy => by
        have : y ≠ x := fun e => hz (e ▸ hy)
        simp [this]
      have e2 : ([x].filter fun y => !decide (y ∈ zs)) = [x] := by simp [hz]
      have lt : zs.length < N.bs.length := by
        have : (N.bs.filter fun z => decide (z ∈ zs)).length < N.bs.length := List.length_filter_lt_length_iff_exists.mpr ⟨x, hx, by simp [hz]⟩
        rwa [← st.eq NF] at this
      refine ⟨_, rfl, _, rfl, by show 1 ≤ sizeLine; decide, fun q1 nq1 => ?_⟩
      have s1 := same_new (o := .lst [V.str x]) nq1
      refine ⟨p, q1, _, _, rfl, rfl, s1 _ _ ep, upd_same, by rw [List.length_map, sizeLine_eq]; show _ + 1 ≤ _; omega, fun q2 nq2 => ?_⟩
      have s2 := s1.trans (same_new (o := .lst (zs.map V.str ++ [V.str x])) nq2)
      refine ⟨q2, zs ++ [x], rfl, SqL.of (by rw [upd_same, List.map_append]; rfl), by rw [List.length_append]; show _ + 1 < 64; omega, fun ys D pm so nD => ?_⟩
      have e := flp_of NF st hx (by rw [e1, e2]; exact pm) so
      subst e
      exact kk D _ (s2.free nD) upd_same (s2.trans (same_new nD))
def spLSetting : Sp := fun vs H Q _ => ∃ (a R : Addr) (N : NetD) (n : Int), vs = [.ref a, .ref R] ∧ Purse H a n ∧ n ≤ 90000 ∧ NetAt H R N ∧ ∀ (D : Addr) (zs : List Str) (H' : Hp), IsSet N zs → H D = none → H' D = some (.lst (zs.map V.str)) → Purse H' a (n + 50) → But a H H' → Q (.ref D) H'
theorem ok_l_setting {f : Addr} {fd : FuncData} (F : FnP K "_law_setting" s_l_setting f fd) (B : FreeN mg) (G__law_draw : Has P w K mg base 2 "_law_draw" ["_law_purse_here", "_law_many"] spDraw) : FnOk P w K mg base CX0 3 f fd ["_law_purse_here", "_law_net_here"] spLSetting := by
  refine fnP_ok F sc_l_setting (fun vs H Q E h => ?_) (fun cdv A outer s H vs Q E hr h => ?_)
  · obtain ⟨a, R, N, n, rfl, _⟩ := h
    rfl
  · obtain ⟨a, R, N, n, rfl, pu, n1, na, kk⟩ := h
    have nd := sc_l_setting.nd
    refine ⟨_, (pss_one (ps_ret (pe_lc (own := [("_law_lamp", 2)]) (g := gName 2) rfl nd (k_pil (K := K) rfl (pe_ix (k_ixl (K := K) rfl) (pv 1) pe_int (fun _ _ => rfl))) (blkOk_by (N := nm_l_setting) (sc := defScope s_l_setting) (by decide +kernel)) (fun _ _ _ _ _ => (pg_name (i := 2) nd rfl (Or.inl rfl))) (fun _ _ _ _ _ => (pts_one (pt_cmpR op_eq (pe_has G__law_draw (hr.mono (by decide)) (pa_cons (pv 0) (pa_cons pe_int pa_nil))) pe_int (nomark _)))) (fun _ _ _ _ _ => (pv 2))))), ?_⟩
    have NF := na.ok.toF
    have le := na.ok.le
    obtain ⟨b, t, w0, qs, a1, a2, a3, a4, a5, a6⟩ := na.ex
    refine ⟨_, rfl, R, _, 0, .ref b, rfl, rfl, SqL.of a1, rfl, b, rfl, ⟨_, SqL.of a2⟩, fun G nG => ?_⟩
    have ba : b ≠ a := strs_ne pu a2
    have Ga := pu.ne_new nG
    refine lc_list (K := K) (a := b) (xs := N.bs.map V.str) (fun i H' => But a H H' ∧ Purse H' a (n + i) ∧ ∃ zs : List Str, H' G = some (.lst (zs.map V.str)) ∧ zs.Sublist (N.bs.take i)) ⟨But.of (same_new nG), (pu.upd Ga).mono (by omega), [], upd_same, List.Sublist.refl _⟩ (fun i H' _ ⟨bt, _⟩ => SqL.of (bt _ _ ba a2)) ?_ ?_
    · rintro i y H' hy ⟨bt, pu1, zs, eD, sub⟩
      rw [List.getElem?_map] at hy
      cases ey : N.bs[i]? with
      | none =>
        rw [ey] at hy
        cases hy
      | some z =>
      rw [ey] at hy
      cases hy
      have hi := (List.getElem?_eq_some_iff.mp ey).1
      have lz := sub.length_le
      rw [List.length_take] at lz
      refine ⟨rfl, _, rfl, a, 2, _, rfl, by decide, by decide, pu1, by omega, fun r H2 r0 r1 pu2 bt2 => ⟨rfl, _, rfl, ?_⟩⟩
      have bt3 := bt.trans bt2
      have eD2 := bt2 _ _ Ga eD
      rw [List.take_add_one, ey]
      refine ite2 (fun h => ?_) (fun h => ?_)
      · refine ⟨_, rfl, _, eD2, by rw [List.length_map]; exact room_str _ (by omega), upd_but bt3 nG, (pu2.upd Ga).mono (by omega), zs ++ [z], ?_, sub.append (List.Sublist.refl _)⟩
        rw [upd_same, List.map_append]
        rfl
      · exact ⟨bt3, pu2.mono (by omega), zs, eD2, sub.trans (List.sublist_append_left _ _)⟩
    · rintro H' ⟨bt, pu1, zs, eD, sub⟩
      rw [List.length_map, List.take_length] at sub
      rw [List.length_map] at pu1
      exact kk G zs H' ⟨fun z hz => sub.mem hz, List.Pairwise.sublist sub NF.asc⟩ nG eD (pu1.mono (by omega)) bt
end
end NK
/-! pieces told and judged, tried -/
namespace NK
open PySem PySem.Spec PyProof.Rows L2 He K1
section
variable {P : Program} {w : World} {K : PySem.W.Frag} {mg : Str → Option Value} {base : Heap} {C W : Addr}
/-- [x for x in the net's lamps if x not in some] -/
theorem tLc_out {i k : Nat} {σ : L2.St} {H : Hp} {Q : VK} {R b : Addr} {N : NetD} {ws : List Str} (h1 : σ[1]? = some (some (.ref R))) (na : NetAt H R N) (eb : H b = some (.lst (ws.map V.str))) (hw : ∀ v : V, wipe ((wipe σ [i]).set i (some v)) [i] = wipe σ [i]) (hv : ∀ v : V, ((wipe σ [i]).set i (some v))[i]? = some (some v))
    (hb : ∀ v : V, ((wipe σ [i]).set i (some v))[k]? = some (some (.ref b))) (kk : ∀ (D : Addr) (H' : Hp), H D = none → H' D = some (.lst ((N.bs.filter fun x => !decide (x ∈ ws)).map V.str)) → Same H H' → Q (.ref D) H') :
    tLc (iList K (tOp (rIxL K) (tVar 1) (tC (V.int 0)))) (gName i) (tTest (tOp (rIn K true) (tVar i) (tVar k))) (tVar i) [i] σ H Q := by
  have le := na.ok.le
  obtain ⟨b0, t, w0, qs, a1, a2, a3, a4, a5, a6⟩ := na.ex
  refine ⟨_, h1, R, _, 0, .ref b0, rfl, rfl, SqL.of a1, rfl, b0, rfl, ⟨_, SqL.of a2⟩, fun D nD => ?_⟩
  refine lc_list (K := K) (a := b0) (xs := N.bs.map V.str) (fun j H3 => Same H H3 ∧ H3 D = some (.lst (((N.bs.take j).filter fun x => !decide (x ∈ ws)).map V.str))) ⟨same_new nD, upd_same⟩ (fun j H3 _ h => SqL.of (h.1 _ _ a2)) ?_ ?_
  · rintro j x H3 hx ⟨s3, eD⟩
    rw [List.getElem?_map] at hx
    cases ey : N.bs[j]? with
    | none =>
      rw [ey] at hx
      cases hx
    | some y =>
    rw [ey] at hx
    cases hx
    have len : (((N.bs.take j).filter fun x => !decide (x ∈ ws)).map V.str).length < sizeLine := by
      rw [List.length_map]
      have h1 := List.length_filter_le (fun x => !decide (x ∈ ws)) (N.bs.take j)
      rw [List.length_take] at h1
      exact room_str _ (by omega)
    have tk : ((N.bs.take (j + 1)).filter fun x => !decide (x ∈ ws)) = ((N.bs.take j).filter fun x => !decide (x ∈ ws)) ++ (if (!decide (y ∈ ws)) = true then [y] else []) := by
      rw [List.take_add_one, ey, List.filter_append]
      congr 1
      exact List.filter_cons ..
    refine ⟨hw _, _, hv _, _, hb _, b, _, rfl, .inl (SqL.of (s3 _ _ eb)), rfl, flat_strs ws, _, rfl, ?_⟩
    rw [inV_str, tk]
    refine ite2 (fun h => ?_) (fun h => ?_)
    · refine ⟨_, hv _, _, eD, len, upd_same' s3 nD, ?_⟩
      rw [upd_same, if_pos (show (!decide (y ∈ ws)) = true from h), List.map_append]
      rfl
    · refine ⟨s3, ?_⟩
      rw [if_neg (show ¬ (!decide (y ∈ ws)) = true from h), List.append_nil]
      exact eD
  · rintro H3 ⟨s3, eD⟩
    rw [List.length_map, List.take_length] at eD
    exact kk D H3 nD eD s3
/-- lists of lamps of the net -/
structure Gs (N : NetD) (H : Hp) (gs : List (Addr × List Str)) : Prop where
  at_ : LsAt H gs
  in_ : ∀ g ∈ gs, (∀ y ∈ g.2, y ∈ N.bs) ∧ g.2.length ≤ 70
theorem Gs.same {N : NetD} {H H' : Hp} {gs : List (Addr × List Str)} (s : Same H H') (g : Gs N H gs) : Gs N H' gs := ⟨g.at_.same s, g.in_⟩
theorem Gs.nil {N : NetD} {H : Hp} : Gs N H [] := ⟨fun g h => (nomatch h), fun g h => (nomatch h)⟩
theorem Gs.cons {N : NetD} {H : Hp} {p : Addr} {zs : List Str} {gs : List (Addr × List Str)} (e : H p = some (.lst (zs.map V.str))) (h : ∀ y ∈ zs, y ∈ N.bs) (l : zs.length ≤ 70) (g : Gs N H gs) : Gs N H ((p, zs) :: gs) := by
  refine ⟨fun x hx => ?_, fun x hx => ?_⟩
  · rcases List.mem_cons.mp hx with rfl | hx
    · exact e
    · exact g.at_ x hx
  · rcases List.mem_cons.mp hx with rfl | hx
    · exact ⟨h, l⟩
    · exact g.in_ x hx
theorem Gs.append {N : NetD} {H : Hp} {gs hs : List (Addr × List Str)} (g : Gs N H gs) (h : Gs N H hs) : Gs N H (gs ++ hs) := by
  refine ⟨fun x hx => ?_, fun x hx => ?_⟩
  · rcases List.mem_append.mp hx with hx | hx
    · exact g.at_ x hx
    · exact h.at_ x hx
  · rcases List.mem_append.mp hx with hx | hx
    · exact g.in_ x hx
    · exact h.in_ x hx
theorem lrefs_app (gs hs : List (Addr × List Str)) : lrefs gs ++ lrefs hs = lrefs (gs ++ hs) := (List.map_append ..).symm
end
end NK
/-! what is told of a net, tried: what it needs -/
namespace NK
open PySem PySem.Spec PyProof.Rows L2 He K1
theorem perm_of_map {α β : Type} {f : α → β} {ys : List β} {l : List α} (p : ys.Perm (l.map f)) : ∃ l' : List α, l'.Perm l ∧ ys = l'.map f := by
  have go : ∀ {xs ys : List β}, xs.Perm ys → ∀ l : List α, xs = l.map f → ∃ l' : List α, l'.Perm l ∧ ys = l'.map f := by
    intro xs ys p
    induction p with
    | nil =>
      intro l h
      exact ⟨l, List.Perm.refl _, h⟩
    | cons x _ ih =>
      intro l h
      cases l with
      | nil => cases h
      | cons a l =>
        rw [List.map_cons] at h
        injection h with h1 h2
        obtain ⟨l', p', e⟩ := ih l h2
        exact ⟨a :: l', p'.cons a, by rw [List.map_cons, h1, e]⟩
    | swap x y l0 =>
      intro l h
      cases l with
      | nil => cases h
      | cons a l =>
        cases l with
        | nil => cases h
        | cons b l =>
          rw [List.map_cons, List.map_cons] at h
          injection h with h1 h2
          injection h2 with h2 h3
          exact ⟨b :: a :: l, List.Perm.swap _ _ _, by rw [List.map_cons, List.map_cons, h1, h2, h3]⟩
    | trans _ _ ih1 ih2 =>
      intro l h
      obtain ⟨l1, p1, e1⟩ := ih1 l h
      obtain ⟨l2, p2, e2⟩ := ih2 l1 e1
      exact ⟨l2, p2.trans p1, e2⟩
  exact go p.symm l rfl
/-- where the net at a keeps its tables -/
def NotT (C : Addr) (H : Hp) (a d : Addr) : Prop := ∀ (dx nr wr : Addr), H a = some (.ins C dx [("near", .ref nr), ("wish", .ref wr)]) → nr ≠ d ∧ wr ≠ d
theorem NewF.notT {C : Addr} {H H' : Hp} {a d : Addr} {o : HO} (n : NewF C H H' a) (e : H d = some o) : NotT C H' a d := fun dx nr wr ea => by
  obtain ⟨h1, h2⟩ := n _ _ _ ea
  exact ⟨fun q => (by rw [q, e] at h1; cases h1), fun q => (by rw [q, e] at h2; cases h2)⟩
theorem NewF.same {C : Addr} {H0 H H' : Hp} {a : Addr} {N : NetD} (m : Made C H a N) (s : Same H H') (n : NewF C H0 H a) : NewF C H0 H' a := fun dx nr wr ea => by
  obtain ⟨dx0, nr0, wr0, tt, a1, _⟩ := m.ex
  have := s _ _ a1
  rw [ea] at this
  cases this
  exact n _ _ _ a1
theorem NotT.same {C : Addr} {H H' : Hp} {a d : Addr} {N : NetD} (m : Made C H a N) (s : Same H H') (n : NotT C H a d) : NotT C H' a d := fun dx nr wr ea => by
  obtain ⟨dx0, nr0, wr0, tt, a1, _⟩ := m.ex
  have := s _ _ a1
  rw [ea] at this
  cases this
  exact n _ _ _ a1
/-- a list or a table -/
def LD (H : Hp) (d : Addr) : Prop := (∃ xs, H d = some (.lst xs)) ∨ ∃ kvs, H d = some (.dK kvs)
theorem LD.ins {H : Hp} {d a C dx : Addr} {fs : List (Str × V)} (h : LD H d) (e : H a = some (.ins C dx fs)) : a ≠ d := fun q => by
  rw [q] at e
  rcases h with ⟨xs, h⟩ | ⟨xs, h⟩
  · rw [h] at e
    cases e
  · rw [h] at e
    cases e
theorem LD.tup {H : Hp} {d a : Addr} {vs : List V} (h : LD H d) (e : H a = some (.tup vs)) : a ≠ d := fun q => by
  rw [q] at e
  rcases h with ⟨xs, h⟩ | ⟨xs, h⟩
  · rw [h] at e
    cases e
  · rw [h] at e
    cases e
theorem Made.upd {C : Addr} {H : Hp} {a d : Addr} {N : NetD} {o : HO} (m : Made C H a N) (n : NotT C H a d) (hd : LD H d) : Made C (upd H d o) a N := by
  obtain ⟨dx, nr, wr, tt, a1, a2, a3, a4, a5⟩ := m.ex
  obtain ⟨h1, h2⟩ := n _ _ _ a1
  have ha := hd.ins a1
  refine ⟨dx, nr, wr, tt, (upd_ne ha).trans a1, (upd_ne h1).trans a2, a3, fun e he => ?_, (upd_ne h2).trans a5⟩
  exact (upd_ne (hd.tup (a4 e he))).trans (a4 e he)
theorem NotT.upd {C : Addr} {H : Hp} {a d d' : Addr} {N : NetD} {o : HO} (m : Made C H a N) (n : NotT C H a d') (hd : LD H d) : NotT C (L2.upd H d o) a d' := fun dx nr wr e => by
  obtain ⟨dx0, nr0, wr0, tt, a1, _⟩ := m.ex
  have ha := hd.ins a1
  rw [upd_ne ha] at e
  exact n _ _ _ e
theorem NearL.upd {Hs H : Hp} {D d : Addr} {N : NetD} {o o' : HO} (n : NearL H D N) (nn : NearN Hs H D) (ne : d ≠ D) (hd : Hs d = some o') : NearL (L2.upd H d o) D N ∧ NearN Hs (L2.upd H d o) D := by
  obtain ⟨lt, h1, h2, h3⟩ := n.ex
  refine ⟨⟨lt, (upd_ne (Ne.symm ne)).trans h1, h2, fun e he => ?_⟩, fun kvs ek => ?_⟩
  · rw [upd_ne (fun q => ?_)]
    · exact h3 e he
    · have := nn _ h1 (Sum.inr e.1, V.ref e.2) (List.mem_map.mpr ⟨e, he, rfl⟩) e.2 rfl
      rw [q, hd] at this
      cases this
  · rw [upd_ne (Ne.symm ne)] at ek
    exact nn kvs ek
theorem NearN.same {Hs H H' : Hp} {D : Addr} {N : NetD} (n : NearL H D N) (s : Same H H') (nn : NearN Hs H D) : NearN Hs H' D := fun kvs e => by
  obtain ⟨lt, h1, _⟩ := n.ex
  have := s _ _ h1
  rw [e] at this
  cases this
  exact nn _ h1
theorem tiesOf_ts {N : NetD} (O : NetOk N) : tiesOf N N.bs = N.ts := asc_uniq ord_pl (tiesOf_asc N O.asc O.asc) O.tasc fun r => tiesOf_mem O.toF r
theorem nearS_self (N : NetD) : nearS N N = true := by
  unfold nearS
  rw [Bool.and_eq_true, decide_eq_true_eq, List.all_eq_true]
  exact ⟨rfl, fun x _ => decide_eq_true rfl⟩
theorem sameN_self (N : NetD) : sameN N N = true := by
  unfold sameN wishS
  rw [nearS_self, Bool.true_and, List.all_eq_true]
  exact fun x _ => decide_eq_true rfl
/-! ### alike -/
theorem al_map {H : Hp} {n : Nat} {α β : Type} {f : α → Addr} {g : β → Addr} {xs : List α} {ys : List β} {a b : Addr} (ha : H a = some (.lst (xs.map fun x => V.ref (f x)))) (hb : H b = some (.lst (ys.map fun y => V.ref (g y)))) (l : xs.length ≤ 5000) (e : xs.length = ys.length)
    (h : ∀ (i : Nat) (x : α) (y : β), xs[i]? = some x → ys[i]? = some y → Al H n (.ref (f x)) (.ref (g y))) : Al H (n + 1) (.ref a) (.ref b) := by
  refine .inr (.inl ⟨a, b, _, _, rfl, rfl, by rw [List.length_map]; exact l, ⟨by rw [List.length_map, List.length_map, e], fun i x y hx hy => ?_⟩, .inl ⟨ha, hb⟩⟩)
  rw [List.getElem?_map] at hx hy
  cases ex : xs[i]? with
  | none =>
    rw [ex] at hx
    cases hx
  | some u =>
    cases ey : ys[i]? with
    | none =>
      rw [ey] at hy
      cases hy
    | some v =>
      rw [ex] at hx
      rw [ey] at hy
      cases hx
      cases hy
      exact h i u v ex ey
theorem map_at {α β : Type} {f : α → β} {xs : List α} {ys : List α} (e : xs.map f = ys.map f) {i : Nat} {x y : α} (hx : xs[i]? = some x) (hy : ys[i]? = some y) : f x = f y := by
  have h : (xs.map f)[i]? = (ys.map f)[i]? := by rw [e]
  rw [List.getElem?_map, List.getElem?_map, hx, hy] at h
  exact Option.some.inj h
theorem al_pair {H : Hp} {n : Nat} {a b : Addr} {x y : Str} (ha : H a = some (.tup [.str x, .str y])) (hb : H b = some (.tup [.str x, .str y])) : Al H (n + 1) (.ref a) (.ref b) :=
  .inr (.inl ⟨a, b, _, _, rfl, rfl, by show 2 ≤ 5000; decide, each_strs [x, y], .inr ⟨ha, hb⟩⟩)
theorem al_ties {H : Hp} {n : Nat} {qs rs : Qs} {a b : Addr} (ha : H a = some (.lst (qrefs qs))) (hb : H b = some (.lst (qrefs rs))) (l : qs.length ≤ 5000) (e : qs.map (·.2) = rs.map (·.2)) (qa : QAt H qs) (ra : QAt H rs) : Al H (n + 2) (.ref a) (.ref b) := by
  refine al_map ha hb l (by have := congrArg List.length e; rwa [List.length_map, List.length_map] at this) fun i x y hx hy => ?_
  have h1 := qa x (List.mem_of_getElem? hx)
  have h2 := ra y (List.mem_of_getElem? hy)
  have ee : x.2 = y.2 := map_at e hx hy
  rw [← ee] at h2
  exact al_pair h1 h2
theorem al_lls {H : Hp} {n : Nat} {ls ms : List (Addr × List Str)} {a b : Addr} (ha : H a = some (.lst (lrefs ls))) (hb : H b = some (.lst (lrefs ms))) (l : ls.length ≤ 5000) (e : ls.map (·.2) = ms.map (·.2)) (la : LsAt H ls) (ma : LsAt H ms) (sh : ∀ x ∈ ls, x.2.length ≤ 5000) : Al H (n + 2) (.ref a) (.ref b) := by
  refine al_map ha hb l (by have := congrArg List.length e; rwa [List.length_map, List.length_map] at this) fun i x y hx hy => ?_
  have h1 := la x (List.mem_of_getElem? hx)
  have h2 := ma y (List.mem_of_getElem? hy)
  have ee : x.2 = y.2 := map_at e hx hy
  rw [← ee] at h2
  exact al_strs h1 h2 (sh x (List.mem_of_getElem? hx))
theorem al_tab {H : Hp} {n : Nat} {bs : List Str} {wf : Str → Str} {a b : Addr} (ha : H a = some (.dK (wtab bs wf))) (hb : H b = some (.dK (wtab bs wf))) (l : bs.length ≤ 5000) : Al H (n + 2) (.ref a) (.ref b) :=
  .inr (.inr ⟨a, b, bs, _, _, rfl, rfl, l, by omega, ha, hb, wtab_keys bs wf, wtab_keys bs wf, fun z hz => ⟨_, _, wtab_at hz, wtab_at hz, .inl ⟨_, rfl, rfl⟩⟩⟩)
/-- items told -/
theorem items_us {H : Hp} {wf : Str → Str} : ∀ {ws : List Str} {ts : List Addr}, Paired (fun (t : Addr) (q : Key × V) => H t = some (.tup [kV q.1, q.2])) ts (wtab ws wf) → ∃ us : List (Addr × Str), ts = us.map (·.1) ∧ us.map (·.2) = ws ∧ ∀ u ∈ us, H u.1 = some (.tup [.str u.2, .str (wf u.2)])
  | [], ts, h => by
    cases h
    exact ⟨[], rfl, rfl, fun u hu => nomatch hu⟩
  | z :: ws, ts, h => by
    unfold wtab at h
    rw [List.map_cons] at h
    cases h with
    | cons h1 h2 =>
      obtain ⟨us, e1, e2, e3⟩ := items_us (ws := ws) (wf := wf) h2
      refine ⟨(_, z) :: us, by rw [List.map_cons, ← e1], by rw [List.map_cons, e2], fun u hu => ?_⟩
      rcases List.mem_cons.mp hu with rfl | hu
      · exact h1
      · exact e3 u hu
theorem al_items {H : Hp} {n : Nat} {wf : Str → Str} {us vs : List (Addr × Str)} {a b : Addr} (ha : H a = some (.lst ((us.map (·.1)).map V.ref))) (hb : H b = some (.lst ((vs.map (·.1)).map V.ref))) (l : us.length ≤ 5000) (e : us.map (·.2) = vs.map (·.2)) (hu : ∀ u ∈ us, H u.1 = some (.tup [.str u.2, .str (wf u.2)])) (hv : ∀ u ∈ vs, H u.1 = some (.tup [.str u.2, .str (wf u.2)])) : Al H (n + 2) (.ref a) (.ref b) := by
  rw [List.map_map] at ha hb
  refine al_map (f := fun u : Addr × Str => u.1) (g := fun u : Addr × Str => u.1) ha hb l (by have := congrArg List.length e; rwa [List.length_map, List.length_map] at this) fun i x y hx hy => ?_
  have h1 := hu x (List.mem_of_getElem? hx)
  have h2 := hv y (List.mem_of_getElem? hy)
  have ee : x.2 = y.2 := map_at e hx hy
  rw [← ee] at h2
  exact al_pair h1 h2
theorem tup_same {H H' : Hp} {wf : Str → Str} {us : List (Addr × Str)} (s : Same H H') (h : ∀ u ∈ us, H u.1 = some (.tup [.str u.2, .str (wf u.2)])) : ∀ u ∈ us, H' u.1 = some (.tup [.str u.2, .str (wf u.2)]) := fun u hu => s _ _ (h u hu)
/-- make_ok, whatever follows -/
theorem make_to {C : Addr} {H : Hp} {p t w : Addr} {zs : List Str} {qs : Qs} {kvs : List (Key × V)} {N : NetD} {Q : Addr → Hp → Prop} (I : NetIn H p t w zs qs kvs) (pm : N.bs.Perm zs) (asc : Asc sl N.bs) (ts : ∀ r, r ∈ qs.map (·.2) ↔ r ∈ N.ts) (wf : ∀ z ∈ N.bs, valV kvs (Sum.inr z) = some (.str (N.wf z)))
    (k : ∀ (a : Addr) (H' : Hp), H a = none → Made C H' a N → Same H H' → NewF C H H' a → Q a H') : ∀ x dx : Addr, H x = none → H dx = none → dx ≠ x → spInit C (.ref x :: ([.ref p, .ref t, .ref w] ++ [])) (L2.upd (L2.upd H dx (.own x)) x (.ins C dx [])) (fun v H2 => v = .non ∧ Q x H2) E0 :=
  make_ok (Q := fun v H => match v with | .ref x => Q x H | _ => False) I pm asc ts wf k
/-- a list of at most k things -/
def isL (H : Hp) (p : Addr) (k : Nat) : Prop := ∃ xs, H p = some (.lst xs) ∧ xs.length ≤ k
theorem isL.mono {H : Hp} {p : Addr} {k j : Nat} (h : k ≤ j) (i : isL H p k) : isL H p j := let ⟨xs, e, l⟩ := i; ⟨xs, e, Nat.le_trans l h⟩
theorem isL.same {H H' : Hp} {p : Addr} {k : Nat} (s : Same H H') (i : isL H p k) : isL H' p k := let ⟨xs, e, l⟩ := i; ⟨xs, s _ _ e, l⟩
theorem isL.upd {H : Hp} {p d : Addr} {k : Nat} {ys : List V} (i : isL H p k) (h : ys.length ≤ k) : isL (L2.upd H d (.lst ys)) p k := by
  obtain ⟨xs, e, l⟩ := i
  by_cases q : p = d
  · subst q
    exact ⟨ys, upd_same, h⟩
  · exact ⟨xs, (upd_ne q).trans e, l⟩
theorem isL.updK {H : Hp} {p d : Addr} {k : Nat} {kvs kvs' : List (Key × V)} (i : isL H p k) (h : H d = some (.dK kvs)) : isL (L2.upd H d (.dK kvs')) p k := by
  obtain ⟨xs, e, l⟩ := i
  exact ⟨xs, (upd_ne (fun q => by rw [q, h] at e; cases e)).trans e, l⟩
/-- a new list that is not the one at M -/
def El (Hs H : Hp) (M : Addr) (k : Nat) (x : V) : Prop := ∃ p, x = .ref p ∧ isL H p k ∧ Hs p = none ∧ p ≠ M
theorem pcs_some_one {N : NetD} (O : NetOk N) : pcs N ≠ [] := fun e => by
  obtain ⟨z, hz, wz⟩ := O.fre
  have : z ∈ fr N := List.mem_filter.mpr ⟨hz, by
    unfold isF
    rcases wz with wz | wz <;> rw [wz] <;> rfl⟩
  have h := pcs_has O.toF this
  rw [e] at h
  cases h
end NK
/-! things of any kind, and what is the same -/
namespace NK
open PySem PySem.Spec PyProof.Rows L2 He K1
def Leaf (x : V) : Prop := x = .non ∨ (∃ b, x = .bl b) ∨ (∃ i, x = .int i) ∨ ∃ z, x = .str z
def tabG (zs : List Str) (g : Str → V) : List (Key × V) := zs.map fun z => (Sum.inr z, g z)
def Th (H : Hp) : Nat → V → Prop
  | 0, x => Leaf x
  | n + 1, x => Leaf x ∨ (∃ (a : Addr) (xs : List V), x = .ref a ∧ xs.length ≤ 60 ∧ (∀ y ∈ xs, Th H n y) ∧ (H a = some (.lst xs) ∨ H a = some (.tup xs))) ∨
      ∃ (a : Addr) (zs : List Str) (g : Str → V), x = .ref a ∧ 1 ≤ n ∧ zs.length ≤ 100 ∧ zs.Nodup ∧ (∀ z, Leaf (g z)) ∧ H a = some (.dK (tabG zs g))
theorem Th.same {H H' : Hp} (s : Same H H') : ∀ {n : Nat} {x : V}, Th H n x → Th H' n x
  | 0, _, h => h
  | n + 1, _, .inl h => .inl h
  | n + 1, _, .inr (.inl ⟨a, xs, h1, h2, h3, h4⟩) => .inr (.inl ⟨a, xs, h1, h2, fun y hy => Th.same s (h3 y hy), h4.elim (fun h => .inl (s _ _ h)) fun h => .inr (s _ _ h)⟩)
  | n + 1, _, .inr (.inr ⟨a, zs, g, h1, h2, h3, h4, h5, h6⟩) => .inr (.inr ⟨a, zs, g, h1, h2, h3, h4, h5, s _ _ h6⟩)
theorem Leaf.th {H : Hp} {n : Nat} {x : V} (h : Leaf x) : Th H n x := by
  cases n with
  | zero => exact h
  | succ n => exact .inl h
theorem Leaf.sc {x : V} (h : Leaf x) : Sc x x := by
  rcases h with rfl | ⟨b, rfl⟩ | ⟨i, rfl⟩ | ⟨z, rfl⟩
  · exact .inr (.inr (.inr ⟨rfl, rfl⟩))
  · exact .inr (.inl ⟨b, rfl, rfl⟩)
  · exact .inr (.inr (.inl ⟨i, rfl, rfl⟩))
  · exact .inl ⟨z, rfl, rfl⟩
/-- the class of a thing -/
theorem Leaf.ty {K : PySem.W.Frag} {H : Hp} {x : V} (h : Leaf x) : ∃ t : Value, TyX K H x t ∧ PySem.W.kitOne K t (.type "dict") = some false ∧ PySem.W.kitOne K t (.type "list") = some false ∧ PySem.W.kitOne K t (.type "tuple") = some false ∧ ((∃ z, x = .str z) ∨ PySem.W.kitOne K t (.type "str") = some false) := by
  rcases h with rfl | ⟨b, rfl⟩ | ⟨i, rfl⟩ | ⟨z, rfl⟩
  · exact ⟨.type "NoneType", .base .non, rfl, rfl, rfl, .inr rfl⟩
  · exact ⟨.type "bool", .base (.bl b), rfl, rfl, rfl, .inr rfl⟩
  · exact ⟨.type "int", .base (.int i), rfl, rfl, rfl, .inr rfl⟩
  · exact ⟨.type "str", .base (.str z), rfl, rfl, rfl, .inl ⟨z, rfl⟩⟩
theorem tabG_keys (zs : List Str) (g : Str → V) : (tabG zs g).map (·.1) = zs.map fun z => (Sum.inr z : Key) := by
  unfold tabG
  rw [List.map_map]
  rfl
theorem tabG_at {zs : List Str} {g : Str → V} {z : Str} (h : z ∈ zs) : valV (tabG zs g) (Sum.inr z) = some (g z) := by
  induction zs with
  | nil => nomatch h
  | cons b zs ih =>
    by_cases e : b = z
    · subst e
      exact valV_pos rfl
    · have h2 : z ∈ zs := by
        rcases List.mem_cons.mp h with h | h
        · exact absurd h.symm e
        · exact h
      have := ih h2
      unfold valV tabG at this ⊢
      rw [List.map_cons, List.find?_cons_of_neg (by simpa using fun q => e q)]
      exact this
theorem tabG_merge {zs : List Str} (g : Str → V) (nd : zs.Nodup) : mergeK [] (tabG zs g) = tabG zs g := by
  rw [merge_new _ [] (by rw [tabG_keys]; exact inr_nodup nd) fun k _ h => nomatch h]
  rfl
def spS : Nat → Sp
  | 0 => fun _ _ _ _ => False
  | n + 1 => fun vs H Q _ => ∃ (x : V) (H0 : Hp), vs = [x] ∧ Same H0 H ∧ Th H0 n x ∧ ∀ (y : V) (H' : Hp), Same H H' → (∀ H'', Same H0 H'' → (∀ b o, H b = none → H' b = some o → H'' b = some o) → Al H'' n x y) → Q y H'
theorem al_leaf {H : Hp} {n : Nat} {x y : V} (h : Leaf x) (a : Al H n x y) : y = x := by
  have key : Sc x y → y = x := fun s => by
    rcases s with ⟨z, rfl, rfl⟩ | ⟨b, rfl, rfl⟩ | ⟨i, rfl, rfl⟩ | ⟨rfl, rfl⟩ <;> rfl
  cases n with
  | zero => exact key a
  | succ n =>
    rcases a with s | ⟨a, _, _, _, rfl, _⟩ | ⟨a, _, _, _, _, rfl, _⟩
    · exact key s
    · rcases h with h | ⟨_, h⟩ | ⟨_, h⟩ | ⟨_, h⟩ <;> cases h
    · rcases h with h | ⟨_, h⟩ | ⟨_, h⟩ | ⟨_, h⟩ <;> cases h
theorem paired_g {K : PySem.W.Frag} {H : Hp} {g : Str → V} : ∀ {us : List (Addr × Str)}, (∀ u ∈ us, H u.1 = some (.tup [.str u.2, g u.2])) → Paired (fun p kv => SqT K H p [kV kv.1, kv.2]) (us.map (·.1)) (tabG (us.map (·.2)) g)
  | [], _ => .nil
  | u :: us, h => .cons (SqT.of (h u List.mem_cons_self)) (paired_g fun x m => h x (List.mem_cons_of_mem _ m))
/-- what is built of a list, item by item -/
def SameI (H0 H : Hp) (D : Addr) (m : Nat) (xs : List V) (i : Nat) (H' : Hp) : Prop := Same H H' ∧ ∃ ys, H' D = some (.lst ys) ∧ ys.length = i ∧
  ∀ H'', Same H0 H'' → (∀ b o, H b = none → b ≠ D → H' b = some o → H'' b = some o) → ∀ (j : Nat) (x y : V), xs[j]? = some x → ys[j]? = some y → Al H'' m x y
theorem sameI_start {H0 H : Hp} {D : Addr} {m : Nat} {xs : List V} (nD : H D = none) : SameI H0 H D m xs 0 (upd H D (.lst [])) := ⟨same_new nD, [], upd_same, rfl, fun _ _ _ j x y _ h => by simp at h⟩
theorem sameI_step {H0 H H' H2 : Hp} {D : Addr} {m i : Nat} {xs ys : List V} {x y : V} (nD : H D = none) (hx : xs[i]? = some x) (lx : xs.length ≤ 60) (sm : Same H H') (eD : H' D = some (.lst ys)) (ly : ys.length = i)
    (al : ∀ H'', Same H0 H'' → (∀ b o, H b = none → b ≠ D → H' b = some o → H'' b = some o) → ∀ (j : Nat) (x y : V), xs[j]? = some x → ys[j]? = some y → Al H'' m x y) (s2 : Same H' H2)
    (al2 : ∀ H'', Same H0 H'' → (∀ b o, H' b = none → H2 b = some o → H'' b = some o) → Al H'' m x y) : ∃ acc, H2 D = some (.lst acc) ∧ acc.length < sizeLine ∧ SameI H0 H D m xs (i + 1) (upd H2 D (.lst (acc ++ [y]))) := by
  have hi := (List.getElem?_eq_some_iff.mp hx).1
  refine ⟨ys, s2 _ _ eD, by rw [ly]; exact room_str _ (by omega), upd_same' (sm.trans s2) nD, ys ++ [y], upd_same, by rw [List.length_append, ly]; rfl, fun H'' s'' n'' j u v hu hv => ?_⟩
  rcases Nat.lt_or_ge j i with h | h
  · rw [List.getElem?_append_left (by omega)] at hv
    exact al H'' s'' (fun b o h1 h2 h3 => n'' b o h1 h2 ((upd_ne h2).trans (s2 _ _ h3))) j u v hu hv
  · have hj : j = i := by
      have := (List.getElem?_eq_some_iff.mp hv).1
      rw [List.length_append] at this
      have h1 : j < ys.length + 1 := this
      omega
    subst hj
    rw [List.getElem?_append_right (by omega), ly, Nat.sub_self] at hv
    have ev : v = y := (Option.some.inj hv).symm
    have eu : u = x := by
      rw [hx] at hu
      exact (Option.some.inj hu).symm
    subst ev eu
    refine al2 H'' s'' fun b o h1 h2 => ?_
    have hb : b ≠ D := fun q => by
      rw [q, eD] at h1
      cases h1
    refine n'' b o ?_ hb ((upd_ne hb).trans h2)
    cases q : H b with
    | none => rfl
    | some o' =>
      rw [sm _ _ q] at h1
      cases h1
section
variable {P : Program} {w : World} {K : PySem.W.Frag} {mg : Str → Option Value} {base : Heap} {C W RW : Addr}
theorem same_step {f : Addr} {fd : FuncData} (F : FnP K "_law_same" s_l_same f fd) (B : FreeN mg) {k n : Nat} (G__law_same : Has P w K mg base k "_law_same" ["_law_thing"] (spS n)) : FnOk P w K mg base CX0 (k + 1) f fd ["_law_thing"] (spS (n + 1)) := by
  refine fnP_ok F sc_l_same (fun vs H Q E h => ?_) (fun cdv A outer s H vs Q E hr h => ?_)
  · obtain ⟨x, H0, rfl, _⟩ := h
    rfl
  · obtain ⟨x, H0, rfl, s0, th, kk⟩ := h
    have nd := sc_l_same.nd
    have hu1 := room1 hr
    refine ⟨_, (pss_cons (ps_if (pt_val (pe_callB (k_isi (K := K) rfl) (by rfl) B.isi (by decide +kernel) (pa_cons (pv 0) (pa_cons (pe_bltn (v := .ty "dict") (by rfl) B.dict (by decide +kernel) rfl) pa_nil)))) (pss_one (ps_ret (pe_callTy (k_dictP (K := K) rfl rfl) (by rfl) B.dict (by decide +kernel) (pa_cons (pe_lock (pe_lc (own := [("_law_key", 2)]) (g := gName 2) (tt := tYes) rfl nd (pi_keys (pv 0)) (blkOk_by (N := nm_l_same) (sc := defScope s_l_same) (by decide +kernel)) (fun _ _ _ _ _ => (pg_name (i := 2) nd rfl (Or.inl rfl))) (fun _ _ _ _ _ => pts_nil) (fun _ _ _ _ _ => (pe_tup (pa_cons (pv 2) (pa_cons (pe_has G__law_same hr (pa_cons (pe_dget hu1 (pv 0) (pv 2) (fun _ _ => rfl)) pa_nil)) pa_nil)))))) pa_nil)))) pss_nil)
      (pss_cons (ps_if (pt_val (pe_callB (k_isi (K := K) rfl) (by rfl) B.isi (by decide +kernel) (pa_cons (pv 0) (pa_cons (pe_bltn (v := .ty "list") (by rfl) B.list (by decide +kernel) rfl) pa_nil)))) (pss_one (ps_ret (pe_lc (own := [("_law_item", 1)]) (g := gName 1) (tt := tYes) rfl nd (k_pil (K := K) rfl (pv 0)) (blkOk_by (N := nm_l_same) (sc := defScope s_l_same) (by decide +kernel)) (fun _ _ _ _ _ => (pg_name (i := 1) nd rfl (Or.inl rfl))) (fun _ _ _ _ _ => pts_nil) (fun _ _ _ _ _ => (pe_has G__law_same hr (pa_cons (pv 1) pa_nil)))))) pss_nil)
      (pss_one (ps_ret (pe_ifExp (pt_val (pe_callB (k_isi (K := K) rfl) (by rfl) B.isi (by decide +kernel) (pa_cons (pv 0) (pa_cons (pe_bltn (v := .ty "tuple") (by rfl) B.tuple (by decide +kernel) rfl) pa_nil)))) (pe_callTy (k_tuple (K := K) rfl) (by rfl) B.tuple (by decide +kernel) (pa_cons (pe_lc (own := [("_law_item", 1)]) (g := gName 1) (tt := tYes) rfl nd (k_pit (K := K) rfl (pv 0)) (blkOk_by (N := nm_l_same) (sc := defScope s_l_same) (by decide +kernel)) (fun _ _ _ _ _ => (pg_name (i := 1) nd rfl (Or.inl rfl))) (fun _ _ _ _ _ => pts_nil) (fun _ _ _ _ _ => (pe_has G__law_same hr (pa_cons (pv 1) pa_nil)))) pa_nil)) (pv 0)))))), ?_⟩
    have alt : Leaf x ∨ ∃ m, n = m + 1 ∧ ((∃ (a : Addr) (xs : List V), x = .ref a ∧ xs.length ≤ 60 ∧ (∀ y ∈ xs, Th H0 m y) ∧ (H0 a = some (.lst xs) ∨ H0 a = some (.tup xs))) ∨
      ∃ (a : Addr) (zs : List Str) (g : Str → V), x = .ref a ∧ 1 ≤ m ∧ zs.length ≤ 100 ∧ zs.Nodup ∧ (∀ z, Leaf (g z)) ∧ H0 a = some (.dK (tabG zs g))) := by
      cases n with
      | zero => exact .inl th
      | succ m =>
        rcases th with h | h
        · exact .inl h
        · exact .inr ⟨m, rfl, h⟩
    rcases alt with lf | ⟨m, rfl, ⟨a, xs, rfl, lx, hx, ea0 | ea0⟩ | ⟨a, zs, g, rfl, m1, lz, znd, hg, ea0⟩⟩
    · obtain ⟨t, ty, k1, k2, k3, _⟩ := lf.ty (K := K) (H := H)
      refine ⟨_, rfl, x, _, t, _, false, rfl, .ty "dict", ty, k1, false, rfl, ifF ?_⟩
      refine ⟨_, rfl, x, _, t, _, false, rfl, .ty "list", ty, k2, false, rfl, ifF ?_⟩
      refine ⟨_, rfl, x, _, t, _, false, rfl, .ty "tuple", ty, k3, false, rfl, ifF ?_⟩
      exact ⟨_, rfl, kk x H (fun _ _ e => e) fun _ _ _ => Al.sc lf.sc⟩
    · have ea := s0 _ _ ea0
      refine ⟨_, rfl, _, _, .type "list", _, false, rfl, .ty "dict", .base (.lst ea), rfl, false, rfl, ifF ?_⟩
      refine ⟨_, rfl, _, _, .type "list", _, true, rfl, .ty "list", .base (.lst ea), rfl, true, rfl, ifT ?_⟩
      refine ⟨_, rfl, a, rfl, ⟨_, SqL.of ea⟩, fun D nD => ?_⟩
      refine lc_list (K := K) (a := a) (xs := xs) (SameI H0 H D m xs) (sameI_start nD) (fun i H' _ h => SqL.of (h.1 _ _ ea)) ?_ ?_
      · rintro i x H' hx' ⟨sm, ys, eD, ly, al⟩
        refine ⟨rfl, _, rfl, x, H0, rfl, s0.trans sm, hx x (List.mem_of_getElem? hx'), fun y H2 s2 al2 => ?_⟩
        exact sameI_step nD hx' lx sm eD ly al s2 al2
      · rintro H' ⟨sm, ys, eD, ly, al⟩
        exact kk _ H' sm fun H'' s'' n'' => .inr (.inl ⟨a, D, xs, ys, rfl, rfl, by omega, ⟨ly.symm, fun j x y h1 h2 => al H'' s'' (fun b o h3 h4 h5 => n'' b o h3 h5) j x y h1 h2⟩, .inl ⟨s'' _ _ ea0, n'' _ _ nD eD⟩⟩)
    · have ea := s0 _ _ ea0
      refine ⟨_, rfl, _, _, .type "tuple", _, false, rfl, .ty "dict", .base (.tup ea), rfl, false, rfl, ifF ?_⟩
      refine ⟨_, rfl, _, _, .type "tuple", _, false, rfl, .ty "list", .base (.tup ea), rfl, false, rfl, ifF ?_⟩
      refine ⟨_, rfl, _, _, .type "tuple", _, true, rfl, .ty "tuple", .base (.tup ea), rfl, true, rfl, ifT ?_⟩
      refine ⟨_, rfl, a, rfl, ⟨_, SqT.of ea⟩, fun D nD => ?_⟩
      refine lc_tup (K := K) (a := a) (xs := xs) (SameI H0 H D m xs) (sameI_start nD) (fun i H' _ h => SqT.of (h.1 _ _ ea)) ?_ ?_
      · rintro i x H' hx' ⟨sm, ys, eD, ly, al⟩
        refine ⟨rfl, _, rfl, x, H0, rfl, s0.trans sm, hx x (List.mem_of_getElem? hx'), fun y H2 s2 al2 => ?_⟩
        exact sameI_step nD hx' lx sm eD ly al s2 al2
      · rintro H' ⟨sm, ys, eD, ly, al⟩
        refine ⟨D, ys, rfl, .inl ⟨SqL.of eD, fun T nT => ?_⟩⟩
        have sT := same_new (o := .tup ys) nT
        refine kk _ _ (sm.trans sT) fun H'' s'' n'' => .inr (.inl ⟨a, T, xs, ys, rfl, rfl, by omega, ⟨ly.symm, fun j x y h1 h2 => al H'' s'' (fun b o h3 h4 h5 => n'' b o h3 (sT _ _ h5)) j x y h1 h2⟩, .inr ⟨s'' _ _ ea0, n'' _ _ (sm.free nT) upd_same⟩⟩)
    · have ea := s0 _ _ ea0
      refine ⟨_, rfl, _, _, .type "dict", _, true, rfl, .ty "dict", .base (.dK ea), rfl, true, rfl, ifT ?_⟩
      refine ⟨a, _, ea, True.intro, fun od => ?_⟩
      refine ⟨_, rfl, a, od, rfl, .inl ⟨tabG zs g, upd_same, fun D nD => ?_⟩⟩
      have Da : D ≠ a := fun q => by
        rw [q, upd_same] at nD
        cases nD
      have nD0 : H D = none := by
        rw [upd_ne Da] at nD
        exact nD
      refine lc_it walk_keys (fun i H' => Same (upd H a (.frz od (.dK (tabG zs g)))) H' ∧ ∃ us : List (Addr × Str), H' D = some (.lst ((us.map (·.1)).map V.ref)) ∧ us.map (·.2) = zs.take i ∧ ∀ u ∈ us, H' u.1 = some (.tup [.str u.2, g u.2])) ⟨same_new nD, [], upd_same, rfl, fun u h => nomatch h⟩ (fun i H' _ h => h.1 _ _ upd_same) ?_ ?_
      · rintro i x H1 H' hi ⟨sm, us, eD, eu, hus⟩ ⟨rfl, k, v, ex, rfl⟩
        unfold tabG at ex hi
        rw [List.length_map] at hi
        rw [List.getElem?_map, List.getElem?_eq_getElem hi] at ex
        cases ex
        have ez : zs[i]? = some zs[i] := List.getElem?_eq_getElem hi
        have hz : zs[i] ∈ zs := List.getElem_mem hi
        generalize zs[i] = z at *
        have lu : us.length = i := by
          have := congrArg List.length eu
          rw [List.length_map, List.length_take] at this
          omega
        refine ⟨rfl, _, rfl, _, rfl, _, rfl, a, _, rfl, .inl ⟨tabG zs g, .inr z, .inr ⟨od, sm _ _ upd_same⟩, rfl, (tabG_at hz).symm⟩, ?_⟩
        refine ⟨g z, H', rfl, fun _ _ e => e, (hg z).th, fun y H2 s2 al2 => ?_⟩
        have ey : y = g z := al_leaf (hg z) (al2 H2 s2 fun _ _ _ e => e)
        subst ey
        refine ⟨by show 2 ≤ sizeLine; decide, fun T nT => ?_⟩
        have sT := same_new (o := .tup [.str z, g z]) nT
        have s2T := s2.trans sT
        have TD : T ≠ D := fun q => by
          rw [q, s2 _ _ eD] at nT
          cases nT
        refine ⟨_, s2T _ _ eD, by rw [List.length_map, List.length_map, lu]; exact room_str _ (by omega), upd_same' (sm.trans s2T) nD, us ++ [(T, z)], ?_, ?_, fun u hu => ?_⟩
        · rw [upd_same, List.map_append, List.map_append]
          rfl
        · rw [List.map_append, eu, List.take_add_one, ez]
          rfl
        · have hD : ∀ v : Addr × Str, upd H2 T (.tup [.str z, g z]) v.1 = some (.tup [.str v.2, g v.2]) → upd (upd H2 T (.tup [.str z, g z])) D (.lst ((us.map (·.1)).map V.ref ++ [.ref T])) v.1 = some (.tup [.str v.2, g v.2]) := fun v e => by
            rw [upd_ne]
            · exact e
            · intro q
              rw [q, s2T _ _ eD] at e
              cases e
          rcases List.mem_append.mp hu with hu | hu
          · exact hD u (s2T _ _ (hus u hu))
          · rw [List.mem_singleton.mp hu]
            exact hD (T, z) upd_same
      · rintro H' ⟨sm, us, eD, eu, hus⟩
        have lt : (tabG zs g).length = zs.length := by unfold tabG; rw [List.length_map]
        rw [lt, List.take_length] at eu
        have ea' : upd H a (.frz od (.dK (tabG zs g))) a = _ := upd_same
        have hus' : ∀ u ∈ us, upd H' a (.dK (tabG zs g)) u.1 = some (.tup [.str u.2, g u.2]) := fun u hu => by
          rw [upd_ne]
          · exact hus u hu
          · intro q
            have := hus u hu
            rw [q, sm _ _ upd_same] at this
            cases this
        refine ⟨sm _ _ upd_same, D, us.map (·.1), _, rfl, SqL.of ((upd_ne Da).trans eD), paired_g hus', fun E nE => ?_⟩
        rw [eu, tabG_merge g znd]
        have sA := same_unlock ea sm
        refine kk _ _ (sA.trans (same_new nE)) fun H'' s'' n'' => .inr (.inr ⟨a, E, zs, tabG zs g, tabG zs g, rfl, rfl, by omega, m1, s'' _ _ ea0, n'' _ _ (sA.free nE) upd_same, tabG_keys zs g, tabG_keys zs g, fun z hz => ⟨g z, g z, tabG_at hz, tabG_at hz, (hg z).sc⟩⟩)
theorem ok_same0 {f : Addr} {fd : FuncData} {ps : List Str} : FnOk P w K mg base CX0 0 f fd ps (spS 0) := ⟨fun _ _ _ _ h => h.elim, fun _ _ _ _ _ _ _ _ _ _ _ _ _ h => h.elim⟩
theorem ok_same {f : Addr} {fd : FuncData} (F : FnP K "_law_same" s_l_same f fd) (B : FreeN mg) (kp : PySem.W.keepIn K (.ref f) = true) (bd : L2.Binds K fd ["_law_thing"] []) (gm : mg "_law_same" = some (.ref f)) : ∀ n, FnOk P w K mg base CX0 n f fd ["_law_thing"] (spS n)
  | 0 => ok_same0
  | n + 1 => same_step F B ⟨f, fd, ok_same F B kp bd gm n, kp, bd, gm⟩
end
end NK
/-! the law's own judge of settings; a net told; a net with still pieces -/
namespace NK
open PySem PySem.Spec PyProof.Rows L2 He K1
section
variable {P : Program} {w : World} {K : PySem.W.Frag} {mg : Str → Option Value} {base : Heap} {C W RW : Addr}
def spLIsSetting (K : PySem.W.Frag) : Sp := fun vs H Q _ => ∃ (R : Addr) (N : NetD) (x : V), vs = [.ref R, x] ∧ NetAt H R N ∧ ((∃ (p : Addr) (xs : List V), x = .ref p ∧ H p = some (.lst xs) ∧ xs.length < 64 ∧ (∀ y ∈ xs, ∀ H', Same H H' → Item K H' y) ∧ ∀ b H', (b = true ↔ SetP N xs) → Same H H' → Q (.bl b) H') ∨ (NoList K H x ∧ tells false Q H))
theorem ok_l_is_setting {f : Addr} {fd : FuncData} (F : FnP K "_law_is_setting" s_l_is_setting f fd) (B : FreeN mg) : FnOk P w K mg base CX0 1 f fd ["_law_net_here", "_law_value"] (spLIsSetting K) := by
  refine fnP_ok F sc_l_is_setting (fun vs H Q E h => ?_) (fun cdv A outer s H vs Q E hr h => ?_)
  · obtain ⟨R, N, x, rfl, _⟩ := h
    rfl
  · obtain ⟨R, N, x, rfl, na, h⟩ := h
    have nd := sc_l_is_setting.nd
    have hu := hr.units
    refine ⟨_, (pss_cons (ps_if (PW.pt (pw_or (pt_not (pt_val (pe_callB (k_isi (K := K) rfl) (by rfl) B.isi (by decide +kernel) (pa_cons (pv 1) (pa_cons (pe_bltn (v := .ty "list") (by rfl) B.list (by decide +kernel) rfl) pa_nil))))) (pw_or1 (pt_not (pt_val (pe_callB (k_all (K := K) rfl rfl) (by rfl) B.all (by decide +kernel) (pa_cons (pe_lc (own := [("_law_lamp", 2)]) (g := gName 2) (tt := tYes) rfl nd (k_pil (K := K) rfl (pv 1)) (blkOk_by (N := nm_l_is_setting) (sc := defScope s_l_is_setting) (by decide +kernel)) (fun _ _ _ _ _ => (pg_name (i := 2) nd rfl (Or.inl rfl))) (fun _ _ _ _ _ => pts_nil) (fun _ _ _ _ _ => (pe_and (pe_callB (k_isi (K := K) rfl) (by rfl) B.isi (by decide +kernel) (pa_cons (pv 2) (pa_cons (pe_bltn (v := .ty "str") (by rfl) B.str (by decide +kernel) rfl) pa_nil))) (pe_one (pe_cmpR (k_in (K := K) rfl) (pv 2) (pe_ix (k_ixl (K := K) rfl) (pv 0) pe_int (fun _ _ => rfl)) (by rfl)))))) pa_nil))))))) (pss_one (ps_ret pe_bl)) pss_nil)
      (pss_one (ps_ret (pe_cmpR (k_eqD (K := K) rfl hu) (pv 1) (pe_lc (own := [("_law_lamp", 2)]) (g := gName 2) rfl nd (k_pil (K := K) rfl (pe_ix (k_ixl (K := K) rfl) (pv 0) pe_int (fun _ _ => rfl))) (blkOk_by (N := nm_l_is_setting) (sc := defScope s_l_is_setting) (by decide +kernel)) (fun _ _ _ _ _ => (pg_name (i := 2) nd rfl (Or.inl rfl))) (fun _ _ _ _ _ => (pts_one (pt_cmpR (k_in (K := K) rfl) (pv 2) (pv 1) (by rfl)))) (fun _ _ _ _ _ => (pv 2))) (nomark _))))), ?_⟩
    have NF := na.ok.toF
    have few := NF.few
    obtain ⟨b, t, w0, qs, a1, a2, a3, a4, a5, a6⟩ := na.ex
    rcases h with ⟨p, xs, rfl, ep, lx, hx, kk⟩ | ⟨⟨t, ty, kt⟩, kk⟩
    · refine ⟨_, rfl, _, _, _, _, true, rfl, .ty "list", .base (.lst ep), rfl, true, rfl, ifF ?_⟩
      refine ⟨_, rfl, p, rfl, ⟨_, SqL.of ep⟩, fun D nD => ?_⟩
      refine lc_list (K := K) (a := p) (xs := xs) (fun i H' => Same H H' ∧ H' D = some (.lst (((xs.take i).map (lampB N)).map V.bl))) ⟨same_new nD, upd_same⟩ (fun i H' _ ⟨sm, _⟩ => SqL.of (sm _ _ ep)) ?_ ?_
      · rintro i x H' hx' ⟨sm, eD⟩
        have hi := (List.getElem?_eq_some_iff.mp hx').1
        have fin : ∃ acc, H' D = some (.lst acc) ∧ acc.length < sizeLine ∧ (fun (i : Nat) (H' : Hp) => Same H H' ∧ H' D = some (.lst (((xs.take i).map (lampB N)).map V.bl))) (i + 1) (upd H' D (.lst (acc ++ [V.bl (lampB N x)]))) := by
          refine ⟨_, eD, by rw [List.length_map, List.length_map, List.length_take]; exact room_str _ (by omega), upd_same' sm nD, ?_⟩
          rw [upd_same, List.take_add_one, hx', List.map_append, List.map_append]
          rfl
        rcases hx x (List.mem_of_getElem? hx') H' sm with ⟨z, rfl⟩ | ns
        · refine ⟨rfl, _, rfl, _, _, _, _, true, rfl, .ty "str", .base (.str z), rfl, true, rfl, ifT ?_⟩
          refine ⟨_, rfl, _, rfl, R, _, 0, .ref b, rfl, rfl, SqL.of (sm _ _ a1), rfl, b, _, rfl, .inl (SqL.of (sm _ _ a2)), rfl, flat_strs N.bs, ?_⟩
          rw [inV_str]
          exact fin
        · obtain ⟨n0, t, ty, kt⟩ := ns
          rw [lampB_no ⟨n0, t, ty, kt⟩] at fin
          exact ⟨rfl, _, rfl, x, _, t, _, false, rfl, .ty "str", ty, kt, false, rfl, ifF fin⟩
      · rintro H1 ⟨s1, eD⟩
        rw [List.take_length] at eD
        refine ⟨D, _, rfl, SqL.of eD, ?_⟩
        have : (xs.map (lampB N)).all id = xs.all (lampB N) := by rw [List.all_map]; rfl
        rw [this]
        cases eb : xs.all (lampB N) with
        | false =>
          refine ⟨false, rfl, ifT (kk false H1 ⟨fun h => absurd h (by decide), fun ⟨zs, e, mz, _⟩ => ?_⟩ s1)⟩
          rw [e, lamps_all mz] at eb
          cases eb
        | true =>
          obtain ⟨zs, rfl, mz⟩ := all_lamps eb
          rw [List.length_map] at lx
          refine ⟨true, rfl, ifF ?_⟩
          refine ⟨_, rfl, _, rfl, R, _, 0, .ref b, rfl, rfl, SqL.of (s1 _ _ a1), rfl, b, rfl, ⟨_, SqL.of (s1 _ _ a2)⟩, fun G nG => ?_⟩
          refine lc_list (K := K) (a := b) (xs := N.bs.map V.str) (fun i H' => Same H1 H' ∧ H' G = some (.lst (((N.bs.take i).filter fun y => decide (y ∈ zs)).map V.str))) ⟨same_new nG, upd_same⟩ (fun i H' _ ⟨sm, _⟩ => SqL.of (sm _ _ (s1 _ _ a2))) ?_ ?_
          · rintro i y H' hy ⟨sm, eG⟩
            rw [List.getElem?_map] at hy
            cases ey : N.bs[i]? with
            | none =>
              rw [ey] at hy
              cases hy
            | some z =>
            rw [ey] at hy
            cases hy
            refine ⟨rfl, _, rfl, _, rfl, p, _, rfl, .inl (SqL.of (sm _ _ (s1 _ _ ep))), rfl, flat_strs zs, _, rfl, ?_⟩
            rw [inV_str, filt_snoc ey]
            refine ite2 (fun h => ?_) (fun h => ?_)
            · refine ⟨_, rfl, _, eG, room_filt (by omega) i, upd_same' sm nG, ?_⟩
              rw [upd_same, if_pos (show decide (z ∈ zs) = true from h), List.map_append]
              rfl
            · refine ⟨sm, ?_⟩
              rw [if_neg (show ¬ decide (z ∈ zs) = true from h), List.append_nil]
              exact eG
          · rintro H' ⟨sm, eG⟩
            rw [List.length_map, List.take_length] at eG
            refine ⟨_, _, .lst (SqL.of (sm _ _ (s1 _ _ ep))) (dp_strs zs), .lst (SqL.of eG) (dp_strs _), shaped_strs (fun z hz => NF.word z (mz z hz)), shaped_strs (fun z hz => NF.word z (List.mem_filter.mp hz).1), ?_⟩
            rw [eqv_strs]
            refine kk _ H' ⟨fun h => ?_, fun ⟨ys, e, _, h⟩ => decide_eq_true ?_⟩ (s1.trans sm)
            · refine ⟨zs, rfl, mz, ?_⟩
              rw [of_decide_eq_true h]
              exact List.Pairwise.filter _ NF.asc
            · have e' : zs = ys := (List.map_inj_right fun _ _ => V.str.inj).mp e
              subst e'
              exact (IsSet.eq NF ⟨mz, h⟩)
    · refine ⟨_, rfl, x, _, t, _, false, rfl, .ty "list", ty, kt, false, rfl, ifT ?_⟩
      exact kk H fun _ _ e => e
def spLTold (C : Addr) : Sp := fun vs H Q _ => ∃ (a : Addr) (N : NetD), vs = [.ref a] ∧ Made C H a N ∧ NetF N ∧ ∀ (D p q u : Addr) (qs : Qs) (H' : Hp), H D = none → H' D = some (.lst [.ref p, .ref q, .ref u]) → H' p = some (.lst (N.bs.map V.str)) → H' q = some (.lst (qrefs qs)) → QAt H' qs → qs.map (·.2) = tiesOf N N.bs → H' u = some (.dK (wtab N.bs N.wf)) → Same H H' → Q (.ref D) H'
theorem ok_l_told {f : Addr} {fd : FuncData} (F : FnP K "_law_net_told" s_l_net_told f fd) (B : FreeN mg) (M_lamps : C8.Met P w K mg base 1 C "lamps" (spMLamps C) []) (M_ties : C8.Met P w K mg base 1 C "ties" (spMTies C) []) (M_wishes : C8.Met P w K mg base 1 C "wishes" (spMWishes C) []) : FnOk P w K mg base CX0 2 f fd ["_law_made"] (spLTold C) := by
  refine fnP_ok F sc_l_net_told (fun vs H Q E h => ?_) (fun cdv A outer s H vs Q E hr h => ?_)
  · obtain ⟨a, N, rfl, _⟩ := h
    rfl
  · obtain ⟨a, N, rfl, m, NF, kk⟩ := h
    have nd := sc_l_net_told.nd
    refine ⟨_, (pss_one (ps_ret (pe_lst (pa_cons (C8.pe_mt0 (pl := _) M_lamps hr (by decide) (pv 0)) (pa_cons (C8.pe_mt0 (pl := _) M_ties hr (by decide) (pv 0)) (pa_cons (C8.pe_mt0 (pl := _) M_wishes hr (by decide) (pv 0)) pa_nil)))))), ?_⟩
    obtain ⟨dx, nr, wr, tt, a1, _⟩ := m.ex
    refine ⟨_, rfl, a, dx, _, rfl, a1, rfl, a, N, rfl, m, fun p H1 np e1 s1 => ?_⟩
    refine ⟨_, rfl, a, dx, _, rfl, s1 _ _ a1, rfl, a, N, rfl, m.same s1, NF, fun q H2 qs nq e2 qa eqs _ s2 => ?_⟩
    have s12 := s1.trans s2
    refine ⟨_, rfl, a, dx, _, rfl, s12 _ _ a1, rfl, a, N, rfl, m.same s12, fun u H3 nu e3 s3 => ?_⟩
    have s13 := s12.trans s3
    refine ⟨by show 3 ≤ sizeLine; decide, fun D nD => ?_⟩
    have sD := same_new (o := .lst [.ref p, .ref q, .ref u]) nD
    exact kk D p q u qs _ (s13.free nD) upd_same (sD _ _ (s3 _ _ (s2 _ _ e1))) (sD _ _ (s3 _ _ e2)) (qa.tu (Tu.of (s3.trans sD))) eqs (sD _ _ e3) (s13.trans sD)
end
end NK
/-! a net with still pieces -/
namespace NK
open PySem PySem.Spec PyProof.Rows L2 He K1
theorem none_but {H H' : Hp} {a R : Addr} {n : Int} (pu : Purse H' a n) (bt : But a H H') (nR : H' R = none) : H R = none := by
  cases q : H R with
  | none => rfl
  | some o =>
    exfalso
    by_cases e : R = a
    · subst e
      obtain ⟨o', e'⟩ := pu.at_
      rw [nR] at e'
      cases e'
    · have := bt R o e q
      rw [nR] at this
      cases this
theorem rep_edges {T : Addr} {x y r : Int} (r0 : 0 ≤ r) (r1 : r < 2) : ∃ us : IIs, (List.replicate r.toNat [V.ref T]).flatten = irefs us ∧ us.length ≤ 1 ∧ ∀ {H : Hp} {R : Int → Int → Prop}, H T = some (.tup [.int x, .int y]) → R x y → IPs H us R := by
  have : r = 0 ∨ r = 1 := by omega
  rcases this with rfl | rfl
  · exact ⟨[], rfl, Nat.zero_le _, fun _ _ => IPs.nil⟩
  · exact ⟨[(T, x, y)], rfl, Nat.le_refl _, fun e h => IPs.nil.snoc e h⟩
section
variable {P : Program} {w : World} {K : PySem.W.Frag} {mg : Str → Option Value} {base : Heap} {C W RW : Addr}
def spStillNet : Sp := fun vs H Q _ => ∃ (a : Addr) (n : Int), vs = [.ref a] ∧ Purse H a n ∧ n ≤ 50000 ∧ ∀ (R : Addr) (N : NetD) (H' : Hp), H R = none → NetAt H' R N → N.bs.length = 6 → Purse H' a (n + 5000) → But a H H' → Q (.ref R) H'
theorem ok_still_net {f : Addr} {fd : FuncData} (F : FnP K "_law_still_net" s_l_still_net f fd) (B : FreeN mg) (G__law_words : Has P w K mg base 4 "_law_words" ["_law_purse_here", "_law_many"] spWords) (G__law_one_of : Has P w K mg base 3 "_law_one_of" ["_law_purse_here", "_law_some"] spOne) (G__law_draw : Has P w K mg base 2 "_law_draw" ["_law_purse_here", "_law_many"] spDraw) (G__law_net_of : Has P w K mg base 1 "_law_net_of" ["_law_words_here", "_law_parts", "_law_stuck"] spNetOf) : FnOk P w K mg base CX0 5 f fd ["_law_purse_here"] spStillNet := by
  refine fnP_ok F sc_l_still_net (fun vs H Q E h => ?_) (fun cdv A outer s H vs Q E hr h => ?_)
  · obtain ⟨a, n, rfl, _⟩ := h
    rfl
  · obtain ⟨a, n, rfl, pu, n1, kk⟩ := h
    have nd := sc_l_still_net.nd
    refine ⟨_, (pss_cons (ps_set (i := 1) nd rfl (.inl rfl) (pe_has G__law_words (hr.mono (by decide)) (pa_cons (pv 0) (pa_cons pe_int pa_nil))))
      (pss_cons (ps_set (i := 2) nd rfl (.inl rfl) (pe_lst (pa_cons (pe_lst (pa_cons pe_int (pa_cons (pe_lst (pa_cons (pe_tup (pa_cons pe_int (pa_cons pe_int pa_nil))) pa_nil)) (pa_cons (pe_lst (pa_cons pe_str (pa_cons pe_str pa_nil))) pa_nil)))) (pa_cons (pe_lst (pa_cons pe_int (pa_cons (pe_lst pa_nil) (pa_cons (pe_lst (pa_cons pe_str pa_nil)) pa_nil)))) (pa_cons (pe_lst (pa_cons pe_int (pa_cons (pe_lst (pa_cons (pe_tup (pa_cons pe_int (pa_cons pe_int pa_nil))) pa_nil)) (pa_cons (pe_lst (pa_cons (pe_has G__law_one_of (hr.mono (by decide)) (pa_cons (pv 0) (pa_cons (pe_lst (pa_cons pe_str (pa_cons pe_str pa_nil))) pa_nil))) (pa_cons pe_str pa_nil))) pa_nil)))) pa_nil)))))
      (pss_one (ps_ret (pe_has G__law_net_of (hr.mono (by decide)) (pa_cons (pv 1) (pa_cons (pv 2) (pa_cons (pe_op op_cat (pe_op op_rep (pe_lst (pa_cons (pe_tup (pa_cons pe_int (pa_cons pe_int pa_nil))) pa_nil)) (pe_has G__law_draw (hr.mono (by decide)) (pa_cons (pv 0) (pa_cons pe_int pa_nil)))) (pe_op op_rep (pe_lst (pa_cons (pe_tup (pa_cons pe_int (pa_cons pe_int pa_nil))) pa_nil)) (pe_has G__law_draw (hr.mono (by decide)) (pa_cons (pv 0) (pa_cons pe_int pa_nil))))) pa_nil)))))))), ?_⟩
    refine ⟨_, rfl, a, 6, n, rfl, by decide, pu, by omega, fun p zs H1 l6 znd zw np e1 pu1 bt1 => ?_⟩
    -- the first part
    refine ⟨by show 2 ≤ sizeLine; decide, fun T1 nT1 => ⟨by show 1 ≤ sizeLine; decide, fun E1 nE1 => ⟨by show 2 ≤ sizeLine; decide, fun W1 nW1 => ⟨by show 3 ≤ sizeLine; decide, fun P1 nP1 => ?_⟩⟩⟩⟩
    have x1 := same_new (o := .tup [.int 0, .int 1]) nT1
    have x2 := same_new (o := .lst [.ref T1]) nE1
    have x3 := same_new (o := .lst [.str "odd", .str "odd"]) nW1
    have x4 := same_new (o := .lst [.int 2, .ref E1, .ref W1]) nP1
    have pa1 : PartAt (upd (upd (upd (upd H1 T1 (.tup [.int 0, .int 1])) E1 (.lst [.ref T1])) W1 (.lst [.str "odd", .str "odd"])) P1 (.lst [.int 2, .ref E1, .ref W1])) P1 2 :=
      ⟨E1, W1, [(T1, 0, 1)], ["odd", "odd"], upd_same, x4 _ _ (x3 _ _ upd_same), by show 1 ≤ 1000; decide, IPs.nil.snoc (x4 _ _ (x3 _ _ (x2 _ _ upd_same))) ⟨by decide, by decide, by decide⟩, x4 _ _ upd_same, rfl, fun x hx => .inl (by simpa using hx)⟩
    have s1 := ((x1.trans x2).trans x3).trans x4
    have nP1' := ((x1.trans x2).trans x3).free nP1
    generalize upd (upd (upd (upd H1 T1 (.tup [.int 0, .int 1])) E1 (.lst [.ref T1])) W1 (.lst [.str "odd", .str "odd"])) P1 (.lst [.int 2, .ref E1, .ref W1]) = H2 at *
    clear x1 x2 x3 x4 nT1 nE1 nW1 nP1
    -- the second one
    refine ⟨by show 0 ≤ sizeLine; decide, fun E2 nE2 => ⟨by show 1 ≤ sizeLine; decide, fun W2 nW2 => ⟨by show 3 ≤ sizeLine; decide, fun P2 nP2 => ?_⟩⟩⟩
    have x2 := same_new (o := .lst []) nE2
    have x3 := same_new (o := .lst [.str "odd"]) nW2
    have x4 := same_new (o := .lst [.int 1, .ref E2, .ref W2]) nP2
    have pa2 : PartAt (upd (upd (upd H2 E2 (.lst [])) W2 (.lst [.str "odd"])) P2 (.lst [.int 1, .ref E2, .ref W2])) P2 1 :=
      ⟨E2, W2, [], ["odd"], upd_same, x4 _ _ (x3 _ _ upd_same), by decide, IPs.nil, x4 _ _ upd_same, rfl, fun x hx => .inl (by simpa using hx)⟩
    have s2 := (x2.trans x3).trans x4
    generalize upd (upd (upd H2 E2 (.lst [])) W2 (.lst [.str "odd"])) P2 (.lst [.int 1, .ref E2, .ref W2]) = H3 at *
    clear x2 x3 x4 nE2 nW2 nP2
    -- the third one
    refine ⟨by show 2 ≤ sizeLine; decide, fun T3 nT3 => ⟨by show 1 ≤ sizeLine; decide, fun E3 nE3 => ?_⟩⟩
    have x1 := same_new (o := .tup [.int 0, .int 1]) nT3
    have x2 := same_new (o := .lst [.ref T3]) nE3
    have eT3 : upd (upd H3 T3 (.tup [.int 0, .int 1])) E3 (.lst [.ref T3]) T3 = _ := x2 _ _ upd_same
    have eE3 : upd (upd H3 T3 (.tup [.int 0, .int 1])) E3 (.lst [.ref T3]) E3 = _ := upd_same
    have s3 := x1.trans x2
    generalize upd (upd H3 T3 (.tup [.int 0, .int 1])) E3 (.lst [.ref T3]) = H4 at *
    clear x1 x2 nT3 nE3
    refine ⟨_, rfl, by show 2 ≤ sizeLine; decide, fun L nL => ?_⟩
    have x5 := same_new (o := .lst [.str "odd", .str "even"]) nL
    have s14 := ((s1.trans s2).trans s3).trans x5
    have pu4 := pu1.same s14
    have La : L ≠ a := (pu1.same ((s1.trans s2).trans s3)).ne_new nL
    refine ⟨a, L, _, _, rfl, La, upd_same, by show 0 < 2; decide, by show 2 < 100000; decide, pu4, by omega, fun i v H5 hv pu5 bt5 => ?_⟩
    have hv' : ∃ y : Str, v = .str y ∧ wishF y := by
      match i, hv with
      | 0, hv => exact ⟨"odd", (Option.some.inj hv).symm, .inl rfl⟩
      | 1, hv => exact ⟨"even", (Option.some.inj hv).symm, .inr rfl⟩
      | k + 2, hv => simp at hv
    obtain ⟨y, rfl, hy⟩ := hv'
    refine ⟨by show 2 ≤ sizeLine; decide, fun W3 nW3 => ⟨by show 3 ≤ sizeLine; decide, fun P3 nP3 => ?_⟩⟩
    have x6 := same_new (o := .lst [.str y, .str "even"]) nW3
    have x7 := same_new (o := .lst [.int 2, .ref E3, .ref W3]) nP3
    have s57 := x6.trans x7
    have k5 : ∀ (b : Addr) (o : HO), H4 b = some o → b ≠ a → upd (upd H5 W3 (.lst [.str y, .str "even"])) P3 (.lst [.int 2, .ref E3, .ref W3]) b = some o := fun b o e ne => s57 _ _ (bt5 _ _ ne (x5 _ _ e))
    have T3a : T3 ≠ a := purse_ne (pu1.same ((s1.trans s2).trans s3)) eT3 fun _ _ _ _ q => by cases q
    have E3a : E3 ≠ a := purse_ne (pu1.same ((s1.trans s2).trans s3)) eE3 fun _ _ _ _ q => by cases q
    have pa3 : PartAt (upd (upd H5 W3 (.lst [.str y, .str "even"])) P3 (.lst [.int 2, .ref E3, .ref W3])) P3 2 :=
      ⟨E3, W3, [(T3, 0, 1)], [y, "even"], upd_same, k5 _ _ eE3 E3a, by show 1 ≤ 1000; decide, IPs.nil.snoc (k5 _ _ eT3 T3a) ⟨by decide, by decide, by decide⟩, x7 _ _ upd_same, rfl, fun x hx => by
        rcases List.mem_cons.mp hx with rfl | hx
        · exact hy
        · exact .inr (List.mem_singleton.mp hx)⟩
    have pa1 := ((((pa1.same s2).same s3).same x5).but pu4 bt5).same s57
    have pa2 := (((pa2.same s3).same x5).but pu4 bt5).same s57
    have bt17 : But a H1 _ := ((But.of s14).trans bt5).trans (But.of s57)
    have pu6 := pu5.same s57
    have pa : p ≠ a := strs_ne pu1 e1
    have ep6 := bt17 _ _ pa e1
    generalize upd (upd H5 W3 (.lst [.str y, .str "even"])) P3 (.lst [.int 2, .ref E3, .ref W3]) = H6 at *
    clear k5 s57 x6 x7 nW3 nP3 eT3 eE3 x5 nL s14 pu4 s1 s2 s3 pu5 bt5
    refine ⟨by show 3 ≤ sizeLine; decide, fun PL nPL => ?_⟩
    have x8 := same_new (o := .lst [.ref P1, .ref P2, .ref P3]) nPL
    have ePL : upd H6 PL (.lst [.ref P1, .ref P2, .ref P3]) PL = some (.lst (prefs [(P1, 2), (P2, 1), (P3, 2)])) := upd_same
    have PLa := pu6.ne_new nPL
    have pu7 := pu6.same x8
    have pa1 := pa1.same x8
    have pa2 := pa2.same x8
    have pa3 := pa3.same x8
    have bt18 := bt17.trans (But.of x8)
    have ep7 := x8 _ _ ep6
    generalize upd H6 PL (.lst [.ref P1, .ref P2, .ref P3]) = H7 at *
    clear x8 nPL ep6 pu6 bt17
    refine ⟨_, rfl, _, rfl, by show 2 ≤ sizeLine; decide, fun T4 nT4 => ⟨by show 1 ≤ sizeLine; decide, fun L4 nL4 => ?_⟩⟩
    have y1 := same_new (o := .tup [.int 4, .int 5]) nT4
    have y2 := same_new (o := .lst [.ref T4]) nL4
    have eT4 : upd (upd H7 T4 (.tup [.int 4, .int 5])) L4 (.lst [.ref T4]) T4 = _ := y2 _ _ upd_same
    have eL4 : upd (upd H7 T4 (.tup [.int 4, .int 5])) L4 (.lst [.ref T4]) L4 = _ := upd_same
    have y12 := y1.trans y2
    have L4a : L4 ≠ a := (pu7.same y1).ne_new nL4
    have T4a : T4 ≠ a := pu7.ne_new nT4
    generalize upd (upd H7 T4 (.tup [.int 4, .int 5])) L4 (.lst [.ref T4]) = H8 at *
    refine ⟨_, rfl, a, 2, _, rfl, by decide, by decide, pu7.same y12, by omega, fun r H9 r0 r1 pu9 bt9 => ?_⟩
    refine ⟨L4, r, _, rfl, rfl, bt9 _ _ L4a eL4, by omega, by omega, ?_, fun Q4 nQ4 => ?_⟩
    · have : r.toNat ≤ 1 := by omega
      show 1 * r.toNat ≤ sizeLine
      rw [sizeLine_eq]
      omega
    obtain ⟨us4, e4, l4, i4⟩ := rep_edges (T := T4) (x := 4) (y := 5) r0 r1
    rw [e4]
    have z1 := same_new (o := .lst (irefs us4)) nQ4
    have eQ4 : upd H9 Q4 (.lst (irefs us4)) Q4 = _ := upd_same
    have Q4a := pu9.ne_new nQ4
    have k9 : ∀ (b : Addr) (o : HO), H7 b = some o → b ≠ a → upd H9 Q4 (.lst (irefs us4)) b = some o := fun b o e ne => z1 _ _ (bt9 _ _ ne (y12 _ _ e))
    have eT4' : upd H9 Q4 (.lst (irefs us4)) T4 = _ := z1 _ _ (bt9 _ _ T4a eT4)
    have bt79 : But a H7 (upd H9 Q4 (.lst (irefs us4))) := fun b o ne e => k9 b o e ne
    have pu9 := pu9.same z1
    generalize upd H9 Q4 (.lst (irefs us4)) = H10 at *
    clear z1 nQ4 eT4 eL4 y1 y2 nT4 nL4
    refine ⟨by show 2 ≤ sizeLine; decide, fun T5 nT5 => ⟨by show 1 ≤ sizeLine; decide, fun L5 nL5 => ?_⟩⟩
    have y1 := same_new (o := .tup [.int 2, .int 5]) nT5
    have y2 := same_new (o := .lst [.ref T5]) nL5
    have eT5 : upd (upd H10 T5 (.tup [.int 2, .int 5])) L5 (.lst [.ref T5]) T5 = _ := y2 _ _ upd_same
    have eL5 : upd (upd H10 T5 (.tup [.int 2, .int 5])) L5 (.lst [.ref T5]) L5 = _ := upd_same
    have y13 := y1.trans y2
    have L5a : L5 ≠ a := (pu9.same y1).ne_new nL5
    have T5a : T5 ≠ a := pu9.ne_new nT5
    generalize upd (upd H10 T5 (.tup [.int 2, .int 5])) L5 (.lst [.ref T5]) = H11 at *
    refine ⟨_, rfl, a, 2, _, rfl, by decide, by decide, pu9.same y13, by omega, fun r' H12 r0' r1' pu12 bt12 => ?_⟩
    refine ⟨L5, r', _, rfl, rfl, bt12 _ _ L5a eL5, by omega, by omega, ?_, fun Q5 nQ5 => ?_⟩
    · have : r'.toNat ≤ 1 := by omega
      show 1 * r'.toNat ≤ sizeLine
      rw [sizeLine_eq]
      omega
    obtain ⟨us5, e5, l5, i5⟩ := rep_edges (T := T5) (x := 2) (y := 5) r0' r1'
    rw [e5]
    have z1 := same_new (o := .lst (irefs us5)) nQ5
    have k12 : ∀ (b : Addr) (o : HO), H10 b = some o → b ≠ a → upd H12 Q5 (.lst (irefs us5)) b = some o := fun b o e ne => z1 _ _ (bt12 _ _ ne (y13 _ _ e))
    refine ⟨Q4, Q5, _, _, rfl, rfl, k12 _ _ eQ4 Q4a, upd_same, by rw [irefs_len, irefs_len]; exact room_le _ (by omega), fun M nM => ?_⟩
    have ip4 := i4 (R := edge 6) (k12 _ _ eT4' T4a) ⟨by decide, by decide, by decide⟩
    have ip5 := i5 (R := edge 6) (z1 _ _ (bt12 _ _ T5a eT5)) ⟨by decide, by decide, by decide⟩
    obtain ⟨eM, iM⟩ := edge_cat (ip4.mono fun x y h => h) ip5 nM
    have zM := same_new (o := .lst (irefs us4 ++ irefs us5)) nM
    have btF : But a H7 (upd (upd H12 Q5 (.lst (irefs us5))) M (.lst (irefs us4 ++ irefs us5))) := bt79.trans (fun b o ne e => zM _ _ (k12 b o e ne))
    refine ⟨p, PL, M, zs, [(P1, 2), (P2, 1), (P3, 2)], us4 ++ us5, rfl, btF _ _ pa ep7, znd, zw, by omega, btF _ _ PLa ePL, by show 3 ≤ 3; decide, fun t ht => ?_, by show 1 ≤ 2 + (1 + (2 + 0)); decide, ?_, eM, by rw [List.length_append]; omega, by rw [l6]; exact iM, fun R N H13 nR na len s13 => ?_⟩
    · have go : ∀ {P : Addr} {m : Nat}, PartAt H7 P m → PartAt (upd (upd H12 Q5 (.lst (irefs us5))) M (.lst (irefs us4 ++ irefs us5))) P m := fun h => h.but pu7 btF
      rcases List.mem_cons.mp ht with rfl | ht
      · exact go pa1
      rcases List.mem_cons.mp ht with rfl | ht
      · exact go pa2
      · rw [List.mem_singleton.mp ht]
        exact go pa3
    · rw [l6]
      show 2 + (1 + (2 + 0)) ≤ 6
      decide
    · have btA := (bt1.trans bt18).trans (btF.trans (But.of s13))
      refine kk R N H13 ?_ na (by rw [len, l6]) ((((pu12.same z1).same zM).same s13).mono (by omega)) btA
      exact none_but ((pu12.same z1).same zM) ((bt1.trans bt18).trans btF) nR
end
end NK
/-! settings bent in one place, and things that are none -/
namespace NK
open PySem PySem.Spec PyProof.Rows L2 He K1
theorem Th.cases {K : PySem.W.Frag} {H : Hp} {n : Nat} {x : V} (h : Th H n x) : (∃ (p : Addr) (xs : List V), x = .ref p ∧ H p = some (.lst xs) ∧ xs.length ≤ 60 ∧ ∀ y ∈ xs, ∀ H', Same H H' → Item K H' y) ∨ ∀ H', Same H H' → NoList K H' x := by
  have item : ∀ {m : Nat} {y : V}, Th H m y → ∀ H', Same H H' → Item K H' y := fun {m y} hy H' s => by
    have lf : Leaf y → Item K H' y := fun h => by
      obtain ⟨t, ty, _, _, _, k⟩ := h.ty (K := K) (H := H')
      rcases h with rfl | ⟨b, rfl⟩ | ⟨i, rfl⟩ | ⟨z, rfl⟩
      · exact .inr ⟨(fun z h => by cases h), t, ty, k.elim (fun ⟨z, h⟩ => by cases h) id⟩
      · exact .inr ⟨(fun z h => by cases h), t, ty, k.elim (fun ⟨z, h⟩ => by cases h) id⟩
      · exact .inr ⟨(fun z h => by cases h), t, ty, k.elim (fun ⟨z, h⟩ => by cases h) id⟩
      · exact .inl ⟨z, rfl⟩
    cases m with
    | zero => exact lf hy
    | succ m =>
      rcases hy with h | ⟨a, xs, rfl, _, _, e | e⟩ | ⟨a, zs, g, rfl, _, _, _, _, e⟩
      · exact lf h
      · exact .inr ⟨(fun z h => by cases h), _, .base (.lst (s _ _ e)), rfl⟩
      · exact .inr ⟨(fun z h => by cases h), _, .base (.tup (s _ _ e)), rfl⟩
      · exact .inr ⟨(fun z h => by cases h), _, .base (.dK (s _ _ e)), rfl⟩
  have lf : Leaf x → ∀ H', Same H H' → NoList K H' x := fun h H' _ => by
    obtain ⟨t, ty, _, k, _⟩ := h.ty (K := K) (H := H')
    exact ⟨t, ty, k⟩
  cases n with
  | zero => exact .inr (lf h)
  | succ m =>
    rcases h with h | ⟨a, xs, rfl, l, hx, e | e⟩ | ⟨a, zs, g, rfl, _, _, _, _, e⟩
    · exact .inr (lf h)
    · exact .inl ⟨a, xs, rfl, e, l, fun y hy => item (hx y hy)⟩
    · exact .inr fun H' s => ⟨_, .base (.tup (s _ _ e)), rfl⟩
    · exact .inr fun H' s => ⟨_, .base (.dK (s _ _ e)), rfl⟩
/-- it gives a thing -/
def GE (I : Hp → Prop) (σ : L2.St) (t : TE) : Prop := ∀ (H : Hp) (Q : VK), I H → (∀ (v : V) (H' : Hp), Same H H' → Th H' 2 v → Q v H') → t σ H Q
def GA (I : Hp → Prop) (σ : L2.St) (t : TA) (n : Nat) : Prop := ∀ (H : Hp) (Q : List V → Hp → Prop), I H → (∀ (vs : List V) (H' : Hp), Same H H' → vs.length = n → (∀ v ∈ vs, Th H' 2 v) → Q vs H') → t σ H Q
def Kept (I : Hp → Prop) : Prop := ∀ H H', Same H H' → I H → I H'
theorem GA.nil {I : Hp → Prop} {σ : L2.St} : GA I σ tNil 0 := fun H Q _ k => k [] H (fun _ _ e => e) rfl fun v h => nomatch h
theorem GA.cons {I : Hp → Prop} {σ : L2.St} {t : TE} {ts : TA} {n : Nat} (kI : Kept I) (h : GE I σ t) (r : GA I σ ts n) : GA I σ (tCons t ts) (n + 1) := fun H Q i k => h H _ i fun v H1 s1 th => r H1 _ (kI _ _ s1 i) fun vs H2 s2 l hv => k (v :: vs) H2 (s1.trans s2) (by rw [List.length_cons, l]) fun u hu => (List.mem_cons.mp hu).elim (fun e => e ▸ th.same s2) (hv u)
theorem GA.lst {I : Hp → Prop} {σ : L2.St} {ts : TA} {n : Nat} (h : GA I σ ts n) (hn : n ≤ 60) {H : Hp} {Q : VK} (i : I H) (k : ∀ (D : Addr) (xs : List V) (H' : Hp), Same H H' → H D = none → H' D = some (.lst xs) → xs.length = n → (∀ v ∈ xs, Th H' 2 v) → Q (.ref D) H') : tLst ts σ H Q :=
  h H _ i fun vs H1 s1 l hv => ⟨by rw [l, sizeLine_eq]; omega, fun D nD => k D vs _ (s1.trans (same_new nD)) (s1.free nD) upd_same l fun v hv' => (hv v hv').same (same_new nD)⟩
theorem ge_c {I : Hp → Prop} {σ : L2.St} {c : V} (h : Leaf c) : GE I σ (tC c) := fun H Q _ k => k c H (fun _ _ e => e) h.th
theorem ge_v {I : Hp → Prop} {σ : L2.St} {i : Nat} {z : Str} (h : σ[i]? = some (some (.str z))) : GE I σ (tVar i) := fun H Q _ k => ⟨_, h, k _ H (fun _ _ e => e) (Leaf.th (.inr (.inr (.inr ⟨z, rfl⟩))))⟩
/-- a list of what is no object -/
theorem th_lst {H : Hp} {D : Addr} {n : Nat} {xs : List V} (e : H D = some (.lst xs)) (l : xs.length ≤ 60) (h : ∀ x ∈ xs, Leaf x) : Th H (n + 1) (.ref D) := .inr (.inl ⟨D, xs, rfl, l, fun y hy => (h y hy).th, .inl e⟩)
theorem th_tup {H : Hp} {D : Addr} {n : Nat} {xs : List V} (e : H D = some (.tup xs)) (l : xs.length ≤ 60) (h : ∀ x ∈ xs, Leaf x) : Th H (n + 1) (.ref D) := .inr (.inl ⟨D, xs, rfl, l, fun y hy => (h y hy).th, .inr e⟩)
theorem leaf_strs {zs : List Str} : ∀ x ∈ zs.map V.str, Leaf x := fun x hx => by
  obtain ⟨z, _, rfl⟩ := List.mem_map.mp hx
  exact .inr (.inr (.inr ⟨z, rfl⟩))
def LA (I : Hp → Prop) (σ : L2.St) (t : TA) (xs : List V) : Prop := ∀ (H : Hp) (Q : List V → Hp → Prop), Q xs H → t σ H Q
theorem LA.nil {I : Hp → Prop} {σ : L2.St} : LA I σ tNil [] := fun H Q k => k
theorem LA.c {I : Hp → Prop} {σ : L2.St} {c : V} {t : TA} {xs : List V} (r : LA I σ t xs) : LA I σ (tCons (tC c) t) (c :: xs) := fun H Q k => r H _ k
theorem LA.v {I : Hp → Prop} {σ : L2.St} {c : V} {i : Nat} {t : TA} {xs : List V} (h : σ[i]? = some (some c)) (r : LA I σ t xs) : LA I σ (tCons (tVar i) t) (c :: xs) := fun H Q k => ⟨_, h, r H _ k⟩
theorem ge_l {I : Hp → Prop} {σ : L2.St} {t : TA} {xs : List V} (h : LA I σ t xs) (l : xs.length ≤ 60) (lf : ∀ x ∈ xs, Leaf x) : GE I σ (tLst t) := fun H Q _ k => h H _ ⟨by rw [sizeLine_eq]; omega, fun D nD => k _ _ (same_new nD) (th_lst upd_same l lf)⟩
theorem ge_t {I : Hp → Prop} {σ : L2.St} {t : TA} {xs : List V} (h : LA I σ t xs) (l : xs.length ≤ 60) (lf : ∀ x ∈ xs, Leaf x) : GE I σ (tTup t) := fun H Q _ k => h H _ ⟨by rw [sizeLine_eq]; omega, fun D nD => k _ _ (same_new nD) (th_tup upd_same l lf)⟩
theorem toNat01 (c : Bool) : (if c = true then (1 : Int) else 0).toNat ≤ 1 := by cases c <;> decide
theorem rep01 (c : Bool) (xs : List V) : (List.replicate (if c = true then (1 : Int) else 0).toNat xs).flatten = if c = true then xs else [] := by cases c <;> simp
theorem at_last {z : Str} {r bs : List Str} (e : bs = z :: r) : ∃ zl, atI (bs.map V.str) (-1) = some (V.str zl) := by
  rcases List.eq_nil_or_concat bs with h | ⟨l, x, h⟩
  · rw [e] at h
    cases h
  · rw [h, List.map_concat]
    exact ⟨x, by simpa using atI_last (l.map V.str) (V.str x)⟩
/-! ### the three lists, each by itself -/
def BI (b p : Addr) (bs zs : List Str) (H : Hp) : Prop := H b = some (.lst (bs.map V.str)) ∧ H p = some (.lst (zs.map V.str))
theorem BI.kept {b p : Addr} {bs zs : List Str} : Kept (BI b p bs zs) := fun _ _ s h => ⟨s _ _ h.1, s _ _ h.2⟩
/-- the slots -/
structure SB (σ : L2.St) (p b : Addr) (far z0 zl : Str) : Prop where
  s2 : σ[2]? = some (some (.ref p))
  s3 : σ[3]? = some (some (.ref b))
  s4 : σ[4]? = some (some (.str far))
  s5 : σ[5]? = some (some (.str z0))
  s6 : σ[6]? = some (some (.str zl))
theorem seq_lst {I : Hp → Prop} {σ : L2.St} {ts : TA} {n i : Nat} {u : TS} {D : Ends} {H : Hp} (h : GA I σ ts n) (hn : n ≤ 60) (hi : I H)
    (k : ∀ (F : Addr) (xs : List V) (H' : Hp), Same H H' → H F = none → H' F = some (.lst xs) → xs.length = n → (∀ v ∈ xs, Th H' 2 v) → u D (σ.set i (some (.ref F))) H') : tSeq (tAsg (tLst ts) (gName i)) u D σ H := by
  show tLst ts σ H (fun x H1 => u D (σ.set i (some x)) H1)
  exact GA.lst (Q := fun x H1 => u D (σ.set i (some x)) H1) h hn hi k
theorem seq_cat {I : Hp → Prop} {σ : L2.St} {ts : TA} {n m i j : Nat} {u : TS} {D : Ends} {H : Hp} {L : Addr} {ys : List V} (h : GA I σ ts n) (hn : n ≤ 60) (hi : I H) (hj : σ[j]? = some (some (.ref L))) (eL : H L = some (.lst ys)) (ly : ys.length = m) (hy : ∀ v ∈ ys, Th H 2 v) (hm : m + n ≤ 60)
    (k : ∀ (F : Addr) (xs : List V) (H' : Hp), Same H H' → H F = none → H' F = some (.lst xs) → xs.length = m + n → (∀ v ∈ xs, Th H' 2 v) → u D (σ.set i (some (.ref F))) H') : tSeq (tAsg (tOp rCat (tVar j) (tLst ts)) (gName i)) u D σ H :=
  ⟨_, hj, h.lst hn hi fun G xs H' s nG eG lx hx => ⟨L, G, ys, xs, rfl, rfl, s _ _ eL, eG, by rw [ly, lx, sizeLine_eq]; omega, fun F nF => k F _ _ (s.trans (same_new nF)) (s.free nF) upd_same (by rw [List.length_append, ly, lx]) fun v hv => (List.mem_append.mp hv).elim (fun q => (hy v q).same (s.trans (same_new nF))) fun q => (hx v q).same (same_new nF)⟩⟩
theorem ret_cat {I : Hp → Prop} {σ : L2.St} {ts : TA} {n m j : Nat} {D : Ends} {H : Hp} {L : Addr} {ys : List V} (h : GA I σ ts n) (hn : n ≤ 60) (hi : I H) (hj : σ[j]? = some (some (.ref L))) (eL : H L = some (.lst ys)) (ly : ys.length = m) (hy : ∀ v ∈ ys, Th H 2 v) (hm : m + n ≤ 60)
    (k : ∀ (F : Addr) (xs : List V) (H' : Hp), Same H H' → H F = none → H' F = some (.lst xs) → xs.length = m + n → (∀ v ∈ xs, Th H' 2 v) → D.rt (.ref F) H') : tRet (tOp rCat (tVar j) (tLst ts)) D σ H :=
  ⟨_, hj, h.lst hn hi fun G xs H' s nG eG lx hx => ⟨L, G, ys, xs, rfl, rfl, s _ _ eL, eG, by rw [ly, lx, sizeLine_eq]; omega, fun F nF => k F _ _ (s.trans (same_new nF)) (s.free nF) upd_same (by rw [List.length_append, ly, lx]) fun v hv => (List.mem_append.mp hv).elim (fun q => (hy v q).same (s.trans (same_new nF))) fun q => (hx v q).same (same_new nF)⟩⟩
theorem lf_s (z : Str) : Leaf (.str z) := .inr (.inr (.inr ⟨z, rfl⟩))
theorem lf_1 {c : V} (h : Leaf c) : ∀ x ∈ [c], Leaf x := fun x hx => by rw [List.mem_singleton.mp hx]; exact h
theorem lf_2 {c d : V} (h1 : Leaf c) (h2 : Leaf d) : ∀ x ∈ [c, d], Leaf x := fun x hx => by
  rcases List.mem_cons.mp hx with rfl | hx
  · exact h1
  · rw [List.mem_singleton.mp hx]; exact h2
section
variable {K : PySem.W.Frag} {σ : L2.St} {a R p b : Addr} {far z0 zl : Str} {bs zs : List Str}
theorem g_one (s : SB σ p b far z0 zl) : GA (BI b p bs zs) σ (tCons (tC .non) (tCons (tC (.int 0)) (tCons (tC (.bl true)) (tCons (tC (.str "")) (tCons (tTup tNil) (tCons tDNewK (tCons (tVar 5) (tCons (tTup (tCons (tVar 5) tNil))
    (tCons (tLst (tCons (tC .non) tNil)) (tCons (tLst (tCons (tC (.int 0)) tNil)) (tCons (tLst (tCons (tLst (tCons (tVar 5) tNil)) tNil)) (tCons (tLst (tCons (tVar 4) tNil)) (tCons (tLst (tCons (tVar 5) (tCons (tVar 4) tNil))) (tCons (tLst (tCons (tVar 4) (tCons (tVar 5) tNil))) (tCons (tLst (tCons (tVar 5) (tCons (tVar 5) tNil)))
    (tCons (tOp rCat (tOp rRep (tLst (tCons (tVar 6) (tCons (tVar 5) tNil))) (tCB (fun xs H Q => (∃ i, xs = [.int i] ∧ Q (.int i) H) ∨ ∃ k, xs = [.bl k] ∧ Q (.int (if k then 1 else 0)) H) (tCons (tOp (rI0 fun i j => .bl (decide (j < i))) (tCB (rLenSeq K) (tCons (tVar 3) tNil)) (tC (.int 1))) tNil))) (tLst (tCons (tVar 5) tNil)))
    (tCons (tDisp [(tVar 5, tC (.bl true))]) tNil))))))))))))))))) 17 := by
  refine GA.cons BI.kept (ge_c (.inl rfl)) ?_
  refine GA.cons BI.kept (ge_c (.inr (.inr (.inl ⟨_, rfl⟩)))) ?_
  refine GA.cons BI.kept (ge_c (.inr (.inl ⟨_, rfl⟩))) ?_
  refine GA.cons BI.kept (ge_c (lf_s _)) ?_
  refine GA.cons BI.kept (ge_t LA.nil (by decide) fun x h => nomatch h) ?_
  refine GA.cons BI.kept (fun H Q _ k => fun D nD => k _ _ (same_new nD) (.inr (.inr ⟨D, [], fun _ => .non, rfl, by decide, by decide, List.nodup_nil, fun _ => .inl rfl, upd_same⟩))) ?_
  refine GA.cons BI.kept (ge_v (z := z0) s.s5) ?_
  refine GA.cons BI.kept (ge_t (LA.v (c := .str z0) s.s5 LA.nil) (by show 1 ≤ 60; decide) (lf_1 (lf_s _))) ?_
  refine GA.cons BI.kept (ge_l (LA.c LA.nil) (by show 1 ≤ 60; decide) (lf_1 (.inl rfl))) ?_
  refine GA.cons BI.kept (ge_l (LA.c LA.nil) (by show 1 ≤ 60; decide) (lf_1 (.inr (.inr (.inl ⟨_, rfl⟩))))) ?_
  refine GA.cons BI.kept (fun H Q _ k => ⟨_, s.s5, by show 1 ≤ sizeLine; decide, fun D1 n1 => ⟨by show 1 ≤ sizeLine; decide, fun D2 n2 => k _ _ ((same_new n1).trans (same_new n2)) (.inr (.inl ⟨D2, [.ref D1], rfl, by show 1 ≤ 60; decide, fun y hy => ?_, .inl upd_same⟩))⟩⟩) ?_
  · rw [List.mem_singleton.mp hy]
    exact th_lst (same_new n2 _ _ upd_same) (by show 1 ≤ 60; decide) (lf_1 (lf_s z0))
  refine GA.cons BI.kept (ge_l (LA.v (c := .str far) s.s4 LA.nil) (by show 1 ≤ 60; decide) (lf_1 (lf_s _))) ?_
  refine GA.cons BI.kept (ge_l (LA.v (c := .str z0) s.s5 (LA.v (c := .str far) s.s4 LA.nil)) (by show 2 ≤ 60; decide) (lf_2 (lf_s _) (lf_s _))) ?_
  refine GA.cons BI.kept (ge_l (LA.v (c := .str far) s.s4 (LA.v (c := .str z0) s.s5 LA.nil)) (by show 2 ≤ 60; decide) (lf_2 (lf_s _) (lf_s _))) ?_
  refine GA.cons BI.kept (ge_l (LA.v (c := .str z0) s.s5 (LA.v (c := .str z0) s.s5 LA.nil)) (by show 2 ≤ 60; decide) (lf_2 (lf_s _) (lf_s _))) ?_
  refine GA.cons BI.kept (fun H Q i k => ?_) ?_
  · refine ⟨_, s.s6, _, s.s5, by show 2 ≤ sizeLine; decide, fun D1 n1 => ?_⟩
    have x1 := same_new (o := .lst [.str zl, .str z0]) n1
    refine ⟨_, s.s3, b, _, rfl, .inl (SqL.of (x1 _ _ i.1)), _, _, rfl, rfl, .inr ⟨_, rfl, D1, _, _, rfl, rfl, upd_same, ?_, ?_, ?_, fun D2 n2 => ?_⟩⟩
    · split <;> omega
    · split <;> omega
    · have := toNat01 (decide ((1 : Int) < ((List.map V.str bs).length : Nat)))
      show 2 * _ ≤ sizeLine
      rw [sizeLine_eq]
      omega
    rw [rep01]
    have x2 := same_new (o := .lst (if decide ((1 : Int) < ((List.map V.str bs).length : Nat)) = true then [V.str zl, V.str z0] else [])) n2
    have lc : (if decide ((1 : Int) < ((List.map V.str bs).length : Nat)) = true then [V.str zl, V.str z0] else []).length ≤ 2 := by
      split
      · show 2 ≤ 2
        decide
      · show 0 ≤ 2
        decide
    have lfc : ∀ x ∈ (if decide ((1 : Int) < ((List.map V.str bs).length : Nat)) = true then [V.str zl, V.str z0] else []), Leaf x := by
      split
      · exact lf_2 (lf_s _) (lf_s _)
      · exact fun x h => nomatch h
    refine ⟨_, s.s5, by show 1 ≤ sizeLine; decide, fun D3 n3 => ?_⟩
    have x3 := same_new (o := .lst [.str z0]) n3
    refine ⟨D2, D3, _, _, rfl, rfl, x3 _ _ upd_same, upd_same, by rw [sizeLine_eq]; show _ + 1 ≤ _; omega, fun D4 n4 => k _ _ (((x1.trans x2).trans x3).trans (same_new n4)) (th_lst upd_same (by rw [List.length_append]; show _ + 1 ≤ 60; omega) fun x hx => ?_)⟩
    rcases List.mem_append.mp hx with hx | hx
    · exact lfc x hx
    · exact lf_1 (lf_s z0) x hx
  refine GA.cons BI.kept (fun H Q i k => ?_) GA.nil
  refine fun q nq => ⟨_, s.s5, upd_same, [(Sum.inr z0, .bl true)], rfl, by show 1 ≤ 15; decide, k _ _ (upd_same' (same_new nq) nq) (.inr (.inr ⟨q, [z0], fun _ => .bl true, rfl, by decide, by show 1 ≤ 100; decide, List.nodup_cons.mpr ⟨List.not_mem_nil, List.nodup_nil⟩, fun _ => .inr (.inl ⟨_, rfl⟩), upd_same⟩))⟩
theorem leaf_cut {zs : List Str} {lo hi : Option Int} : ∀ x ∈ cutV (zs.map V.str) lo hi, Leaf x := by
  rw [cut_strs]
  exact leaf_strs
theorem len_cut {zs : List Str} {lo hi : Option Int} : (cutV (zs.map V.str) lo hi).length ≤ zs.length := by
  rw [cut_strs, List.length_map]
  exact cutG_len _ _ _
theorem leaf_app {xs ys : List V} (h1 : ∀ x ∈ xs, Leaf x) (h2 : ∀ x ∈ ys, Leaf x) : ∀ x ∈ xs ++ ys, Leaf x := fun x hx => (List.mem_append.mp hx).elim (h1 x) (h2 x)
theorem g_two (s : SB σ p b far z0 zl) (lz : zs.length ≤ 20) (w0 : z0.length ≤ 8) (lj : (bs.map (·.length)).sum + bs.length * 0 ≤ 16777216) : GA (BI b p bs zs) σ (tCons (tCB (rTupOf K) (tCons (tVar 2) tNil)) (tCons (tRevL K (tVar 2))
    (tCons (tOp rCat (tVar 2) (tSl (rSlL K) (tVar 2) (tPart (tUn (rU fun i => .int (-i)) (tC (.int 1)))) tNoPart)) (tCons (tOp rCat (tVar 2) (tLst (tCons (tC .non) tNil))) (tCons (tOp rCat (tVar 2) (tLst (tCons (tVar 4) tNil))) (tCons (tLst (tCons (tVar 2) tNil))
    (tCons (tM1 (fun x xs H Q => ∃ a p, ∃ ys : List Str, x = .str a ∧ xs = [.ref p] ∧ (SqL K H p (ys.map V.str) ∨ SqT K H p (ys.map V.str)) ∧ (ys.map (·.length)).sum + ys.length * a.length ≤ 16777216 ∧ Q (.str (Txt.join a ys)) H) (tC (.str "")) (tVar 3))
    (tCons (tLst (tCons (tOp (fun x y H Q => ∃ i j, x = .str i ∧ y = .str j ∧ i.length + j.length ≤ sizeLine ∧ Q (.str (i ++ j)) H) (tVar 5) (tC (.str "A"))) tNil)) (tCons (tLst (tCons (tC (.bl true)) tNil)) tNil))))))))) 9 := by
  have lm : (zs.map V.str).length ≤ 20 := by rw [List.length_map]; exact lz
  have ths : ∀ {H : Hp} {n : Nat}, BI b p bs zs H → Th H (n + 1) (.ref p) := fun i => th_lst i.2 (by omega) leaf_strs
  refine GA.cons BI.kept (fun H Q i k => ⟨_, s.s2, p, _, rfl, .inl ⟨SqL.of i.2, fun T nT => k _ _ (same_new nT) (th_tup upd_same (by omega) leaf_strs)⟩⟩) ?_
  refine GA.cons BI.kept (fun H Q i k => ⟨_, s.s2, p, _, rfl, SqL.of i.2, fun T nT => k _ _ (same_new nT) (th_lst upd_same (by rw [List.length_reverse]; omega) fun x hx => leaf_strs x (List.mem_reverse.mp hx))⟩) ?_
  refine GA.cons BI.kept (fun H Q i k => ?_) ?_
  · refine ⟨_, s.s2, _, s.s2, 1, rfl, -1, rfl, p, _, rfl, SqL.of i.2, fun q nq => ?_⟩
    have x1 := same_new (o := .lst (cutV (zs.map V.str) (some (-1)) none)) nq
    have lc : (cutV (zs.map V.str) (some (-1)) none).length ≤ zs.length := len_cut
    exact ⟨p, q, _, _, rfl, rfl, x1 _ _ i.2, upd_same, by rw [sizeLine_eq]; omega, fun r nr => k _ _ (x1.trans (same_new nr)) (th_lst upd_same (by rw [List.length_append]; omega) (leaf_app leaf_strs leaf_cut))⟩
  refine GA.cons BI.kept (fun H Q i k => ?_) ?_
  · refine ⟨_, s.s2, by show 1 ≤ sizeLine; decide, fun D1 n1 => ?_⟩
    have x1 := same_new (o := .lst [V.non]) n1
    exact ⟨p, D1, _, _, rfl, rfl, x1 _ _ i.2, upd_same, by rw [sizeLine_eq]; show _ + 1 ≤ _; omega, fun D2 n2 => k _ _ (x1.trans (same_new n2)) (th_lst upd_same (by rw [List.length_append]; show _ + 1 ≤ _; omega) (leaf_app leaf_strs (lf_1 (.inl rfl))))⟩
  refine GA.cons BI.kept (fun H Q i k => ?_) ?_
  · refine ⟨_, s.s2, _, s.s4, by show 1 ≤ sizeLine; decide, fun D1 n1 => ?_⟩
    have x1 := same_new (o := .lst [V.str far]) n1
    exact ⟨p, D1, _, _, rfl, rfl, x1 _ _ i.2, upd_same, by rw [sizeLine_eq]; show _ + 1 ≤ _; omega, fun D2 n2 => k _ _ (x1.trans (same_new n2)) (th_lst upd_same (by rw [List.length_append]; show _ + 1 ≤ _; omega) (leaf_app leaf_strs (lf_1 (lf_s _))))⟩
  refine GA.cons BI.kept (fun H Q i k => ?_) ?_
  · refine ⟨_, s.s2, by show 1 ≤ sizeLine; decide, fun D1 n1 => k _ _ (same_new n1) (.inr (.inl ⟨D1, [.ref p], rfl, by show 1 ≤ 60; decide, fun y hy => ?_, .inl upd_same⟩))⟩
    rw [List.mem_singleton.mp hy]
    exact (ths i).same (same_new n1)
  refine GA.cons BI.kept (fun H Q i k => ⟨⟨_, rfl⟩, _, s.s3, "", b, bs, rfl, rfl, .inl (SqL.of i.1), lj, k _ H (fun _ _ e => e) (Leaf.th (lf_s _))⟩) ?_
  refine GA.cons BI.kept (fun H Q i k => ?_) ?_
  · refine ⟨_, s.s5, z0, "A", rfl, rfl, by rw [sizeLine_eq]; show _ + 1 ≤ _; omega, by show 1 ≤ sizeLine; decide, fun D nD => k _ _ (same_new nD) (th_lst upd_same (by show 1 ≤ 60; decide) (lf_1 (lf_s _)))⟩
  exact GA.cons BI.kept (ge_l (LA.c LA.nil) (by show 1 ≤ 60; decide) (lf_1 (.inr (.inl ⟨_, rfl⟩)))) GA.nil
theorem g_three (s : SB σ p b far z0 zl) (hw : ∀ x, wipe ((wipe σ [8]).set 8 (some x)) [8] = wipe σ [8]) (hv : ∀ x, ((wipe σ [8]).set 8 (some x))[8]? = some (some x)) (hp : ∀ x, ((wipe σ [8]).set 8 (some x))[2]? = some (some (.ref p))) (lz : zs.length ≤ 20) (lb : bs.length ≤ 20) : GA (BI b p bs zs) σ (tCons (tVar 2) (tCons (tLst tNil) (tCons (tCB (rListOf K) (tCons (tVar 3) tNil)) (tCons (tRevL K (tVar 3))
    (tCons (tLc (iList K (tVar 3)) (gName 8) (tTest (tOp (rIn K true) (tVar 8) (tVar 2))) (tVar 8) [8]) tNil))))) 5 := by
  have lm : (zs.map V.str).length ≤ 20 := by rw [List.length_map]; exact lz
  have lm' : (bs.map V.str).length ≤ 20 := by rw [List.length_map]; exact lb
  refine GA.cons BI.kept (fun H Q i k => ⟨_, s.s2, k _ H (fun _ _ e => e) (th_lst i.2 (by omega) leaf_strs)⟩) ?_
  refine GA.cons BI.kept (ge_l LA.nil (by decide) fun x h => nomatch h) ?_
  refine GA.cons BI.kept (fun H Q i k => ⟨_, s.s3, b, _, rfl, .inl (SqL.of i.1), fun D nD => k _ _ (same_new nD) (th_lst upd_same (by omega) leaf_strs)⟩) ?_
  refine GA.cons BI.kept (fun H Q i k => ⟨_, s.s3, b, _, rfl, SqL.of i.1, fun T nT => k _ _ (same_new nT) (th_lst upd_same (by rw [List.length_reverse]; omega) fun x hx => leaf_strs x (List.mem_reverse.mp hx))⟩) ?_
  refine GA.cons BI.kept (fun H Q i k => ?_) GA.nil
  refine ⟨_, s.s3, b, rfl, ⟨_, SqL.of i.1⟩, fun D nD => ?_⟩
  refine lc_list (K := K) (a := b) (xs := bs.map V.str) (fun i H' => Same H H' ∧ H' D = some (.lst (((bs.take i).filter fun y => !decide (y ∈ zs)).map V.str))) ⟨same_new nD, upd_same⟩ (fun j H' _ ⟨sm, _⟩ => SqL.of (sm _ _ i.1)) ?_ ?_
  · rintro j y H' hy ⟨sm, eG⟩
    rw [List.getElem?_map] at hy
    cases ey : bs[j]? with
    | none =>
      rw [ey] at hy
      cases hy
    | some z =>
    rw [ey] at hy
    cases hy
    refine ⟨hw _, _, hv _, _, hp _, p, _, rfl, .inl (SqL.of (sm _ _ i.2)), rfl, flat_strs zs, _, rfl, ?_⟩
    rw [inV_str, filt_snoc ey]
    refine ite2 (fun h => ?_) (fun h => ?_)
    · refine ⟨_, hv _, _, eG, room_filt (by omega) j, upd_same' sm nD, ?_⟩
      rw [upd_same, if_pos (show (!decide (z ∈ zs)) = true from h), List.map_append]
      rfl
    · refine ⟨sm, ?_⟩
      rw [if_neg (show ¬ (!decide (z ∈ zs)) = true from h), List.append_nil]
      exact eG
  · rintro H' ⟨sm, eG⟩
    refine k _ H' sm (th_lst eG ?_ leaf_strs)
    rw [List.length_map, List.length_map, List.take_length]
    have := List.length_filter_le (fun y => !decide (y ∈ zs)) bs
    omega
end
theorem join_few : ∀ {bs : List Str}, (∀ z ∈ bs, Word z) → (bs.map (·.length)).sum ≤ 8 * bs.length
  | [], _ => Nat.le_refl _
  | z :: bs, h => by
    have h1 := join_few fun y hy => h y (List.mem_cons_of_mem _ hy)
    have h2 := (h z List.mem_cons_self).2.1
    rw [List.map_cons, List.sum_cons, List.length_cons]
    omega
section
variable {P : Program} {w : World} {K : PySem.W.Frag} {mg : Str → Option Value} {base : Heap} {C W RW : Addr}
def spBent : Sp := fun vs H Q _ => ∃ (a R p : Addr) (N : NetD) (zs : List Str), vs = [.ref a, .ref R, .ref p] ∧ NetAt H R N ∧ H p = some (.lst (zs.map V.str)) ∧ IsSet N zs ∧ ∀ (D : Addr) (xs : List V) (H' : Hp), H D = none → H' D = some (.lst xs) → xs.length ≤ 60 → (∀ x ∈ xs, Th H' 2 x) → Same H H' → Q (.ref D) H'
theorem ok_bent {f : Addr} {fd : FuncData} (F : FnP K "_law_bent_settings" s_l_bent_settings f fd) (B : FreeN mg) (G__law_far : Has P w K mg base 1 "_law_far" ["_law_words_here"] spFar) : FnOk P w K mg base CX0 2 f fd ["_law_purse_here", "_law_net_here", "_law_setting_here"] spBent := by
  refine fnP_ok F sc_l_bent_settings (fun vs H Q E h => ?_) (fun cdv A outer s H vs Q E hr h => ?_)
  · obtain ⟨a, R, p, N, zs, rfl, _⟩ := h
    rfl
  · obtain ⟨a, R, p, N, zs, rfl, na, ep, st, kk⟩ := h
    have nd := sc_l_bent_settings.nd
    refine ⟨_, (pss_cons (ps_par (i := 3) (j := 4) rfl nd rfl rfl (by decide) rfl rfl (pa_cons (pe_ix (k_ixl (K := K) rfl) (pv 1) pe_int (fun _ _ => rfl)) (pa_cons (pe_has G__law_far (hr.mono (by decide)) (pa_cons (pe_ix (k_ixl (K := K) rfl) (pv 1) pe_int (fun _ _ => rfl)) pa_nil)) pa_nil)) rfl)
      (pss_cons (ps_par (i := 5) (j := 6) rfl nd rfl rfl (by decide) rfl rfl (pa_cons (pe_ix (k_ixl (K := K) rfl) (pv 3) pe_int (fun _ _ => rfl)) (pa_cons (pe_ix (k_ixl (K := K) rfl) (pv 3) (pe_un un_neg pe_int) (fun _ _ => rfl)) pa_nil)) rfl)
      (pss_cons (ps_set (i := 7) nd rfl (.inl rfl) (pe_lst (pa_cons pe_non (pa_cons pe_int (pa_cons pe_bl (pa_cons pe_str (pa_cons (pe_tup pa_nil) (pa_cons pe_dnewK (pa_cons (pv 5) (pa_cons (pe_tup (pa_cons (pv 5) pa_nil)) (pa_cons (pe_lst (pa_cons pe_non pa_nil)) (pa_cons (pe_lst (pa_cons pe_int pa_nil)) (pa_cons (pe_lst (pa_cons (pe_lst (pa_cons (pv 5) pa_nil)) pa_nil)) (pa_cons (pe_lst (pa_cons (pv 4) pa_nil)) (pa_cons (pe_lst (pa_cons (pv 5) (pa_cons (pv 4) pa_nil))) (pa_cons (pe_lst (pa_cons (pv 4) (pa_cons (pv 5) pa_nil))) (pa_cons (pe_lst (pa_cons (pv 5) (pa_cons (pv 5) pa_nil))) (pa_cons (pe_op op_cat (pe_op op_rep (pe_lst (pa_cons (pv 6) (pa_cons (pv 5) pa_nil))) (pe_callTy call_int1 (by rfl) B.int (by decide +kernel) (pa_cons (pe_cmpR op_gt (pe_callB (k_len (K := K) rfl) (by rfl) B.len (by decide +kernel) (pa_cons (pv 3) pa_nil)) pe_int (nomark _)) pa_nil))) (pe_lst (pa_cons (pv 5) pa_nil))) (pa_cons (pe_disp (pps_cons (pv 5) pe_bl pps_nil) rfl rfl (by simp) (by decide)) pa_nil)))))))))))))))))))
      (pss_cons (ps_set (i := 7) nd rfl (.inl rfl) (pe_op op_cat (pv 7) (pe_lst (pa_cons (pe_callTy (k_tuple (K := K) rfl) (by rfl) B.tuple (by decide +kernel) (pa_cons (pv 2) pa_nil)) (pa_cons (pe_revL (pv 2)) (pa_cons (pe_op op_cat (pv 2) (pe_slice (k_sll (K := K) rfl) (pv 2) (po_some (pe_un un_neg pe_int)) po_none)) (pa_cons (pe_op op_cat (pv 2) (pe_lst (pa_cons pe_non pa_nil))) (pa_cons (pe_op op_cat (pv 2) (pe_lst (pa_cons (pv 4) pa_nil))) (pa_cons (pe_lst (pa_cons (pv 2) pa_nil)) (pa_cons (pe_join pe_str (pv 3)) (pa_cons (pe_lst (pa_cons (pe_op op_add_str (pv 5) pe_str) pa_nil)) (pa_cons (pe_lst (pa_cons pe_bl pa_nil)) pa_nil))))))))))))
      (pss_one (ps_ret (pe_op op_cat (pv 7) (pe_lst (pa_cons (pv 2) (pa_cons (pe_lst pa_nil) (pa_cons (pe_callTy (k_list (K := K) rfl) (by rfl) B.list (by decide +kernel) (pa_cons (pv 3) pa_nil)) (pa_cons (pe_revL (pv 3)) (pa_cons (pe_lc (own := [("_law_lamp", 8)]) (g := gName 8) rfl nd (k_pil (K := K) rfl (pv 3)) (blkOk_by (N := nm_l_bent_settings) (sc := defScope s_l_bent_settings) (by decide +kernel)) (fun _ _ _ _ _ => (pg_name (i := 8) nd rfl (Or.inl rfl))) (fun _ _ _ _ _ => (pts_one (pt_cmpR (k_notin (K := K) rfl) (pv 8) (pv 2) (by rfl)))) (fun _ _ _ _ _ => (pv 8))) pa_nil))))))))))))), ?_⟩
    have NF := na.ok.toF
    have le := na.ok.le
    have lz := st.len NF
    obtain ⟨b, t, w0, qs, a1, a2, a3, a4, a5, a6⟩ := na.ex
    obtain ⟨z0, rbs, ebs⟩ : ∃ z r, N.bs = z :: r := by
      have := NF.pos
      cases h : N.bs with
      | nil => rw [h] at this; exact absurd this (by decide)
      | cons z r => exact ⟨z, r, rfl⟩
    have at_z : atI (N.bs.map V.str) 0 = some (V.str z0) := by
      rw [ebs]
      exact at0 _ _
    obtain ⟨zl, ezl⟩ : ∃ zl, atI (N.bs.map V.str) (-1) = some (V.str zl) := at_last ebs
    have wz0 : z0.length ≤ 8 := (NF.word z0 (by rw [ebs]; exact List.mem_cons_self)).2.1
    have lj : (N.bs.map (·.length)).sum + N.bs.length * 0 ≤ 16777216 := by
      have := join_few NF.word
      omega
    refine ⟨_, rfl, R, _, 0, .ref b, rfl, rfl, SqL.of a1, rfl, _, rfl, R, _, 0, .ref b, rfl, rfl, SqL.of a1, rfl, b, N.bs, rfl, a2, by omega, fun far H1 wfar nfar s1 => ⟨_, _, rfl, ?_⟩⟩
    have b1 := s1 _ _ a2
    have p1 := s1 _ _ ep
    refine ⟨_, rfl, b, _, 0, .str z0, rfl, rfl, SqL.of b1, at_z, _, rfl, 1, rfl, b, _, -1, .str zl, rfl, rfl, SqL.of b1, ezl, _, _, rfl, ?_⟩
    refine seq_lst (n := 17) (I := BI b p N.bs zs) (g_one (far := far) (z0 := z0) (zl := zl) ⟨rfl, rfl, rfl, rfl, rfl⟩) (by decide) ⟨b1, p1⟩ fun F1 xs1 H2 s2 nF1 e1 l1 t1 => ?_
    refine seq_cat (n := 9) (I := BI b p N.bs zs) (g_two (far := far) (z0 := z0) (zl := zl) ⟨rfl, rfl, rfl, rfl, rfl⟩ (by omega) wz0 lj) (by decide) (BI.kept _ _ s2 ⟨b1, p1⟩) rfl e1 l1 t1 (by decide) fun F2 xs2 H3 s3 nF2 e2 l2 t2 => ?_
    exact ret_cat (n := 5) (I := BI b p N.bs zs) (g_three (far := far) (z0 := z0) (zl := zl) ⟨rfl, rfl, rfl, rfl, rfl⟩ (fun _ => rfl) (fun _ => rfl) (fun _ => rfl) (by omega) (by omega)) (by decide) (BI.kept _ _ (s2.trans s3) ⟨b1, p1⟩) rfl e2 l2 t2 (by decide) fun F3 xs3 H4 s4 nF3 e3 l3 t3 => kk F3 xs3 H4 ((s1.trans (s2.trans s3)).free nF3) e3 (by rw [l3]; decide) t3 (s1.trans ((s2.trans s3).trans s4))
end
end NK
/-! lists made of a list of texts, item by item; deeds taken back -/
namespace NK
open PySem PySem.Spec PyProof.Rows L2 He K1
/-- the next statement sets a name -/
theorem nx_asg {te : TE} {g : TG} {u : TS} {D : Ends} {rt : VK} {bk ct : L2.St → Hp → Prop} {σ : L2.St} {H : Hp} (h : te σ H fun x H1 => g x σ H1 (u D)) : tNext ⟨tSeq (tAsg te g) u D, rt, bk, ct⟩ σ H := h
/-- an argument that is a list, its first item first -/
theorem cons_lst {t1 : TE} {r1 r2 : TA} {σ : L2.St} {H : Hp} {Q : List V → Hp → Prop} (h : t1 σ H fun x H1 => r1 σ H1 fun xs H2 => (x :: xs).length ≤ sizeLine ∧ ∀ p, H2 p = none → r2 σ (upd H2 p (.lst (x :: xs))) fun ys H3 => Q (.ref p :: ys) H3) : tCons (tLst (tCons t1 r1)) r2 σ H Q := h
/-- not any of what a block makes -/
theorem any_not {K : PySem.W.Frag} {t : TE} {σ : L2.St} {H : Hp} {R : Bool → Hp → Prop} (h : t σ H fun x H1 => rAny K [x] H1 fun v H2 => ∃ c, v = .bl c ∧ R (!c) H2) : tNot (tB (tCB (rAny K) (tCons t tNil))) σ H R := h
section
variable {K : PySem.W.Frag} {tl te : TE} {tt : L2.TT} {i : Nat} {vs : List Nat} {σ : L2.St} {H : Hp} {Q : VK} {b : Addr} {bs : List Str}
theorem tlc_bl (f : Str → Bool) (ht : ∀ R' : VK, R' (.ref b) H → tl σ H R') (eb : H b = some (.lst (bs.map V.str))) (lb : bs.length ≤ 1000) (hw : ∀ x, wipe ((wipe σ vs).set i (some x)) vs = wipe σ vs)
    (he : ∀ z ∈ bs, ∀ H', Same H H' → ∀ R' : VK, (∀ H'', Same H' H'' → R' (.bl (f z)) H'') → te ((wipe σ vs).set i (some (.str z))) H' R')
    (k : ∀ (D : Addr) (H' : Hp), H D = none → Same H H' → H' D = some (.lst ((bs.map f).map V.bl)) → Q (.ref D) H') : tLc (iList K tl) (gName i) tYes te vs σ H Q := by
  refine ht _ ⟨b, rfl, ⟨_, SqL.of eb⟩, fun D nD => ?_⟩
  refine lc_list (K := K) (a := b) (xs := bs.map V.str) (fun j H' => Same H H' ∧ H' D = some (.lst (((bs.take j).map f).map V.bl))) ⟨same_new nD, upd_same⟩ (fun j H' _ h => SqL.of (h.1 _ _ eb)) ?_ ?_
  · rintro j x H' hx ⟨sm, eD⟩
    rw [List.getElem?_map] at hx
    cases ex : bs[j]? with
    | none =>
      rw [ex] at hx
      cases hx
    | some z =>
    rw [ex] at hx
    cases hx
    have hj := (List.getElem?_eq_some_iff.mp ex).1
    refine ⟨hw _, he z (List.mem_of_getElem? ex) H' sm _ fun H2 s2 => ⟨_, s2 _ _ eD, by rw [List.length_map, List.length_map, List.length_take]; exact room_str _ (by omega), upd_same' (sm.trans s2) nD, ?_⟩⟩
    rw [upd_same, List.take_add_one, ex, List.map_append, List.map_append]
    rfl
  · rintro H' ⟨sm, eD⟩
    rw [List.length_map, List.take_length] at eD
    exact k D H' nD sm eD
theorem tlc_ls (f : Str → List Str) (ht : ∀ R' : VK, R' (.ref b) H → tl σ H R') (eb : H b = some (.lst (bs.map V.str))) (lb : bs.length ≤ 1000) (hw : ∀ x, wipe ((wipe σ vs).set i (some x)) vs = wipe σ vs)
    (he : ∀ z ∈ bs, ∀ H', Same H H' → ∀ R' : VK, newL (f z) R' H' → te ((wipe σ vs).set i (some (.str z))) H' R')
    (k : newLL (bs.map f) Q H) : tLc (iList K tl) (gName i) tYes te vs σ H Q := by
  refine ht _ ⟨b, rfl, ⟨_, SqL.of eb⟩, fun D nD => ?_⟩
  refine lc_list (K := K) (a := b) (xs := bs.map V.str) (fun j H' => Same H H' ∧ ∃ ls : List (Addr × List Str), H' D = some (.lst (lrefs ls)) ∧ ls.map (·.2) = (bs.take j).map f ∧ LsAt H' ls ∧ ∀ l ∈ ls, H l.1 = none ∧ l.1 ≠ D) ⟨same_new nD, [], upd_same, rfl, fun l h => (nomatch h), fun l h => (nomatch h)⟩ (fun j H' _ h => SqL.of (h.1 _ _ eb)) ?_ ?_
  · rintro j x H' hx ⟨sm, ls, eD, els, la, fr⟩
    rw [List.getElem?_map] at hx
    cases ex : bs[j]? with
    | none =>
      rw [ex] at hx
      cases hx
    | some z =>
    rw [ex] at hx
    cases hx
    have hj := (List.getElem?_eq_some_iff.mp ex).1
    have ll : ls.length = j := by
      have := congrArg List.length els
      rw [List.length_map, List.length_map, List.length_take] at this
      omega
    refine ⟨hw _, he z (List.mem_of_getElem? ex) H' sm _ fun q H2 nq eq s2 => ?_⟩
    have qD : q ≠ D := fun e => by
      rw [e, eD] at nq
      cases nq
    refine ⟨lrefs ls, s2 _ _ eD, by unfold lrefs; rw [List.length_map, ll]; exact room_str _ (by omega), upd_same' (sm.trans s2) nD, ls ++ [(q, f z)], ?_, ?_, fun l hl => ?_, fun l hl => ?_⟩
    · rw [upd_same]
      unfold lrefs
      rw [List.map_append]
      rfl
    · rw [List.map_append, els, List.take_add_one, ex, List.map_append]
      rfl
    · rcases List.mem_append.mp hl with hl | hl
      · exact (upd_ne (fr l hl).2).trans (s2 _ _ (la l hl))
      · rw [List.mem_singleton.mp hl]
        exact (upd_ne qD).trans eq
    · rcases List.mem_append.mp hl with hl | hl
      · exact fr l hl
      · rw [List.mem_singleton.mp hl]
        exact ⟨sm.free nq, qD⟩
  · rintro H' ⟨sm, ls, eD, els, la, fr⟩
    rw [List.length_map, List.take_length] at els
    exact k D H' ls nD eD els la (fun l hl => (fr l hl).1) sm
theorem tlc_in (f : Str → Bool) (ht : ∀ R' : VK, R' (.ref b) H → tl σ H R') (eb : H b = some (.lst (bs.map V.str))) (lb : bs.length ≤ 1000) (hw : ∀ x, wipe ((wipe σ vs).set i (some x)) vs = wipe σ vs) (hv : ∀ x, ((wipe σ vs).set i (some x))[i]? = some (some x))
    (he : ∀ z ∈ bs, ∀ H', Same H H' → ∀ R' : Bool → Hp → Prop, R' (f z) H' → tt ((wipe σ vs).set i (some (.str z))) H' R')
    (k : newL (bs.filter f) Q H) : tLc (iList K tl) (gName i) tt (tVar i) vs σ H Q := by
  refine ht _ ⟨b, rfl, ⟨_, SqL.of eb⟩, fun D nD => ?_⟩
  refine lc_list (K := K) (a := b) (xs := bs.map V.str) (fun j H' => Same H H' ∧ H' D = some (.lst (((bs.take j).filter f).map V.str))) ⟨same_new nD, upd_same⟩ (fun j H' _ h => SqL.of (h.1 _ _ eb)) ?_ ?_
  · rintro j x H' hx ⟨sm, eD⟩
    rw [List.getElem?_map] at hx
    cases ex : bs[j]? with
    | none =>
      rw [ex] at hx
      cases hx
    | some z =>
    rw [ex] at hx
    cases hx
    refine ⟨hw _, he z (List.mem_of_getElem? ex) H' sm _ ?_⟩
    rw [filt_snoc ex]
    refine ite2 (fun h => ?_) (fun h => ?_)
    · refine ⟨_, hv _, _, eD, room_filt lb j, upd_same' sm nD, ?_⟩
      rw [upd_same, if_pos h, List.map_append]
      rfl
    · refine ⟨sm, ?_⟩
      rw [if_neg h, List.append_nil]
      exact eD
  · rintro H' ⟨sm, eD⟩
    rw [List.length_map, List.take_length] at eD
    exact k D H' nD eD sm
end
/-! ### what a deed does -/
theorem rd_flp {N : NetD} (F : NetF N) {zs : List Str} {x : Str} : rd N (flp N zs x) x = rd N zs x := by
  have e : litN N (flp N zs x) x = litN N zs x := by
    unfold litN
    refine List.filter_congr fun y hy => ?_
    obtain ⟨h1, h2⟩ := mem_nbrs.mp hy
    have ne : y ≠ x := fun q => by
      subst q
      rcases h2 with h2 | h2
      · have := (F.tin _ h2).2.2
        rw [sl_irr] at this
        cases this
      · have := (F.tin _ h2).2.2
        rw [sl_irr] at this
        cases this
    unfold flp xor1
    rw [Bool.eq_iff_iff, decide_eq_true_eq, decide_eq_true_eq, List.mem_filter]
    by_cases hz : y ∈ zs
    · simp [hz, h1, ne]
    · simp [hz, h1, ne]
  unfold rd
  rw [e]
theorem flp_flp {N : NetD} (F : NetF N) {zs : List Str} {x : Str} (st : IsSet N zs) (hx : x ∈ N.bs) : flp N (flp N zs x) x = zs := by
  rw [st.eq F]
  unfold flp
  refine List.filter_congr fun y hy => ?_
  unfold xor1
  rw [← st.eq F]
  by_cases h1 : y = x
  · subst h1
    by_cases h2 : y ∈ zs
    · simp [h2, hy]
    · simp [h2, hy]
  · by_cases h2 : y ∈ zs
    · simp [h1, h2, hy]
    · simp [h1, h2, hy]
theorem sc_refl_al {H : Hp} {n : Nat} {xs : List V} (h : ∀ x ∈ xs, Sc x x) : Each (Al H n) xs xs := ⟨rfl, fun i x y h1 h2 => by
  rw [h1] at h2
  cases h2
  exact Al.sc (h x (List.mem_of_getElem? h1))⟩
theorem al_bls {H : Hp} {n : Nat} {a b : Addr} {bs : List Bool} (ha : H a = some (.lst (bs.map V.bl))) (hb : H b = some (.lst (bs.map V.bl))) (l : bs.length ≤ 5000) : Al H (n + 1) (.ref a) (.ref b) :=
  .inr (.inl ⟨a, b, _, _, rfl, rfl, by rw [List.length_map]; exact l, sc_refl_al fun x hx => by
    obtain ⟨c, _, rfl⟩ := List.mem_map.mp hx
    exact .inr (.inl ⟨c, rfl, rfl⟩), .inl ⟨ha, hb⟩⟩)
theorem al_two {H : Hp} {n : Nat} {a b : Addr} {x1 x2 y1 y2 : V} (ha : H a = some (.lst [x1, x2])) (hb : H b = some (.lst [y1, y2])) (h1 : Al H n x1 y1) (h2 : Al H n x2 y2) : Al H (n + 1) (.ref a) (.ref b) :=
  .inr (.inl ⟨a, b, [x1, x2], [y1, y2], rfl, rfl, by show 2 ≤ 5000; decide, ⟨rfl, fun j u v hu hv => by
    match j, hu, hv with
    | 0, hu, hv =>
      cases hu
      cases hv
      exact h1
    | 1, hu, hv =>
      cases hu
      cases hv
      exact h2
    | j + 2, hu, _ => cases hu⟩, .inl ⟨ha, hb⟩⟩)
theorem al_three {H : Hp} {n : Nat} {a b : Addr} {x1 x2 x3 y1 y2 y3 : V} (ha : H a = some (.lst [x1, x2, x3])) (hb : H b = some (.lst [y1, y2, y3])) (h1 : Al H n x1 y1) (h2 : Al H n x2 y2) (h3 : Al H n x3 y3) : Al H (n + 1) (.ref a) (.ref b) :=
  .inr (.inl ⟨a, b, [x1, x2, x3], [y1, y2, y3], rfl, rfl, by show 3 ≤ 5000; decide, ⟨rfl, fun j u v hu hv => by
    match j, hu, hv with
    | 0, hu, hv =>
      cases hu
      cases hv
      exact h1
    | 1, hu, hv =>
      cases hu
      cases hv
      exact h2
    | 2, hu, hv =>
      cases hu
      cases hv
      exact h3
    | j + 3, hu, _ => cases hu⟩, .inl ⟨ha, hb⟩⟩)
end NK
/-! settings judged -/
namespace NK
open PySem PySem.Spec PyProof.Rows L2 He K1
section
variable {P : Program} {w : World} {K : PySem.W.Frag} {mg : Str → Option Value} {base : Heap} {C W RW : Addr}
def spJudged (C : Addr) : Sp := fun vs H Q _ => ∃ (a R m p : Addr) (N : NetD) (zs : List Str), vs = [.ref a, .ref R, .ref m, .ref p] ∧ NetAt H R N ∧ Made C H m N ∧ H p = some (.lst (zs.map V.str)) ∧ IsSet N zs ∧ yes Q H
theorem ok_judged {f : Addr} {fd : FuncData} (F : FnP K "_law_judged_settings" s_l_judged_settings f fd) (B : FreeN mg) (G__law_net : Has P w K mg base 5 "_law_net" ["_law_net_here"] (spLNet C)) (G__law_bent_settings : Has P w K mg base 2 "_law_bent_settings" ["_law_purse_here", "_law_net_here", "_law_setting_here"] spBent) (G__law_same : Has P w K mg base 3 "_law_same" ["_law_thing"] (spS 3)) (G__law_is_setting : Has P w K mg base 1 "_law_is_setting" ["_law_net_here", "_law_value"] (spLIsSetting K)) (G__law_exact : Has P w K mg base 4 "_law_exact" ["_law_mine", "_law_theirs"] (spX 4)) (G_is_setting : Has P w K mg base 3 "is_setting" ["net", "value"] (spIsSetting K C)) : FnOk P w K mg base CX0 6 f fd ["_law_purse_here", "_law_net_here", "_law_made", "_law_setting_here"] (spJudged C) := by
  refine fnP_ok F sc_l_judged_settings (fun vs H Q E h => ?_) (fun cdv A outer s H vs Q E hr h => ?_)
  · obtain ⟨a, R, m, p, N, zs, rfl, _⟩ := h
    rfl
  · obtain ⟨a, R, m, p, N, zs, rfl, na, md, ep, st, kk⟩ := h
    have nd := sc_l_judged_settings.nd
    refine ⟨_, (pss_cons (ps_set (i := 4) nd rfl (.inl rfl) (pe_has G__law_net (hr.mono (by decide)) (pa_cons (pv 1) pa_nil)))
      (pss_cons (ps_for PassesOwn.never rfl (k_pil (K := K) rfl (pe_has G__law_bent_settings (hr.mono (by decide)) (pa_cons (pv 0) (pa_cons (pv 1) (pa_cons (pv 3) pa_nil))))) (pg_name (i := 5) nd rfl (.inl rfl)) (pss_cons (ps_par (i := 6) (j := 7) rfl nd rfl rfl (by decide) rfl rfl (pa_cons (pe_has G__law_same (hr.mono (by decide)) (pa_cons (pv 5) pa_nil)) (pa_cons (pe_has G__law_is_setting (hr.mono (by decide)) (pa_cons (pv 1) (pa_cons (pv 5) pa_nil))) pa_nil)) rfl)
      (pss_one (ps_if (pt_not (pt_val (pe_has G__law_exact (hr.mono (by decide)) (pa_cons (pe_lst (pa_cons (pe_has G_is_setting (hr.mono (by decide)) (pa_cons (pv 4) (pa_cons (pv 5) pa_nil))) (pa_cons (pe_has G_is_setting (hr.mono (by decide)) (pa_cons (pv 2) (pa_cons (pv 5) pa_nil))) (pa_cons (pv 5) pa_nil)))) (pa_cons (pe_lst (pa_cons (pv 7) (pa_cons (pv 7) (pa_cons (pv 6) pa_nil)))) pa_nil))))) (pss_one (ps_ret pe_bl)) pss_nil))))
      (pss_one (ps_ret pe_bl)))), ?_⟩
    have NF := na.ok.toF
    refine ⟨_, rfl, R, N, rfl, na, fun fr H1 nfr mfr s1 => ?_⟩
    refine ⟨_, rfl, _, rfl, _, rfl, a, R, p, N, zs, rfl, na.same s1, s1 _ _ ep, st, fun D xs H2 nD eD lx thx s2 => ⟨D, rfl, ⟨_, SqL.of eD⟩, ?_⟩⟩
    have s12 := s1.trans s2
    refine for_list (K := K) (a := D) (xs := xs) (fun i σ H' => ∃ v5 v6 v7 : Option V, σ = [some (.ref a), some (.ref R), some (.ref m), some (.ref p), some (.ref fr), v5, v6, v7] ∧ Same H2 H') ⟨none, none, none, rfl, fun _ _ e => e⟩ (fun i σ H' _ ⟨_, _, _, _, sm⟩ => SqL.of (sm _ _ eD)) ?_ ?_
    · rintro i x σ H3 hx ⟨v5, v6, v7, rfl, sm⟩
      have th3 := (thx x (List.mem_of_getElem? hx)).same sm
      have s03 := s12.trans sm
      have s23 := (s2.trans sm)
      refine ⟨_, rfl, x, H3, rfl, fun _ _ e => e, th3, fun y H4 s4 al => ?_⟩
      refine ⟨_, rfl, _, rfl, R, N, x, rfl, na.same (s03.trans s4), ?_⟩
      rcases th3.cases (K := K) with ⟨px, xs', rfl, epx, lx', its⟩ | nl
      · refine .inl ⟨px, xs', rfl, s4 _ _ epx, by omega, fun z hz H' s' => its z hz H' (s4.trans s'), fun b H5 hb s5 => ?_⟩
        have s35 := s4.trans s5
        refine ⟨_, _, rfl, ?_⟩
        refine ⟨_, rfl, _, rfl, fr, N, _, rfl, mfr.same (s23.trans s35), NF, .inl ⟨px, xs', rfl, s35 _ _ epx, by omega, fun z hz H' s' => its z hz H' (s35.trans s'), fun b1 H6 hb1 s6 => ?_⟩⟩
        have s36 := s35.trans s6
        refine ⟨_, rfl, _, rfl, m, N, _, rfl, md.same (s03.trans s36), NF, .inl ⟨px, xs', rfl, s36 _ _ epx, by omega, fun z hz H' s' => its z hz H' (s36.trans s'), fun b2 H7 hb2 s7 => ?_⟩⟩
        have s37 := s36.trans s7
        have e1 : b1 = b := Bool.eq_iff_iff.mpr (hb1.trans hb.symm)
        have e2 : b2 = b := Bool.eq_iff_iff.mpr (hb2.trans hb.symm)
        subst e1 e2
        refine ⟨_, rfl, by show 3 ≤ sizeLine; decide, fun L1 n1 => ?_⟩
        have x1 := same_new (o := .lst [.bl b2, .bl b2, .ref px]) n1
        refine ⟨_, rfl, _, rfl, _, rfl, by show 3 ≤ sizeLine; decide, fun L2 n2 => ?_⟩
        have x2 := same_new (o := .lst [.bl b2, .bl b2, y]) n2
        have x37 := (s37.trans x1).trans x2
        have x47 := (((s5.trans s6).trans s7).trans x1).trans x2
        exact ⟨.ref L1, .ref L2, rfl, al_three (x2 _ _ upd_same) upd_same (Al.sc (.inr (.inl ⟨_, rfl, rfl⟩))) (Al.sc (.inr (.inl ⟨_, rfl, rfl⟩))) (al _ x37 fun _ _ _ e => x47 _ _ e), fun H8 s8 => ⟨true, rfl, ifF ⟨_, _, _, rfl, sm.trans (x37.trans s8)⟩⟩⟩
      · refine .inr ⟨nl _ s4, fun H5 s5 => ?_⟩
        have s35 := s4.trans s5
        refine ⟨_, _, rfl, ?_⟩
        refine ⟨_, rfl, _, rfl, fr, N, _, rfl, mfr.same (s23.trans s35), NF, .inr ⟨nl _ s35, fun H6 s6 => ?_⟩⟩
        have s36 := s35.trans s6
        refine ⟨_, rfl, _, rfl, m, N, _, rfl, md.same (s03.trans s36), NF, .inr ⟨nl _ s36, fun H7 s7 => ?_⟩⟩
        have s37 := s36.trans s7
        refine ⟨_, rfl, by show 3 ≤ sizeLine; decide, fun L1 n1 => ?_⟩
        have x1 := same_new (o := .lst [.bl false, .bl false, x]) n1
        refine ⟨_, rfl, _, rfl, _, rfl, by show 3 ≤ sizeLine; decide, fun L2 n2 => ?_⟩
        have x2 := same_new (o := .lst [.bl false, .bl false, y]) n2
        have x37 := (s37.trans x1).trans x2
        have x47 := (((s5.trans s6).trans s7).trans x1).trans x2
        exact ⟨.ref L1, .ref L2, rfl, al_three (x2 _ _ upd_same) upd_same (Al.sc (.inr (.inl ⟨_, rfl, rfl⟩))) (Al.sc (.inr (.inl ⟨_, rfl, rfl⟩))) (al _ x37 fun _ _ _ e => x47 _ _ e), fun H8 s8 => ⟨true, rfl, ifF ⟨_, _, _, rfl, sm.trans (x37.trans s8)⟩⟩⟩
    · rintro σ H9 ⟨v5, v6, v7, rfl, sm⟩
      exact kk H9 (s12.trans sm)
end
end NK
/-! the law's own trial of deeds -/
namespace NK
open PySem PySem.Spec PyProof.Rows L2 He K1
section
variable {P : Program} {w : World} {K : PySem.W.Frag} {mg : Str → Option Value} {base : Heap} {C W RW : Addr}
def spDeeds (C : Addr) : Sp := fun vs H Q _ => ∃ (a R m p : Addr) (N : NetD) (zs : List Str), vs = [.ref a, .ref R, .ref m, .ref p] ∧ NetAt H R N ∧ Made C H m N ∧ H p = some (.lst (zs.map V.str)) ∧ IsSet N zs ∧ yes Q H
theorem ok_deeds {f : Addr} {fd : FuncData} (F : FnP K "_law_deeds_right" s_l_deeds_right f fd) (B : FreeN mg) (G__law_near : Has P w K mg base 1 "_law_near" ["_law_net_here"] spLNear) (G__law_ready : Has P w K mg base 2 "_law_ready" ["_law_net_here", "_law_setting_here"] spLReady) (G_ready_lamps : Has P w K mg base 5 "ready_lamps" ["net", "setting"] (spReadyLamps C)) (G_is_ready : Has P w K mg base 5 "is_ready" ["net", "setting", "lamp"] (spIsReady C)) (G_lit_neighbours : Has P w K mg base 5 "lit_neighbours" ["net", "setting", "lamp"] (spLitNb C)) (G__law_exact : Has P w K mg base 5 "_law_exact" ["_law_mine", "_law_theirs"] (spX 5)) (G_switched : Has P w K mg base 5 "switched" ["net", "setting", "lamp"] (spSwitched K C)) (G__law_flip : Has P w K mg base 1 "_law_flip" ["_law_setting_here", "_law_lamp"] spLFlip) (G__law_pieces : Has P w K mg base 2 "_law_pieces" ["_law_net_here"] spLPieces) (G_still_pieces : Has P w K mg base 5 "still_pieces" ["net", "setting"] (spStill C)) (G__law_net_told : Has P w K mg base 2 "_law_net_told" ["_law_made"] (spLTold C)) : FnOk P w K mg base CX0 6 f fd ["_law_purse_here", "_law_net_here", "_law_made", "_law_setting_here"] (spDeeds C) := by
  refine fnP_ok F sc_l_deeds_right (fun vs H Q E h => ?_) (fun cdv A outer s H vs Q E hr h => ?_)
  · obtain ⟨a, R, m, p, N, zs, rfl, _⟩ := h
    rfl
  · obtain ⟨a, R, m, p, N, zs, rfl, na, md, ep, st, kk⟩ := h
    have nd := sc_l_deeds_right.nd
    have hu := hr.units
    have hu1 := room1 hr
    refine ⟨_, (pss_cons (ps_asg (pe_tup (pa_cons (pe_has G__law_near (hr.mono (by decide)) (pa_cons (pv 1) pa_nil)) (pa_cons (pe_callTy (k_list (K := K) rfl) (by rfl) B.list (by decide +kernel) (pa_cons (pv 3) pa_nil)) pa_nil))) (pg_tup rfl (pgs_cons (pg_name (i := 4) nd rfl (.inr rfl)) (pgs_cons (pg_name (i := 5) nd rfl (.inr rfl)) pgs_nil))))
      (pss_cons (ps_set (i := 6) nd rfl (.inr rfl) (pe_has G__law_ready (hr.mono (by decide)) (pa_cons (pv 1) (pa_cons (pv 3) pa_nil))))
      (pss_cons (ps_set (i := 7) nd rfl (.inl rfl) (pe_lst (pa_cons (pe_has G_ready_lamps (hr.mono (by decide)) (pa_cons (pv 2) (pa_cons (pv 5) pa_nil))) (pa_cons (pe_lc (own := [("_law_lamp", 14)]) (g := gName 14) (tt := tYes) rfl nd (k_pil (K := K) rfl (pe_ix (k_ixl (K := K) rfl) (pv 1) pe_int (fun _ _ => rfl))) (blkOk_by (N := nm_l_deeds_right) (sc := defScope s_l_deeds_right) (by decide +kernel)) (fun _ _ _ _ _ => (pg_name (i := 14) nd rfl (Or.inl rfl))) (fun _ _ _ _ _ => pts_nil) (fun _ _ _ _ _ => (pe_has G_is_ready (hr.mono (by decide)) (pa_cons (pv 2) (pa_cons (pv 5) (pa_cons (pv 14) pa_nil)))))) (pa_cons (pe_lc (own := [("_law_lamp", 14)]) (g := gName 14) (tt := tYes) rfl nd (k_pil (K := K) rfl (pe_ix (k_ixl (K := K) rfl) (pv 1) pe_int (fun _ _ => rfl))) (blkOk_by (N := nm_l_deeds_right) (sc := defScope s_l_deeds_right) (by decide +kernel)) (fun _ _ _ _ _ => (pg_name (i := 14) nd rfl (Or.inl rfl))) (fun _ _ _ _ _ => pts_nil) (fun _ _ _ _ _ => (pe_has G_lit_neighbours (hr.mono (by decide)) (pa_cons (pv 2) (pa_cons (pv 5) (pa_cons (pv 14) pa_nil)))))) pa_nil)))))
      (pss_cons (ps_set (i := 8) nd rfl (.inl rfl) (pe_lst (pa_cons (pv 6) (pa_cons (pe_lc (own := [("_law_lamp", 14)]) (g := gName 14) (tt := tYes) rfl nd (k_pil (K := K) rfl (pe_ix (k_ixl (K := K) rfl) (pv 1) pe_int (fun _ _ => rfl))) (blkOk_by (N := nm_l_deeds_right) (sc := defScope s_l_deeds_right) (by decide +kernel)) (fun _ _ _ _ _ => (pg_name (i := 14) nd rfl (Or.inl rfl))) (fun _ _ _ _ _ => pts_nil) (fun _ _ _ _ _ => (pe_cmpR (k_in (K := K) rfl) (pv 14) (pv 6) (by rfl)))) (pa_cons (pe_lc (own := [("_law_lamp", 14)]) (g := gName 14) (tt := tYes) rfl nd (k_pil (K := K) rfl (pe_ix (k_ixl (K := K) rfl) (pv 1) pe_int (fun _ _ => rfl))) (blkOk_by (N := nm_l_deeds_right) (sc := defScope s_l_deeds_right) (by decide +kernel)) (fun _ _ _ _ _ => (pg_name (i := 14) nd rfl (Or.inl rfl))) (fun _ _ _ _ _ => pts_nil) (fun _ _ _ _ _ => (pe_lc (own := [("_law_other", 16)]) (g := gName 16) rfl nd (k_pil (K := K) rfl (pe_dget hu1 (pv 4) (pv 14) (fun _ _ => rfl))) (blk_in (blkOk_by (N := nm_l_deeds_right) (sc := ({ kind := ScopeKind.function, names := [(".0", NameKind.local), ("_law_lamp", NameKind.local), ("_law_near_here", NameKind.free), ("_law_setting_here", NameKind.free)], isGenerator := false, isCoroutine := false } : Scope)) (by decide +kernel))) (fun _ _ _ _ _ => (pg_name (i := 16) nd rfl (Or.inl rfl))) (fun _ _ _ _ _ => (pts_one (pt_cmpR (k_in (K := K) rfl) (pv 16) (pv 3) (by rfl)))) (fun _ _ _ _ _ => (pv 16))))) pa_nil)))))
      (pss_cons (ps_if (pt_not (pt_val (pe_has G__law_exact (hr.mono (by decide)) (pa_cons (pe_lst (pa_cons (pv 7) (pa_cons (pv 5) pa_nil))) (pa_cons (pe_lst (pa_cons (pv 8) (pa_cons (pv 3) pa_nil))) pa_nil))))) (pss_one (ps_ret pe_bl)) pss_nil)
      (pss_cons (ps_setLc (i := 9) (own := [("_law_lamp", 14)]) (g := gName 14) (tt := tYes) rfl nd rfl rfl (sw_true rfl rfl rfl (by decide +kernel)) (k_pil (K := K) rfl (pv 6)) (blkOk_by (N := nm_l_deeds_right) (sc := defScope s_l_deeds_right) (by decide +kernel)) (fun _ _ _ _ _ => (pg_name (i := 14) nd rfl (Or.inl rfl))) (fun _ _ _ _ _ => pts_nil) (fun _ _ _ _ _ => (pe_has G_switched (hr.mono (by decide)) (pa_cons (pv 2) (pa_cons (pv 5) (pa_cons (pv 14) pa_nil))))))
      (pss_cons (ps_if (pt_not (pt_val (pe_has G__law_exact (hr.mono (by decide)) (pa_cons (pe_lst (pa_cons (pv 9) (pa_cons (pv 5) pa_nil))) (pa_cons (pe_lst (pa_cons (pe_lc (own := [("_law_lamp", 14)]) (g := gName 14) (tt := tYes) rfl nd (k_pil (K := K) rfl (pv 6)) (blkOk_by (N := nm_l_deeds_right) (sc := defScope s_l_deeds_right) (by decide +kernel)) (fun _ _ _ _ _ => (pg_name (i := 14) nd rfl (Or.inl rfl))) (fun _ _ _ _ _ => pts_nil) (fun _ _ _ _ _ => (pe_has G__law_flip (hr.mono (by decide)) (pa_cons (pv 3) (pa_cons (pv 14) pa_nil))))) (pa_cons (pv 3) pa_nil))) pa_nil))))) (pss_one (ps_ret pe_bl)) pss_nil)
      (pss_cons (ps_if (pt_not (pt_val (pe_callB (k_all (K := K) rfl rfl) (by rfl) B.all (by decide +kernel) (pa_cons (pe_lc (own := [("_law_late", 10), ("_law_lamp", 14)]) (g := gTup K 2 (gCons (gName 10) (gCons (gName 14) gNil))) (tt := tYes) rfl nd (pi_zip (by rfl) B.zip (pa_cons (pv 9) (pa_cons (pv 6) pa_nil))) (blkOk_by (N := nm_l_deeds_right) (sc := defScope s_l_deeds_right) (by decide +kernel)) (fun _ _ _ _ _ => (pg_tup rfl (pgs_cons (pg_name (i := 10) nd rfl (Or.inl rfl)) (pgs_cons (pg_name (i := 14) nd rfl (Or.inl rfl)) pgs_nil)))) (fun _ _ _ _ _ => pts_nil) (fun _ _ _ _ _ => (pe_and (pe_has G_is_ready (hr.mono (by decide)) (pa_cons (pv 2) (pa_cons (pv 10) (pa_cons (pv 14) pa_nil)))) (pe_one (pe_cmpR (k_eqD (K := K) rfl hu) (pe_has G_switched (hr.mono (by decide)) (pa_cons (pv 2) (pa_cons (pv 10) (pa_cons (pv 14) pa_nil)))) (pv 3) (nomark _)))))) pa_nil)))) (pss_one (ps_ret pe_bl)) pss_nil)
      (pss_cons (ps_setLc (i := 11) (own := [("_law_piece", 15)]) (g := gName 15) rfl nd rfl rfl (sw_true rfl rfl rfl (by decide +kernel)) (k_pil (K := K) rfl (pe_has G__law_pieces (hr.mono (by decide)) (pa_cons (pv 1) pa_nil))) (blkOk_by (N := nm_l_deeds_right) (sc := defScope s_l_deeds_right) (by decide +kernel)) (fun _ _ _ _ _ => (pg_name (i := 15) nd rfl (Or.inl rfl))) (fun _ _ _ _ _ => (pts_one (pt_not (pt_val (pe_callB (k_any (K := K) rfl rfl) (by rfl) B.any (by decide +kernel) (pa_cons (pe_lc (own := [("_law_lamp", 14)]) (g := gName 14) (tt := tYes) rfl nd (k_pil (K := K) rfl (pv 15)) (blk_in (blkOk_by (N := nm_l_deeds_right) (sc := ({ kind := ScopeKind.function, names := [(".0", NameKind.local), ("_law_piece", NameKind.local), ("any", NameKind.globalImplicit), ("_law_ready_here", NameKind.free)], isGenerator := false, isCoroutine := false } : Scope)) (by decide +kernel))) (fun _ _ _ _ _ => (pg_name (i := 14) nd rfl (Or.inl rfl))) (fun _ _ _ _ _ => pts_nil) (fun _ _ _ _ _ => (pe_cmpR (k_in (K := K) rfl) (pv 14) (pv 6) (by rfl)))) pa_nil)))))) (fun _ _ _ _ _ => (pv 15)))
      (pss_cons (ps_set (i := 12) nd rfl (.inl rfl) (pe_has G_still_pieces (hr.mono (by decide)) (pa_cons (pv 2) (pa_cons (pv 5) pa_nil))))
      (pss_cons (ps_if (pt_not (pt_val (pe_has G__law_exact (hr.mono (by decide)) (pa_cons (pv 12) (pa_cons (pv 11) pa_nil))))) (pss_one (ps_ret pe_bl)) pss_nil)
      (pss_cons (ps_for PassesOwn.never rfl (k_pil (K := K) rfl (pe_op op_cat (pe_op op_cat (pe_op op_cat (pe_ix (k_ixl (K := K) rfl) (pv 7) pe_int (fun _ _ => rfl)) (pv 9)) (pv 12)) (pe_lst (pa_cons (pe_ix (k_ixl (K := K) rfl) (pv 7) pe_int (fun _ _ => rfl)) (pa_cons (pv 12) pa_nil))))) (pg_name (i := 10) nd rfl (.inl rfl)) (pss_one (ps_expr (pe_bm PySem.F.plainAttrs_list PySem.F.slot_list_append PySem.F.type_list_append mt_append (pv 10) (pa_cons pe_non pa_nil)))))
      (pss_cons (ps_set (i := 13) nd rfl (.inl rfl) (pe_lst (pa_cons (pe_has G_ready_lamps (hr.mono (by decide)) (pa_cons (pv 2) (pa_cons (pv 3) pa_nil))) (pa_cons (pe_has G_still_pieces (hr.mono (by decide)) (pa_cons (pv 2) (pa_cons (pv 3) pa_nil))) (pa_cons (pe_lc (own := [("_law_lamp", 14)]) (g := gName 14) (tt := tYes) rfl nd (k_pil (K := K) rfl (pe_ix (k_ixl (K := K) rfl) (pv 1) pe_int (fun _ _ => rfl))) (blkOk_by (N := nm_l_deeds_right) (sc := defScope s_l_deeds_right) (by decide +kernel)) (fun _ _ _ _ _ => (pg_name (i := 14) nd rfl (Or.inl rfl))) (fun _ _ _ _ _ => pts_nil) (fun _ _ _ _ _ => (pe_has G_lit_neighbours (hr.mono (by decide)) (pa_cons (pv 2) (pa_cons (pv 3) (pa_cons (pv 14) pa_nil)))))) pa_nil)))))
      (pss_one (ps_ret (pe_and (pe_has G__law_exact (hr.mono (by decide)) (pa_cons (pv 13) (pa_cons (pe_lst (pa_cons (pv 6) (pa_cons (pv 11) (pa_cons (pe_ix (k_ixl (K := K) rfl) (pv 8) pe_int (fun _ _ => rfl)) pa_nil)))) pa_nil))) (pe_one (pe_has G__law_exact (hr.mono (by decide)) (pa_cons (pe_has G__law_net_told (hr.mono (by decide)) (pa_cons (pv 2) pa_nil)) (pa_cons (pv 1) pa_nil)))))))))))))))))))), ?_⟩
    have NF := na.ok.toF
    have le := na.ok.le
    have lz := st.len NF
    obtain ⟨b, t, w0, qs, a1, a2, a3, a4, a5, a6⟩ := na.ex
    have lrd : (N.bs.filter (rd N zs)).length ≤ N.bs.length := List.length_filter_le _ _
    have inr : ∀ z ∈ N.bs.filter (rd N zs), z ∈ N.bs ∧ rd N zs z = true := fun z hz => List.mem_filter.mp hz
    -- the neighbours, what is handed in, what is ready
    refine ⟨_, rfl, R, N, rfl, na, fun ND H1 nND near s1 _ => ⟨_, rfl, p, _, rfl, .inl (SqL.of (s1 _ _ ep)), fun h nh => ⟨by show 2 ≤ sizeLine; decide, fun T nT => ⟨T, _, rfl, SqT.of upd_same, rfl, _, _, rfl, _, _, rfl, rfl, ?_⟩⟩⟩⟩
    have xh := same_new (o := .lst (zs.map V.str)) nh
    have xT := same_new (o := .tup [.ref ND, .ref h]) nT
    have eh : upd (upd H1 h (.lst (zs.map V.str))) T (.tup [.ref ND, .ref h]) h = _ := xT _ _ upd_same
    have near := near.same (xh.trans xT)
    have s2 := (s1.trans xh).trans xT
    generalize upd (upd H1 h (.lst (zs.map V.str))) T (.tup [.ref ND, .ref h]) = H2 at *
    clear xT xh nT nh s1 nND
    refine ⟨_, rfl, _, rfl, R, p, N, zs, rfl, na.same s2, s2 _ _ ep, fun r H3 nr er s3 => ?_⟩
    have s03 := s2.trans s3
    have eh := s3 _ _ eh
    have near := near.same s3
    have na3 := na.same s03
    have md3 := md.same s03
    have ep3 := s03 _ _ ep
    have b3 := s03 _ _ a2
    have R3 := s03 _ _ a1
    clear s2 s3 nr
    -- told
    refine ⟨_, rfl, _, rfl, m, h, N, zs, rfl, md3, NF, eh, st, fun t0 H4 nt0 et0 s4 => ?_⟩
    refine tlc_bl (K := K) (b := b) (bs := N.bs) (rd N zs) (fun R' hR => ⟨_, rfl, R, _, 0, .ref b, rfl, rfl, SqL.of (s4 _ _ R3), rfl, hR⟩) (s4 _ _ b3) (by omega) (fun _ => rfl) (fun z hz H' s' R' kR => ⟨_, rfl, _, rfl, _, rfl, m, h, N, zs, z, rfl, md3.same (s4.trans s'), NF, s' _ _ (s4 _ _ eh), st, hz, kR⟩) fun t1 H5 nt1 s5 et1 => ?_
    have s35 := s4.trans s5
    refine tlc_ls (K := K) (b := b) (bs := N.bs) (litN N zs) (fun R' hR => ⟨_, rfl, R, _, 0, .ref b, rfl, rfl, SqL.of (s35 _ _ R3), rfl, hR⟩) (s35 _ _ b3) (by omega) (fun _ => rfl) (fun z hz H' s' R' kR => ⟨_, rfl, _, rfl, _, rfl, m, h, N, zs, z, rfl, md3.same (s35.trans s'), NF, s' _ _ (s35 _ _ eh), st, hz, kR⟩) fun t2 H6 tl nt2 et2 etl tla tlf s6 => ?_
    have s36 := s35.trans s6
    refine ⟨by show 3 ≤ sizeLine; decide, fun TO nTO => ?_⟩
    have xTO := same_new (o := .lst [.ref t0, .ref t1, .ref t2]) nTO
    have eTO : upd H6 TO (.lst [.ref t0, .ref t1, .ref t2]) TO = _ := upd_same
    have et0 := xTO _ _ (s6 _ _ (s5 _ _ et0))
    have et1 := xTO _ _ (s6 _ _ et1)
    have et2 := xTO _ _ et2
    have tla := tla.same xTO
    have s37 := s36.trans xTO
    have n3t0 : H3 t0 = none := nt0
    have n3tl : ∀ l ∈ tl, H3 l.1 = none := fun l hl => s35.free (tlf l hl)
    generalize upd H6 TO (.lst [.ref t0, .ref t1, .ref t2]) = H7 at *
    clear xTO nTO s36 s6 s35 s5 s4 nt2 tlf nt1 nt0
    -- due
    have er7 := s37 _ _ er
    have near7 := near.same s37
    obtain ⟨lt, c1, c2, c3⟩ := near7.ex
    have ltn : (lt.map (·.1)).Nodup := by rw [c2]; exact asc_nodup ord_sl NF.asc
    have inN : ∀ z ∈ N.bs, decide (z ∈ N.bs.filter (rd N zs)) = rd N zs z := fun z hz => by
      rw [Bool.eq_iff_iff, decide_eq_true_eq, List.mem_filter]
      exact ⟨fun q => q.2, fun q => ⟨hz, q⟩⟩
    refine ⟨_, rfl, ?_⟩
    refine tlc_bl (K := K) (b := b) (bs := N.bs) (rd N zs) (fun R' hR => ⟨_, rfl, R, _, 0, .ref b, rfl, rfl, SqL.of (s37 _ _ R3), rfl, hR⟩) (s37 _ _ b3) (by omega) (fun _ => rfl) (fun z hz H' s' R' kR => ⟨_, rfl, _, rfl, r, _, rfl, .inl (SqL.of (s' _ _ er7)), rfl, flat_strs _, by
      rw [inV_str, inN z hz]
      exact kR _ fun _ _ e => e⟩) fun u1 H8 nu1 s8 eu1 => ?_
    refine tlc_ls (K := K) (b := b) (bs := N.bs) (litN N zs) (fun R' hR => ⟨_, rfl, R, _, 0, .ref b, rfl, rfl, SqL.of (s8 _ _ (s37 _ _ R3)), rfl, hR⟩) (s8 _ _ (s37 _ _ b3)) (by omega) (fun _ => rfl) (fun z hz H' s' R' kR => ?_) fun u2 H9 ul nu2 eu2 eul ula ulf s9 => ?_
    · have hz' := hz
      rw [← c2] at hz'
      obtain ⟨e, he, ex⟩ := List.mem_map.mp hz'
      have va : valV (tabR lt) (Sum.inr z) = some (V.ref e.2) := by
        rw [← ex]
        exact tabR_at ltn he
      have te := s' _ _ (s8 _ _ (c3 e he))
      rw [ex] at te
      have lnb : (nb N z).length ≤ N.bs.length := List.length_filter_le _ _
      refine tlc_in (K := K) (b := e.2) (bs := nb N z) (fun y => decide (y ∈ zs)) (fun R'' hR => ⟨_, rfl, _, rfl, ND, _, rfl, .inl ⟨tabR lt, .inr z, .inl (s' _ _ (s8 _ _ c1)), rfl, va.symm⟩, hR⟩) te (by omega) (fun _ => rfl) (fun _ => rfl) (fun y hy H'' s'' R'' kR' => ⟨_, rfl, _, rfl, p, _, rfl, .inl (SqL.of (s'' _ _ (s' _ _ (s8 _ _ (s37 _ _ ep3))))), rfl, flat_strs zs, _, rfl, by
        rw [inV_str]
        exact kR'⟩) kR
    have s79 := s8.trans s9
    refine ⟨by show 3 ≤ sizeLine; decide, fun U nU => ?_⟩
    have xU := same_new (o := .lst [.ref r, .ref u1, .ref u2]) nU
    have eU : upd H9 U (.lst [.ref r, .ref u1, .ref u2]) U = _ := upd_same
    have eu1 := xU _ _ (s9 _ _ eu1)
    have eu2 := xU _ _ eu2
    have ula := ula.same xU
    have s7a := s79.trans xU
    have n7U : H7 U = none := s79.free nU
    have n7u2 : H7 u2 = none := s8.free nu2
    have n7ul : ∀ l ∈ ul, H7 l.1 = none := fun l hl => s8.free (ulf l hl)
    generalize upd H9 U (.lst [.ref r, .ref u1, .ref u2]) = Ha at *
    clear xU nU s79 s9 s8 nu2 ulf nu1 c1 c3
    have s3a := s37.trans s7a
    have eh_a := s3a _ _ eh
    have ep_a := s3a _ _ ep3
    have er_a := s3a _ _ er
    have mda := md3.same s3a
    have ltl : tl.length ≤ 5000 := by
      have := congrArg List.length etl
      rw [List.length_map, List.length_map] at this
      omega
    have tlk : ∀ l ∈ tl, l.2.length ≤ 1000 := fun l hl => by
      have : l.2 ∈ tl.map (·.2) := List.mem_map.mpr ⟨l, hl, rfl⟩
      rw [etl] at this
      obtain ⟨z, _, e⟩ := List.mem_map.mp this
      rw [← e]
      have h1 : (litN N zs z).length ≤ (nb N z).length := List.length_filter_le _ _
      have h2 : (nb N z).length ≤ N.bs.length := List.length_filter_le _ _
      omega
    have eTOa := s7a _ _ eTO
    have et0a := s7a _ _ et0
    have et1a := s7a _ _ et1
    have et2a := s7a _ _ et2
    have tlaa := tla.same s7a
    -- as they are due
    refine ⟨_, rfl, _, rfl, by show 2 ≤ sizeLine; decide, fun L1 n1 => ?_⟩
    have x1 := same_new (o := .lst [.ref TO, .ref h]) n1
    refine ⟨_, rfl, _, rfl, by show 2 ≤ sizeLine; decide, fun L2 n2 => ?_⟩
    have x2 := same_new (o := .lst [.ref U, .ref p]) n2
    have x12 := x1.trans x2
    refine ⟨.ref L1, .ref L2, rfl, al_two (x2 _ _ upd_same) upd_same (al_three (x12 _ _ eTOa) (x12 _ _ eU) (al_strs (x12 _ _ et0a) (x12 _ _ er_a) (by omega)) (al_bls (x12 _ _ et1a) (x12 _ _ eu1) (by rw [List.length_map]; omega)) (al_lls (x12 _ _ et2a) (x12 _ _ eu2) ltl (etl.trans eul.symm) (tlaa.same x12) (ula.same x12) fun l hl => Nat.le_trans (tlk l hl) (by decide))) (al_strs (x12 _ _ eh_a) (x12 _ _ ep_a) (by omega)), fun Hb sb => ⟨true, rfl, ifF ?_⟩⟩
    have xab := x12.trans sb
    have s3b := s3a.trans xab
    clear x12 x1 x2 n1 n2 sb
    -- behind a deed
    refine nx_asg ?_
    refine tlc_ls (K := K) (b := r) (bs := N.bs.filter (rd N zs)) (flp N zs) (fun R' hR => ⟨_, rfl, hR⟩) (s3b _ _ er) (by omega) (fun _ => rfl) (fun z hz H' s' R' kR => ⟨_, rfl, _, rfl, _, rfl, m, h, N, zs, z, rfl, md3.same (s3b.trans s'), NF, s' _ _ (s3b _ _ eh), st, (inr z hz).1, (inr z hz).2, kR⟩) fun BH Hc bl nBH eBH ebl bla blf sc => ?_
    have s3c := s3b.trans sc
    have xac := xab.trans sc
    have nabl : ∀ l ∈ bl, Ha l.1 = none := fun l hl => xab.free (blf l hl)
    have lbl : bl.length = (N.bs.filter (rd N zs)).length := by
      have := congrArg List.length ebl
      rw [List.length_map, List.length_map] at this
      exact this
    have sbl : ∀ l ∈ bl, l.2.length ≤ 1000 := fun l hl => by
      have : l.2 ∈ bl.map (·.2) := List.mem_map.mpr ⟨l, hl, rfl⟩
      rw [ebl] at this
      obtain ⟨z, _, e⟩ := List.mem_map.mp this
      rw [← e]
      have h1 : (flp N zs z).length ≤ N.bs.length := List.length_filter_le _ _
      omega
    clear blf nBH
    refine ⟨_, rfl, _, rfl, by show 2 ≤ sizeLine; decide, fun L1 n1 => ?_⟩
    have x1 := same_new (o := .lst [.ref BH, .ref h]) n1
    refine cons_lst ?_
    refine tlc_ls (K := K) (b := r) (bs := N.bs.filter (rd N zs)) (flp N zs) (fun R' hR => ⟨_, rfl, hR⟩) (x1 _ _ (s3c _ _ er)) (by omega) (fun _ => rfl) (fun z hz H' s' R' kR => ⟨_, rfl, _, rfl, p, N, zs, z, rfl, NF, s' _ _ (x1 _ _ (s3c _ _ ep3)), st, (inr z hz).1, kR⟩) fun FL Hd fl nFL eFL efl fla flf sd => ?_
    have xcd := x1.trans sd
    refine ⟨_, rfl, by show 2 ≤ sizeLine; decide, fun L2 n2 => ?_⟩
    have x2 := same_new (o := .lst [.ref FL, .ref p]) n2
    have xce := xcd.trans x2
    refine ⟨.ref L1, .ref L2, rfl, al_two (x2 _ _ (sd _ _ upd_same)) upd_same (al_lls (xce _ _ eBH) (x2 _ _ eFL) (by omega) (ebl.trans efl.symm) (bla.same xce) (fla.same x2) fun l hl => Nat.le_trans (sbl l hl) (by decide)) (al_strs (xce _ _ (s3c _ _ eh)) (xce _ _ (s3c _ _ ep3)) (by omega)), fun He se => ⟨true, rfl, ifF ?_⟩⟩
    have xcE := xce.trans se
    have s3e := s3c.trans xcE
    have xae := xac.trans xcE
    have blae := bla.same xcE
    have eBHe := xcE _ _ eBH
    clear xce xcd x1 x2 n1 n2 sd se flf fla efl eFL nFL
    -- deeds can be taken back
    refine ⟨_, rfl, _, rfl, BH, r, _, _, rfl, SqL.of eBHe, SqL.of (s3e _ _ er), fun D nD => ?_⟩
    have lrefs_len : (lrefs bl).length = bl.length := by unfold lrefs; rw [List.length_map]
    refine lc_it (walk_zip (K := K) (a := BH) (b := r) (xs := lrefs bl) (ys := (N.bs.filter (rd N zs)).map V.str) (n := bl.length) (by rw [lrefs_len, List.length_map, ← lbl, Nat.min_self])) (fun i H' => Same He H' ∧ H' D = some (.lst ((List.replicate i true).map V.bl))) ⟨same_new nD, upd_same⟩ (fun i H' _ h => ⟨SqL.of (h.1 _ _ eBHe), SqL.of (h.1 _ _ (s3e _ _ er))⟩) ?_ ?_
    · rintro i v G1 H' hi ⟨sm, eD⟩ ⟨T2, x, y, rfl, nT2, rfl, hx, hy⟩
      have sT2 := same_new (o := .tup [x, y]) nT2
      have smA := sm.trans sT2
      have hx : (lrefs bl)[i]? = some x := hx
      have hy : ((N.bs.filter (rd N zs)).map V.str)[i]? = some y := hy
      unfold lrefs at hx
      rw [List.getElem?_map] at hx hy
      cases ex : bl[i]? with
      | none =>
        rw [ex] at hx
        cases hx
      | some l =>
      cases ey : (N.bs.filter (rd N zs))[i]? with
      | none =>
        rw [ey] at hy
        cases hy
      | some z =>
      rw [ex] at hx
      rw [ey] at hy
      cases hx
      cases hy
      have hl := List.mem_of_getElem? ex
      have hz := inr z (List.mem_of_getElem? ey)
      have el2 : l.2 = flp N zs z := by
        have h1 : (bl.map (·.2))[i]? = ((N.bs.filter (rd N zs)).map (flp N zs))[i]? := by rw [ebl]
        rw [List.getElem?_map, List.getElem?_map, ex, ey] at h1
        exact Option.some.inj h1
      have ela := blae l hl
      rw [el2] at ela
      have stf : IsSet N (flp N zs z) := isSet_filt NF _
      refine ⟨T2, _, rfl, SqT.of upd_same, rfl, _, _, rfl, _, _, rfl, rfl, rfl, ?_⟩
      refine ⟨_, rfl, _, rfl, _, rfl, m, l.1, N, flp N zs z, z, rfl, md3.same (s3e.trans smA), NF, smA _ _ ela, stf, hz.1, fun G2 g2 => ⟨_, rfl, ?_⟩⟩
      rw [rd_flp NF, hz.2]
      refine ifT ⟨_, rfl, _, rfl, _, rfl, m, l.1, N, flp N zs z, z, rfl, md3.same ((s3e.trans smA).trans g2), NF, g2 _ _ (smA _ _ ela), stf, hz.1, by rw [rd_flp NF, hz.2], fun q G3 nq eq g3 => ?_⟩
      have g13 := (smA.trans g2).trans g3
      rw [flp_flp NF st hz.1] at eq
      refine ⟨_, rfl, _, _, .lst (SqL.of eq) (dp_strs zs), .lst (SqL.of (g13 _ _ (s3e _ _ ep3))) (dp_strs zs), shaped_strs (fun z hz => NF.word z (st.mem z hz)), shaped_strs (fun z hz => NF.word z (st.mem z hz)), ?_⟩
      rw [eqv_strs, decide_eq_true rfl]
      refine ⟨_, g3 _ _ (g2 _ _ (sT2 _ _ eD)), by rw [List.length_map, List.length_replicate]; exact room_str _ (by omega), upd_same' g13 nD, ?_⟩
      rw [upd_same, rep_snoc]
    rintro Hf ⟨sf, eD⟩
    refine ⟨D, _, rfl, SqL.of eD, ?_⟩
    rw [all_rep]
    refine ⟨true, rfl, ifF ?_⟩
    have s3f := s3e.trans sf
    have xaf := xae.trans sf
    clear eD nD
    -- still pieces
    refine ⟨_, rfl, R, N, rfl, na3.same s3f, fun PL Hg pl nPL ePL epl pla plf sg => ⟨PL, rfl, ⟨_, SqL.of ePL⟩, fun SI nSI => ?_⟩⟩
    have s3g := s3f.trans sg
    have xag := xaf.trans sg
    have lpl : pl.length ≤ 10 := by
      have h1 := congrArg List.length epl
      rw [List.length_map] at h1
      have h2 := pcs_many (N := N)
      have h3 := fr_len N
      omega
    have lin : ∀ l ∈ pl, l.2 ∈ pcs N := fun l hl => by
      rw [← epl]
      exact List.mem_map.mpr ⟨l, hl, rfl⟩
    refine lc_list (K := K) (a := PL) (xs := lrefs pl) (fun i H' => Same Hg H' ∧ H' SI = some (.lst (lrefs ((pl.take i).filter fun l => !l.2.any (rd N zs))))) ⟨same_new nSI, upd_same⟩ (fun i H' _ ⟨sm, _⟩ => SqL.of (sm _ _ ePL)) ?_ ?_
    · rintro i y H' hy ⟨sm, eD⟩
      unfold lrefs at hy
      rw [List.getElem?_map] at hy
      cases ey : pl[i]? with
      | none =>
        rw [ey] at hy
        cases hy
      | some l =>
      rw [ey] at hy
      cases hy
      have hl := List.mem_of_getElem? ey
      have hi := (List.getElem?_eq_some_iff.mp ey).1
      have el := sm _ _ (pla l hl)
      have ll := pcs_len NF (lin l hl)
      refine ⟨rfl, any_not ?_⟩
      refine tlc_bl (K := K) (b := l.1) (bs := l.2) (rd N zs) (fun R' hR => ⟨_, rfl, hR⟩) el (by omega) (fun _ => rfl) (fun z hz H'' s'' R' kR => ⟨_, rfl, _, rfl, r, _, rfl, .inl (SqL.of (s'' _ _ (sm _ _ (s3g _ _ er)))), rfl, flat_strs _, by
        rw [inV_str, inN z (pcs_in NF (lin l hl) z hz)]
        exact kR _ fun _ _ e => e⟩) fun D2 G2 nD2 g2 eD2 => ?_
      refine ⟨D2, _, rfl, SqL.of eD2, _, rfl, ?_⟩
      have ea : (l.2.map (rd N zs)).any id = l.2.any (rd N zs) := by rw [List.any_map]; rfl
      rw [ea, filt_snoc ey]
      refine ite2 (fun h => ?_) (fun h => ?_)
      · refine ⟨_, rfl, _, g2 _ _ eD, ?_, upd_same' (sm.trans g2) nSI, ?_⟩
        · unfold lrefs
          rw [List.length_map]
          have h1 := List.length_filter_le (fun l : Addr × List Str => !l.2.any (rd N zs)) (pl.take i)
          rw [List.length_take] at h1
          exact room_str _ (by omega)
        · rw [upd_same, if_pos h]
          unfold lrefs
          rw [List.map_append]
          rfl
      · refine ⟨sm.trans g2, ?_⟩
        rw [if_neg h, List.append_nil]
        exact g2 _ _ eD
    rintro Hh ⟨sh, eSI⟩
    have lpl' : (lrefs pl).length = pl.length := by unfold lrefs; rw [List.length_map]
    rw [lpl', List.take_length] at eSI
    have esi : ((pl.filter fun l => !l.2.any (rd N zs)).map (·.2)) = stl N zs := by
      unfold stl
      rw [← epl, List.filter_map]
      rfl
    have sia : LsAt Hh (pl.filter fun l => !l.2.any (rd N zs)) := fun l hl => sh _ _ (pla l (List.mem_filter.mp hl).1)
    have nfsi : ∀ l ∈ (pl.filter fun l => !l.2.any (rd N zs)), Hf l.1 = none := fun l hl => plf l (List.mem_filter.mp hl).1
    have nfSI : Hf SI = none := sg.free nSI
    have lsi : (pl.filter fun l => !l.2.any (rd N zs)).length ≤ 10 := Nat.le_trans (List.length_filter_le _ _) lpl
    have ssi : ∀ l ∈ (pl.filter fun l => !l.2.any (rd N zs)), l.2.length ≤ 5000 := fun l hl => by
      have := pcs_len NF (lin l (List.mem_filter.mp hl).1)
      omega
    generalize (pl.filter fun l => !l.2.any (rd N zs)) = si at *
    have s3h := s3g.trans sh
    have xfh := sg.trans sh
    have xah := xag.trans sh
    clear lpl' nSI nPL plf pla ePL lin lpl epl
    refine ⟨_, rfl, _, rfl, m, h, N, zs, rfl, md3.same s3h, NF, s3h _ _ eh, st, fun SO Hi sl nSO eSO esl sla slf si_ => ?_⟩
    have s3i := s3h.trans si_
    have xai := xah.trans si_
    have lsl : sl.length ≤ 10 := by
      have h1 := congrArg List.length (esl.trans esi.symm)
      rw [List.length_map, List.length_map] at h1
      omega
    have ssl : ∀ l ∈ sl, l.2.length ≤ 1000 := fun l hl => by
      have : l.2 ∈ sl.map (·.2) := List.mem_map.mpr ⟨l, hl, rfl⟩
      rw [esl] at this
      have := pcs_len NF (List.mem_filter.mp this).1
      omega
    refine ⟨_, rfl, _, rfl, .ref SO, .ref SI, rfl, al_lls eSO (si_ _ _ eSI) (by omega) (esl.trans esi.symm) sla (sia.same si_) fun l hl => Nat.le_trans (ssl l hl) (by decide), fun Hj sj => ⟨true, rfl, ifF ?_⟩⟩
    have s3j := s3i.trans sj
    have xaj := xai.trans sj
    have eSO := sj _ _ eSO
    have sla := sla.same sj
    have x7j := s7a.trans xaj
    have eTOj := x7j _ _ eTO
    have et0j := x7j _ _ et0
    have et2j := x7j _ _ et2
    have tlaj := tla.same x7j
    have xej := (sf.trans (sg.trans sh)).trans (si_.trans sj)
    have blaj := blae.same xej
    have eBHj := xej _ _ eBHe
    have lnt : (lrefs tl).length = tl.length := by unfold lrefs; rw [List.length_map]
    have lns : (lrefs sl).length = sl.length := by unfold lrefs; rw [List.length_map]
    have ltl' : tl.length = N.bs.length := by
      have := congrArg List.length etl
      rw [List.length_map, List.length_map] at this
      exact this
    -- what was told is spoilt
    refine ⟨_, rfl, TO, _, 2, .ref t2, rfl, rfl, SqL.of eTOj, rfl, _, rfl, t2, BH, _, _, rfl, rfl, et2j, eBHj, by rw [lnt, lrefs_len, sizeLine_eq]; omega, fun M1 nM1 => ?_⟩
    have y1 := same_new (o := .lst (lrefs tl ++ lrefs bl)) nM1
    refine ⟨_, rfl, M1, SO, _, _, rfl, rfl, upd_same, y1 _ _ eSO, by rw [List.length_append, lnt, lrefs_len, lns, sizeLine_eq]; omega, fun M2 nM2 => ?_⟩
    have y2 := same_new (o := .lst ((lrefs tl ++ lrefs bl) ++ lrefs sl)) nM2
    have y12 := y1.trans y2
    refine ⟨_, rfl, TO, _, 0, .ref t0, rfl, rfl, SqL.of (y12 _ _ eTOj), rfl, _, rfl, by show 2 ≤ sizeLine; decide, fun M3 nM3 => ?_⟩
    have y3 := same_new (o := .lst [.ref t0, .ref SO]) nM3
    refine ⟨M2, M3, _, _, rfl, rfl, y3 _ _ upd_same, upd_same, by rw [List.length_append, List.length_append, lnt, lrefs_len, lns, sizeLine_eq]; show _ + 2 ≤ _; omega, fun M nM => ?_⟩
    have y4 := same_new (o := .lst (((lrefs tl ++ lrefs bl) ++ lrefs sl) ++ [.ref t0, .ref SO])) nM
    have y14 := (y12.trans y3).trans y4
    have nMj : Hj M = none := (y12.trans y3).free nM
    have eads : ((lrefs tl ++ lrefs bl) ++ lrefs sl) ++ [V.ref t0, V.ref SO] = (((tl.map (·.1) ++ bl.map (·.1)) ++ sl.map (·.1)) ++ [t0, SO]).map V.ref := by
      unfold lrefs
      rw [List.map_append, List.map_append, List.map_append, List.map_map, List.map_map, List.map_map]
      rfl
    have eM : upd (upd (upd (upd Hj M1 (.lst (lrefs tl ++ lrefs bl))) M2 (.lst ((lrefs tl ++ lrefs bl) ++ lrefs sl))) M3 (.lst [.ref t0, .ref SO])) M (.lst (((lrefs tl ++ lrefs bl) ++ lrefs sl) ++ [.ref t0, .ref SO])) M = some (.lst ((((tl.map (·.1) ++ bl.map (·.1)) ++ sl.map (·.1)) ++ [t0, SO]).map V.ref)) := by
      rw [upd_same, eads]
    have inA : ∀ d ∈ ((tl.map (·.1) ++ bl.map (·.1)) ++ sl.map (·.1)) ++ [t0, SO], (d = t0 ∨ ∃ l ∈ tl, l.1 = d) ∨ (∃ l ∈ bl, l.1 = d) ∨ (d = SO ∨ ∃ l ∈ sl, l.1 = d) := fun d hd => by
      rcases List.mem_append.mp hd with hd | hd
      · rcases List.mem_append.mp hd with hd | hd
        · rcases List.mem_append.mp hd with hd | hd
          · exact .inl (.inr (List.mem_map.mp hd))
          · exact .inr (.inl (List.mem_map.mp hd))
        · exact .inr (.inr (.inr (List.mem_map.mp hd)))
      · rcases List.mem_cons.mp hd with rfl | hd
        · exact .inl (.inl rfl)
        · exact .inr (.inr (.inl (List.mem_singleton.mp hd)))
    have lads : (((tl.map (·.1) ++ bl.map (·.1)) ++ sl.map (·.1)) ++ [t0, SO]).length ≤ 40 := by
      rw [List.length_append, List.length_append, List.length_append, List.length_map, List.length_map, List.length_map]
      show _ + 2 ≤ 40
      omega
    have lsts : ∀ d ∈ ((tl.map (·.1) ++ bl.map (·.1)) ++ sl.map (·.1)) ++ [t0, SO], ∃ xs, Hj d = some (.lst xs) ∧ xs.length ≤ 1000 := fun d hd => by
      rcases inA d hd with (rfl | ⟨l, hl, rfl⟩) | ⟨l, hl, rfl⟩ | (rfl | ⟨l, hl, rfl⟩)
      · exact ⟨_, et0j, by rw [List.length_map]; omega⟩
      · exact ⟨_, tlaj l hl, by rw [List.length_map]; exact tlk l hl⟩
      · exact ⟨_, blaj l hl, by rw [List.length_map]; exact sbl l hl⟩
      · exact ⟨_, eSO, by rw [lns]; omega⟩
      · exact ⟨_, sla l hl, by rw [List.length_map]; exact ssl l hl⟩
    -- whatever is older, or was due, is none of these
    have out3 : ∀ (c : Addr) (o : HO), H3 c = some o → c ∉ ((tl.map (·.1) ++ bl.map (·.1)) ++ sl.map (·.1)) ++ [t0, SO] := fun c o e hd => by
      have no : H3 c = none := by
        rcases inA c hd with (rfl | ⟨l, hl, rfl⟩) | ⟨l, hl, rfl⟩ | (rfl | ⟨l, hl, rfl⟩)
        · exact n3t0
        · exact n3tl l hl
        · exact s3a.free (nabl l hl)
        · exact s3h.free nSO
        · exact s3h.free (slf l hl)
      rw [e] at no
      cases no
    have outU : ∀ (c : Addr) (o : HO), H7 c = none → Ha c = some o → c ∉ ((tl.map (·.1) ++ bl.map (·.1)) ++ sl.map (·.1)) ++ [t0, SO] := fun c o e1 e2 hd => by
      rcases inA c hd with (rfl | ⟨l, hl, rfl⟩) | ⟨l, hl, rfl⟩ | (rfl | ⟨l, hl, rfl⟩)
      · rw [et0] at e1
        cases e1
      · rw [tla l hl] at e1
        cases e1
      · rw [nabl l hl] at e2
        cases e2
      · rw [xah.free nSO] at e2
        cases e2
      · rw [xah.free (slf l hl)] at e2
        cases e2
    have outS : ∀ (c : Addr) (o : HO), Hf c = none → Hh c = some o → c ∉ ((tl.map (·.1) ++ bl.map (·.1)) ++ sl.map (·.1)) ++ [t0, SO] := fun c o e1 e2 hd => by
      rcases inA c hd with (rfl | ⟨l, hl, rfl⟩) | ⟨l, hl, rfl⟩ | (rfl | ⟨l, hl, rfl⟩)
      · rw [xaf _ _ (s7a _ _ et0)] at e1
        cases e1
      · rw [xaf _ _ (s7a _ _ (tla l hl))] at e1
        cases e1
      · rw [sf _ _ (blae l hl)] at e1
        cases e1
      · rw [nSO] at e2
        cases e2
      · rw [slf l hl] at e2
        cases e2
    have MA : M ∉ ((tl.map (·.1) ++ bl.map (·.1)) ++ sl.map (·.1)) ++ [t0, SO] := fun hd => by
      obtain ⟨xs, e, _⟩ := lsts M hd
      rw [nMj] at e
      cases e
    generalize ((tl.map (·.1) ++ bl.map (·.1)) ++ sl.map (·.1)) ++ [t0, SO] = ads at *
    have ky : ∀ (c : Addr) (o : HO), Hj c = some o → upd (upd (upd (upd Hj M1 (.lst (lrefs tl ++ lrefs bl))) M2 (.lst ((lrefs tl ++ lrefs bl) ++ lrefs sl))) M3 (.lst [.ref t0, .ref SO])) M (.lst (((lrefs tl ++ lrefs bl) ++ lrefs sl) ++ [.ref t0, .ref SO])) c = some o := y14
    generalize upd (upd (upd (upd Hj M1 (.lst (lrefs tl ++ lrefs bl))) M2 (.lst ((lrefs tl ++ lrefs bl) ++ lrefs sl))) M3 (.lst [.ref t0, .ref SO])) M (.lst (((lrefs tl ++ lrefs bl) ++ lrefs sl) ++ [.ref t0, .ref SO])) = Hk at *
    clear y14 y4 y3 y12 y2 y1 nM nM1 nM2 nM3 inA
    refine ⟨M, rfl, ⟨_, SqL.of eM⟩, for_list (K := K) (a := M) (xs := ads.map V.ref) (fun i σ H' => ∃ v10 v13 v14 v15 v16 : Option V, σ = [some (.ref a), some (.ref R), some (.ref m), some (.ref p), some (.ref ND), some (.ref h), some (.ref r), some (.ref TO), some (.ref U), some (.ref BH), v10, some (.ref SI), some (.ref SO), v13, v14, v15, v16] ∧ (∀ (c : Addr) (o : HO), c ∉ ads → Hk c = some o → H' c = some o) ∧ ∀ d ∈ ads, ∃ xs, H' d = some (.lst xs) ∧ xs.length ≤ 1000 + i)
      ⟨_, _, _, _, _, rfl, fun _ _ _ e => e, fun d hd => let ⟨xs, e, l⟩ := lsts d hd; ⟨xs, ky _ _ e, l⟩⟩ (fun i σ H' _ hI => by
        obtain ⟨_, _, _, _, _, _, keep, _⟩ := hI
        exact SqL.of (keep _ _ MA eM)) ?_ ?_⟩
    · rintro i x σ H' hx ⟨v10, v13, v14, v15, v16, rfl, keep, lsI⟩
      rw [List.getElem?_map] at hx
      cases ex : ads[i]? with
      | none =>
        rw [ex] at hx
        cases hx
      | some d =>
      rw [ex] at hx
      cases hx
      have hd := List.mem_of_getElem? ex
      have hi := (List.getElem?_eq_some_iff.mp ex).1
      obtain ⟨xs, e, l⟩ := lsI d hd
      refine ⟨_, rfl, .inl ⟨rfl, _, SqL.of e⟩, d, _, _, rfl, rfl, e, room_str _ (by omega), _, _, _, _, _, rfl, fun c o hc ec => ?_, fun d' hd' => ?_⟩
      · rw [upd_ne (fun q => hc (by rw [q]; exact hd))]
        exact keep c o hc ec
      · by_cases q : d' = d
        · subst q
          exact ⟨_, upd_same, by rw [List.length_append]; show _ + 1 ≤ _; omega⟩
        · obtain ⟨ys, e', l'⟩ := lsI d' hd'
          exact ⟨ys, (upd_ne q).trans e', by omega⟩
    rintro σ Hl ⟨v10, v13, v14, v15, v16, rfl, keep, _⟩
    have s3l : Same H3 Hl := fun c o e => keep c o (out3 c o e) (ky _ _ (s3j _ _ e))
    have s0l := s03.trans s3l
    have mdl := md.same s0l
    have epl := s0l _ _ ep
    have erl := s3l _ _ er
    have eUl := keep _ _ (outU U _ n7U eU) (ky _ _ (xaj _ _ eU))
    have eu2l := keep _ _ (outU u2 _ n7u2 eu2) (ky _ _ (xaj _ _ eu2))
    have ulal : LsAt Hl ul := fun l hl => keep _ _ (outU l.1 _ (n7ul l hl) (ula l hl)) (ky _ _ (xaj _ _ (ula l hl)))
    have xhj := si_.trans sj
    have eSIl := keep _ _ (outS SI _ nfSI eSI) (ky _ _ (xhj _ _ eSI))
    have sial : LsAt Hl si := fun l hl => keep _ _ (outS l.1 _ (nfsi l hl) (sia l hl)) (ky _ _ (xhj _ _ (sia l hl)))
    have lul : ul.length = N.bs.length := by
      have := congrArg List.length eul
      rw [List.length_map, List.length_map] at this
      exact this
    clear keep ky outS outU out3 MA lsts eM
    -- once more
    refine ⟨_, rfl, _, rfl, m, p, N, zs, rfl, mdl, NF, epl, st, fun g0 J1 ng0 eg0 j1 => ?_⟩
    refine ⟨_, rfl, _, rfl, m, p, N, zs, rfl, mdl.same j1, NF, j1 _ _ epl, st, fun g1 J2 gl ng1 eg1 egl gla glf j2 => ?_⟩
    have j12 := j1.trans j2
    refine tlc_ls (K := K) (b := b) (bs := N.bs) (litN N zs) (fun R' hR => ⟨_, rfl, R, _, 0, .ref b, rfl, rfl, SqL.of (j12 _ _ (s3l _ _ R3)), rfl, hR⟩) (j12 _ _ (s3l _ _ b3)) (by omega) (fun _ => rfl) (fun z hz H' s' R' kR => ⟨_, rfl, _, rfl, _, rfl, m, p, N, zs, z, rfl, mdl.same (j12.trans s'), NF, s' _ _ (j12 _ _ epl), st, hz, kR⟩) fun g2 J3 hl' ng2 eg2 ehl hla hlf j3 => ?_
    have j13 := j12.trans j3
    refine ⟨by show 3 ≤ sizeLine; decide, fun G nG => ?_⟩
    have z1 := same_new (o := .lst [.ref g0, .ref g1, .ref g2]) nG
    have eG : upd J3 G (.lst [.ref g0, .ref g1, .ref g2]) G = _ := upd_same
    have j14 := j13.trans z1
    have eg0 := z1 _ _ (j3 _ _ (j2 _ _ eg0))
    have eg1 := z1 _ _ (j3 _ _ eg1)
    have gla := gla.same (j3.trans z1)
    have eg2 := z1 _ _ eg2
    have hla := hla.same z1
    generalize upd J3 G (.lst [.ref g0, .ref g1, .ref g2]) = J4 at *
    refine ⟨_, rfl, _, rfl, _, rfl, _, rfl, U, _, 2, .ref u2, rfl, rfl, SqL.of (j14 _ _ eUl), rfl, by show 3 ≤ sizeLine; decide, fun L3 n3 => ?_⟩
    have z3 := same_new (o := .lst [.ref r, .ref SI, .ref u2]) n3
    have j15 := j14.trans z3
    have lgl : gl.length ≤ 10 := by
      have h1 := congrArg List.length (egl.trans esi.symm)
      rw [List.length_map, List.length_map] at h1
      omega
    have sgl : ∀ l ∈ gl, l.2.length ≤ 5000 := fun l hl => by
      have : l.2 ∈ gl.map (·.2) := List.mem_map.mpr ⟨l, hl, rfl⟩
      rw [egl] at this
      have := pcs_len NF (List.mem_filter.mp this).1
      omega
    have lhl : hl'.length = N.bs.length := by
      have := congrArg List.length ehl
      rw [List.length_map, List.length_map] at this
      exact this
    have shl : ∀ l ∈ hl', l.2.length ≤ 5000 := fun l hl => by
      have : l.2 ∈ hl'.map (·.2) := List.mem_map.mpr ⟨l, hl, rfl⟩
      rw [ehl] at this
      obtain ⟨z, _, e⟩ := List.mem_map.mp this
      rw [← e]
      have h1 : (litN N zs z).length ≤ (nb N z).length := List.length_filter_le _ _
      have h2 : (nb N z).length ≤ N.bs.length := List.length_filter_le _ _
      omega
    refine ⟨.ref G, .ref L3, rfl, al_three (z3 _ _ eG) upd_same (al_strs (z3 _ _ eg0) (j15 _ _ erl) (by omega)) (al_lls (z3 _ _ eg1) (j15 _ _ eSIl) (by omega) (egl.trans esi.symm) (gla.same z3) (sial.same j15) sgl) (al_lls (z3 _ _ eg2) (j15 _ _ eu2l) (by omega) (ehl.trans eul.symm) (hla.same z3) (ulal.same j15) shl), fun J6 j6 => ⟨true, rfl, ifT ?_⟩⟩
    have s0m := s0l.trans (j15.trans j6)
    refine ⟨_, rfl, m, N, rfl, md.same s0m, NF, fun D pp qq uu qs' J7 nD eD epp eqq qaq eqs euu j7 => ?_⟩
    have s0n := s0m.trans j7
    have q7 : QAt J7 qs := a5.tu (Tu.of s0n)
    have eqs' : qs'.map (·.2) = qs.map (·.2) := by rw [eqs, tiesOf_ts na.ok, a4]
    have lqs : qs'.length ≤ 5000 := by
      have h1 := congrArg List.length eqs'
      rw [List.length_map, List.length_map] at h1
      have h2 := congrArg List.length a4
      rw [List.length_map] at h2
      have h3 := NF.tfew
      omega
    exact ⟨_, rfl, .ref D, .ref R, rfl, al_three eD (s0n _ _ a1) (al_strs epp (s0n _ _ a2) (by omega)) (al_ties eqq (s0n _ _ a3) lqs eqs' qaq q7) (al_tab euu (s0n _ _ a6) (by omega)), fun J8 j8 => kk J8 (s0n.trans j8)⟩
end
end NK
/-! the net of the lone lamp; what is drawn for a net -/
namespace NK
open PySem PySem.Spec PyProof.Rows L2 He K1
/-! ### a net of one lamp -/
abbrev qL : List Str := ["q"]
def lone (s : Str) : NetD := ⟨["q"], [], fun _ => s⟩
theorem lone_word : Word "q" := ⟨by decide, by decide, by decide⟩
theorem lone_ok {s : Str} (h : wish3 s) : NetF (lone s) := ⟨List.pairwise_singleton _ _, fun z hz => by rw [List.mem_singleton.mp hz]; exact lone_word, by show 1 ≤ 1; decide, by show 1 < 64; decide, List.nodup_nil, by show 0 < 64; decide, fun t ht => (nomatch ht), fun z _ => h⟩
theorem lone_nb (s z : Str) : nb (lone s) z = [] := by
  show nbrs ["q"] [] z = []
  unfold nbrs
  refine List.filter_eq_nil_iff.mpr fun y _ => ?_
  unfold adj
  rw [decide_eq_true_eq]
  rintro (h | h) <;> cases h
theorem lone_rd (s : Str) (zs : List Str) (z : Str) : rd (lone s) zs z = decide (s = "even") := by
  unfold rd litN
  rw [lone_nb]
  rfl
theorem lone_set (s : Str) : IsSet (lone s) [] := ⟨fun z h => (nomatch h), List.Pairwise.nil⟩
theorem lone_set1 (s : Str) : IsSet (lone s) qL := ⟨fun z h => h, List.pairwise_singleton _ _⟩
theorem lone_flp (s : Str) : flp (lone s) qL "q" = [] := by
  show (["q"] : List Str).filter (xor1 ["q"] "q") = []
  decide +kernel
theorem lone_pc {s : Str} (h : wish3 s) (f : isF (lone s) "q" = true) : pc (lone s) "q" = qL := by
  have hx : ("q" : Str) ∈ fr (lone s) := List.mem_filter.mpr ⟨List.mem_singleton.mpr rfl, f⟩
  refine asc_uniq ord_sl (reach_asc (lone_ok h) _ _) (List.pairwise_singleton _ _) fun x => ⟨fun k => (List.mem_filter.mp (pc_fr hx k)).1, fun k => ?_⟩
  rw [List.mem_singleton.mp k]
  exact pc_self hx
theorem lone_pcs {s : Str} (h : wish3 s) (f : isF (lone s) "q" = true) : pcs (lone s) = [qL] := by
  have e : fr (lone s) = qL := by
    show (["q"] : List Str).filter (isF (lone s)) = qL
    rw [List.filter_cons, if_pos f]
    rfl
  unfold pcs
  rw [e, List.foldl_cons, List.foldl_nil]
  unfold pstep
  rw [if_neg (fun k => nomatch k), lone_pc h f]
  rfl
theorem stl_even : stl (lone "even") [] = [] := by
  unfold stl
  rw [lone_pcs (.inr (.inl rfl)) (by decide +kernel)]
  refine List.filter_eq_nil_iff.mpr fun l hl => ?_
  rw [List.mem_singleton.mp hl, List.any_cons, lone_rd]
  decide
theorem stl_odd : stl (lone "odd") [] = [qL] := by
  unfold stl
  rw [lone_pcs (.inl rfl) (by decide +kernel)]
  refine List.filter_eq_self.mpr fun l hl => ?_
  rw [List.mem_singleton.mp hl, List.any_cons, List.any_nil, lone_rd]
  decide +kernel
theorem stl_stuck (zs : List Str) : stl (lone "stuck") zs = [] := by
  have e : fr (lone "stuck") = [] := by
    show (["q"] : List Str).filter (isF (lone "stuck")) = []
    decide +kernel
  unfold stl pcs
  rw [e]
  rfl
theorem rdy_even (zs : List Str) : (lone "even").bs.filter (rd (lone "even") zs) = qL := by
  refine List.filter_eq_self.mpr fun z _ => ?_
  rw [lone_rd]
  decide
/-- made of its words -/
theorem lone_to {C : Addr} {σ : L2.St} {s : Str} (h : wish3 s) {H : Hp} {Q : VK} (k : ∀ (a : Addr) (H' : Hp), Made C H' a (lone s) → Same H H' → Q (.ref a) H') :
    tMake C (spInit C) [] E0 (tCons (tLst (tCons (tC (.str "q")) tNil)) (tCons (tLst tNil) (tCons (tDisp [(tC (.str "q"), tC (.str s))]) tNil))) σ H Q := by
  refine ⟨by show 1 ≤ sizeLine; decide, fun p np => ⟨by show 0 ≤ sizeLine; decide, fun t nt => fun w nw => ⟨upd_same, [(Sum.inr "q", .str s)], rfl, by show 1 ≤ 15; decide, ?_⟩⟩⟩
  have x1 := same_new (o := .lst [V.str "q"]) np
  have x2 := same_new (o := .lst []) nt
  have x3 : Same (upd (upd H p (.lst [V.str "q"])) t (.lst [])) (upd (upd (upd (upd H p (.lst [V.str "q"])) t (.lst [])) w (.dK [])) w (.dK (mergeK [] [(Sum.inr "q", .str s)]))) := upd_same' (same_new nw) nw
  have x13 := (x1.trans x2).trans x3
  refine make_to (Q := fun a H' => Q (.ref a) H') (C := C) (p := p) (t := t) (w := w) (zs := ["q"]) (qs := []) (kvs := mergeK [] [(Sum.inr "q", .str s)]) (N := lone s) ⟨x3 _ _ (x2 _ _ upd_same), List.nodup_cons.mpr ⟨List.not_mem_nil, List.nodup_nil⟩, fun z hz => ?_, by show 1 ≤ 1; decide, by show 1 < 64; decide, ⟨x3 _ _ upd_same, by show 0 < 64; decide, fun q hq => (nomatch hq), List.nodup_nil, fun q hq => (nomatch hq)⟩, ⟨upd_same, rfl, fun z hz => ?_⟩⟩ (List.Perm.refl _) (List.pairwise_singleton _ _) (fun r => Iff.rfl) (fun z hz => ?_) fun a H' _ md sm _ => k a H' md (x13.trans sm)
  · rw [List.mem_singleton.mp hz]
    exact lone_word
  · rw [List.mem_singleton.mp hz]
    exact ⟨s, rfl, h⟩
  · rw [List.mem_singleton.mp hz]
    rfl
/-! ### what is drawn for a net -/
structure DrawnAt (H : Hp) (d : Addr) (N : NetD) : Prop where
  ex : ∃ l1 l2 l3 l4 : Addr × List Str, H d = some (.lst [.ref l1.1, .ref l2.1, .ref l3.1, .ref l4.1]) ∧ LsAt H [l1, l2, l3, l4] ∧ ∀ l ∈ [l1, l2, l3, l4], IsSet N l.2
theorem DrawnAt.same {H H' : Hp} {d : Addr} {N : NetD} (s : Same H H') (h : DrawnAt H d N) : DrawnAt H' d N := let ⟨l1, l2, l3, l4, e, a, b⟩ := h.ex; ⟨l1, l2, l3, l4, s _ _ e, a.same s, b⟩
theorem DrawnAt.but {H H' : Hp} {q d : Addr} {n : Int} {N : NetD} (pu : Purse H q n) (bt : But q H H') (h : DrawnAt H d N) : DrawnAt H' d N := let ⟨l1, l2, l3, l4, e, a, b⟩ := h.ex; ⟨l1, l2, l3, l4, bt _ _ (purse_ne pu e fun _ _ _ _ q => by cases q) e, a.but pu bt, b⟩
theorem Made.updL {C : Addr} {H : Hp} {a D : Addr} {N : NetD} {xs : List V} {o : HO} (m : Made C H a N) (e : H D = some (.lst xs)) : Made C (L2.upd H D o) a N := by
  obtain ⟨dx, nr, wr, tt, a1, a2, a3, a4, a5⟩ := m.ex
  have ne : ∀ {b : Addr} {q : HO}, H b = some q → (∀ ys, q ≠ .lst ys) → b ≠ D := fun h1 h2 h3 => by
    rw [h3, e] at h1
    exact h2 _ (Option.some.inj h1).symm
  exact ⟨dx, nr, wr, tt, (upd_ne (ne a1 fun _ q => by cases q)).trans a1, (upd_ne (ne a2 fun _ q => by cases q)).trans a2, a3, fun e he => (upd_ne (ne (a4 e he) fun _ q => by cases q)).trans (a4 e he), (upd_ne (ne a5 fun _ q => by cases q)).trans a5⟩
/-- drawn, none of it at D -/
structure DrawnX (H : Hp) (D d : Addr) (N : NetD) : Prop where
  ex : ∃ l1 l2 l3 l4 : Addr × List Str, H d = some (.lst [.ref l1.1, .ref l2.1, .ref l3.1, .ref l4.1]) ∧ LsAt H [l1, l2, l3, l4] ∧ (∀ l ∈ [l1, l2, l3, l4], IsSet N l.2) ∧ d ≠ D ∧ ∀ l ∈ [l1, l2, l3, l4], l.1 ≠ D
theorem DrawnX.at_ {H : Hp} {D d : Addr} {N : NetD} (h : DrawnX H D d N) : DrawnAt H d N := let ⟨l1, l2, l3, l4, e, a, b, _⟩ := h.ex; ⟨l1, l2, l3, l4, e, a, b⟩
theorem DrawnX.upd {H : Hp} {D d : Addr} {N : NetD} {o : HO} (h : DrawnX H D d N) : DrawnX (L2.upd H D o) D d N := let ⟨l1, l2, l3, l4, e, a, b, c, f⟩ := h.ex; ⟨l1, l2, l3, l4, (upd_ne c).trans e, fun l hl => (upd_ne (f l hl)).trans (a l hl), b, c, f⟩
theorem DrawnX.but {H H' : Hp} {q D d : Addr} {n : Int} {N : NetD} (pu : Purse H q n) (bt : But q H H') (h : DrawnX H D d N) : DrawnX H' D d N := let ⟨l1, l2, l3, l4, e, a, b, c⟩ := h.ex; ⟨l1, l2, l3, l4, bt _ _ (purse_ne pu e fun _ _ _ _ q => by cases q) e, a.but pu bt, b, c⟩
theorem gn_asg {i : Nat} {te : TE} {g : TG} {u : TS} {D : Ends} {rt : VK} {bk ct : L2.St → Hp → Prop} {σ : L2.St} {H : Hp} {x : V} (h : te (σ.set i (some x)) H fun y H1 => g y (σ.set i (some x)) H1 (u D)) : gName i x σ H (Ends.nx ⟨tSeq (tAsg te g) u D, rt, bk, ct⟩) := h
theorem gn2_asg {i : Nat} {te : TE} {g : TG} {u : TS} {D : Ends} {σ : L2.St} {H : Hp} {x : V} (h : te (σ.set i (some x)) H fun y H1 => g y (σ.set i (some x)) H1 (u D)) : gName i x σ H (tSeq (tAsg te g) u D) := h
theorem cons_call {sp : Sp} {ds : List V} {E : XK} {t1 : TE} {r1 r2 : TA} {σ : L2.St} {H : Hp} {Q : List V → Hp → Prop} (h : t1 σ H fun x H1 => r1 σ H1 fun xs H2 => sp ((x :: xs) ++ ds) H2 (fun v H3 => r2 σ H3 fun ys H4 => Q (v :: ys) H4) E) : tCons (tCall sp ds E (tCons t1 r1)) r2 σ H Q := h
theorem not_call {sp sp2 : Sp} {ds d2 : List V} {E E2 : XK} {t1 : TE} {r1 r2 : TA} {σ : L2.St} {H : Hp} {R : Bool → Hp → Prop} (h : t1 σ H fun x H1 => r1 σ H1 fun xs H2 => sp2 ((x :: xs) ++ d2) H2 (fun v H3 => r2 σ H3 fun ys H4 => sp ((v :: ys) ++ ds) H4 (fun b H5 => ∃ c, b = .bl c ∧ R (!c) H5) E) E2) : tNot (tB (tCall sp ds E (tCons (tCall sp2 d2 E2 (tCons t1 r1)) r2))) σ H R := h
theorem ex_asg {te : TE} {g : TG} {u : TS} {D : Ends} {rt : VK} {bk ct : L2.St → Hp → Prop} {σ : L2.St} {H : Hp} (h : te σ H fun y H1 => g y σ H1 (u D)) : Ends.nx ⟨tSeq (tAsg te g) u D, rt, bk, ct⟩ σ H := h
theorem sq_asg {te : TE} {g : TG} {u : TS} {D : Ends} {σ : L2.St} {H : Hp} (h : te σ H fun x H1 => g x σ H1 (u D)) : tSeq (tAsg te g) u D σ H := h
theorem isSet_all {N : NetD} (F : NetF N) : IsSet N N.bs := ⟨fun _ h => h, F.asc⟩
theorem isSet_nil {N : NetD} : IsSet N [] := ⟨fun z h => (nomatch h), List.Pairwise.nil⟩
end NK
/-! the law's def -/
namespace NK
open PySem PySem.Spec PyProof.Rows L2 He K1
section
variable {P : Program} {w : World} {K : PySem.W.Frag} {mg : Str → Option Value} {base : Heap} {C W RW : Addr}
def spLaw (K : PySem.W.Frag) : Sp := fun vs H Q _ => ∃ (a : Addr) (ns : List Int), vs = [.ref a] ∧ SqL K H a (ns.map V.int) ∧ ∀ H', Q (.bl true) H'
theorem Purse.but {a b : Addr} {H H' : Hp} {n : Int} (p : Purse H b n) (h : But a H H') (ne : b ≠ a) : Purse H' b n := let ⟨x, sd, t, c, e, r⟩ := p; ⟨x, sd, t, c, h _ _ ne e, r⟩
theorem ok_law {f : Addr} {fd : FuncData} (F : FnP K "law" s_law f fd) (B : FreeN mg) (MK : C8.Mak P w K mg base 3 "Net" C (spInit C) []) (G__law_purses : Has P w K mg base 2 "_law_purses" ["_law_script", "_law_few"] (spPurses K)) (G__law_scene : Has P w K mg base 6 "_law_scene" ["_law_purse_here", "_law_most"] spScene) (G__law_still_net : Has P w K mg base 5 "_law_still_net" ["_law_purse_here"] spStillNet) (G__law_net : Has P w K mg base 5 "_law_net" ["_law_net_here"] (spLNet C)) (G__law_setting : Has P w K mg base 3 "_law_setting" ["_law_purse_here", "_law_net_here"] spLSetting) (G__law_deeds_right : Has P w K mg base 6 "_law_deeds_right" ["_law_purse_here", "_law_net_here", "_law_made", "_law_setting_here"] (spDeeds C)) (G__law_judged_settings : Has P w K mg base 6 "_law_judged_settings" ["_law_purse_here", "_law_net_here", "_law_made", "_law_setting_here"] (spJudged C)) (G_ready_lamps : Has P w K mg base 5 "ready_lamps" ["net", "setting"] (spReadyLamps C)) (G_switched : Has P w K mg base 5 "switched" ["net", "setting", "lamp"] (spSwitched K C)) (G_still_pieces : Has P w K mg base 5 "still_pieces" ["net", "setting"] (spStill C)) (G__law_exact : Has P w K mg base 5 "_law_exact" ["_law_mine", "_law_theirs"] (spX 5)) : FnOk P w K mg base CX0 7 f fd ["_law_script"] (spLaw K) := by
  refine fnP_ok F sc_law (fun vs H Q E h => ?_) (fun cdv A outer s H vs Q E hr h => ?_)
  · obtain ⟨a, ns, rfl, _⟩ := h
    rfl
  · obtain ⟨a, ns, rfl, hS, kk⟩ := h
    have nd := sc_law.nd
    refine ⟨_, (pss_cons (ps_for PassesOwn.never rfl (k_pil (K := K) rfl (pe_has G__law_purses (hr.mono (by decide)) (pa_cons (pv 0) (pa_cons pe_int pa_nil)))) (pg_name (i := 1) nd rfl (.inr rfl)) (pss_cons (ps_set (i := 2) nd rfl (.inl rfl) (pe_lst (pa_cons (pe_has G__law_scene (hr.mono (by decide)) (pa_cons (pv 1) (pa_cons pe_int pa_nil))) (pa_cons (pe_has G__law_scene (hr.mono (by decide)) (pa_cons (pv 1) (pa_cons pe_int pa_nil))) (pa_cons (pe_has G__law_still_net (hr.mono (by decide)) (pa_cons (pv 1) pa_nil)) pa_nil)))))
      (pss_cons (ps_setLc (i := 3) (own := [("_law_net_here", 9)]) (g := gName 9) (tt := tYes) rfl nd rfl rfl (sw_true rfl rfl rfl (by decide +kernel)) (k_pil (K := K) rfl (pv 2)) (blkOk_by (N := nm_law) (sc := defScope s_law) (by decide +kernel)) (fun _ _ _ _ _ => (pg_name (i := 9) nd rfl (Or.inl rfl))) (fun _ _ _ _ _ => pts_nil) (fun _ _ _ _ _ => (pe_has G__law_net (hr.mono (by decide)) (pa_cons (pv 9) pa_nil))))
      (pss_cons (ps_setLc (i := 4) (own := [("_law_net_here", 9)]) (g := gName 9) (tt := tYes) rfl nd rfl rfl (sw_true rfl rfl rfl (by decide +kernel)) (k_pil (K := K) rfl (pv 2)) (blkOk_by (N := nm_law) (sc := defScope s_law) (by decide +kernel)) (fun _ _ _ _ _ => (pg_name (i := 9) nd rfl (Or.inl rfl))) (fun _ _ _ _ _ => pts_nil) (fun _ _ _ _ _ => (pe_lst (pa_cons (pe_has G__law_setting (hr.mono (by decide)) (pa_cons (pv 1) (pa_cons (pv 9) pa_nil))) (pa_cons (pe_lst pa_nil) (pa_cons (pe_callTy (k_list (K := K) rfl) (by rfl) B.list (by decide +kernel) (pa_cons (pe_ix (k_ixl (K := K) rfl) (pv 9) pe_int (fun _ _ => rfl)) pa_nil)) (pa_cons (pe_has G__law_setting (hr.mono (by decide)) (pa_cons (pv 1) (pa_cons (pv 9) pa_nil))) pa_nil)))))))
      (pss_cons (ps_for PassesOwn.never rfl (pi_tup (pe_tup (pa_cons pe_int (pa_cons pe_int (pa_cons pe_int (pa_cons pe_int pa_nil)))))) (pg_name (i := 5) nd rfl (.inl rfl)) (pss_cons (ps_for PassesOwn.never rfl (k_pil (K := K) rfl (pe_ix (k_ixl (K := K) rfl) (pv 4) (pv 5) (fun _ _ => rfl))) (pg_name (i := 6) nd rfl (.inl rfl)) (pss_one (ps_if (pt_not (pt_val (pe_has G__law_deeds_right (hr.mono (by decide)) (pa_cons (pv 1) (pa_cons (pe_ix (k_ixl (K := K) rfl) (pv 2) (pv 5) (fun _ _ => rfl)) (pa_cons (pe_ix (k_ixl (K := K) rfl) (pv 3) (pv 5) (fun _ _ => rfl)) (pa_cons (pv 6) pa_nil))))))) (pss_one (ps_ret pe_bl)) pss_nil)))
      (pss_one (ps_if (pt_not (pt_val (pe_has G__law_judged_settings (hr.mono (by decide)) (pa_cons (pv 1) (pa_cons (pe_ix (k_ixl (K := K) rfl) (pv 2) (pv 5) (fun _ _ => rfl)) (pa_cons (pe_ix (k_ixl (K := K) rfl) (pv 3) (pv 5) (fun _ _ => rfl)) (pa_cons (pe_ix (k_ixl (K := K) rfl) (pe_ix (k_ixl (K := K) rfl) (pv 4) (pv 5) (fun _ _ => rfl)) pe_int (fun _ _ => rfl)) pa_nil))))))) (pss_one (ps_ret pe_bl)) pss_nil))))
      (pss_cons (ps_set (i := 7) nd rfl (.inl rfl) (C8.pe_mk MK hr (by decide) rfl (pa_cons (pe_lst (pa_cons pe_str pa_nil)) (pa_cons (pe_lst pa_nil) (pa_cons (pe_disp (pps_cons pe_str pe_str pps_nil) rfl rfl (by simp) (by decide)) pa_nil)))))
      (pss_cons (ps_set (i := 8) nd rfl (.inl rfl) (pe_lst (pa_cons (pe_has G_ready_lamps (hr.mono (by decide)) (pa_cons (pv 7) (pa_cons (pe_lst pa_nil) pa_nil))) (pa_cons (pe_has G_ready_lamps (hr.mono (by decide)) (pa_cons (pv 7) (pa_cons (pe_lst (pa_cons pe_str pa_nil)) pa_nil))) (pa_cons (pe_has G_switched (hr.mono (by decide)) (pa_cons (pv 7) (pa_cons (pe_lst (pa_cons pe_str pa_nil)) (pa_cons pe_str pa_nil)))) (pa_cons (pe_has G_still_pieces (hr.mono (by decide)) (pa_cons (pv 7) (pa_cons (pe_lst pa_nil) pa_nil))) (pa_cons (pe_has G_still_pieces (hr.mono (by decide)) (pa_cons (C8.pe_mk MK hr (by decide) rfl (pa_cons (pe_lst (pa_cons pe_str pa_nil)) (pa_cons (pe_lst pa_nil) (pa_cons (pe_disp (pps_cons pe_str pe_str pps_nil) rfl rfl (by simp) (by decide)) pa_nil)))) (pa_cons (pe_lst pa_nil) pa_nil))) pa_nil)))))))
      (pss_one (ps_if (PW.pt (pw_or (pt_not (pt_val (pe_has G__law_exact (hr.mono (by decide)) (pa_cons (pv 8) (pa_cons (pe_lst (pa_cons (pe_lst (pa_cons pe_str pa_nil)) (pa_cons (pe_lst (pa_cons pe_str pa_nil)) (pa_cons (pe_lst pa_nil) (pa_cons (pe_lst pa_nil) (pa_cons (pe_lst (pa_cons (pe_lst (pa_cons pe_str pa_nil)) pa_nil)) pa_nil)))))) pa_nil))))) (pw_or1 (pt_not (pt_val (pe_has G__law_exact (hr.mono (by decide)) (pa_cons (pe_has G_still_pieces (hr.mono (by decide)) (pa_cons (C8.pe_mk MK hr (by decide) rfl (pa_cons (pe_lst (pa_cons pe_str pa_nil)) (pa_cons (pe_lst pa_nil) (pa_cons (pe_disp (pps_cons pe_str pe_str pps_nil) rfl rfl (by simp) (by decide)) pa_nil)))) (pa_cons (pe_lst (pa_cons pe_str pa_nil)) pa_nil))) (pa_cons (pe_lst pa_nil) pa_nil)))))))) (pss_one (ps_ret pe_bl)) pss_nil)))))))))
      (pss_one (ps_ret pe_bl))), ?_⟩
    refine ⟨_, rfl, a, ns, 1, rfl, by decide, hS, fun l qs H1 s1 nl el qnd lq hq => ⟨l, rfl, ⟨_, SqL.of el⟩, for_list (K := K) (a := l) (xs := qs.map V.ref) (fun i σ H' => ∃ v1 v2 v3 v4 v5 v6 v7 v8 v9 : Option V, σ = [some (.ref a), v1, v2, v3, v4, v5, v6, v7, v8, v9] ∧ H' l = some (.lst (qs.map V.ref)) ∧ ∀ (j : Nat) (q : Addr), i ≤ j → qs[j]? = some q → Purse H' q 0)
      ⟨none, none, none, none, none, none, none, none, none, rfl, el, fun j q _ e => (hq q (List.mem_of_getElem? e)).2⟩ (fun i σ H' _ hP => let ⟨_, _, _, _, _, _, _, _, _, _, e, _⟩ := hP; SqL.of e) ?_ ?_⟩⟩
    · rintro i x σ H2 hx ⟨v1, v2, v3, v4, v5, v6, v7, v8, v9, rfl, el2, pus⟩
      rw [List.getElem?_map] at hx
      cases eq : qs[i]? with
      | none =>
        rw [eq] at hx
        cases hx
      | some q =>
      rw [eq] at hx
      cases hx
      have pu := pus i q (Nat.le_refl _) eq
      have lq0 : l ≠ q := fun e => by
        obtain ⟨p, s, t, c, e1, _⟩ := pu
        rw [← e, el2] at e1
        cases qs with
        | nil => cases eq
        | cons q0 r => cases e1
      have later : ∀ (j : Nat) (q2 : Addr), i + 1 ≤ j → qs[j]? = some q2 → q2 ≠ q := fun j q2 hj e2 e => by
        subst e
        have hi := (List.getElem?_eq_some_iff.mp eq).1
        obtain ⟨hj2, e3⟩ := List.getElem?_eq_some_iff.mp e2
        obtain ⟨_, e4⟩ := List.getElem?_eq_some_iff.mp eq
        exact List.pairwise_iff_getElem.mp qnd i j hi hj2 (by omega) (e4.trans e3.symm)
      -- the three nets
      refine ⟨_, rfl, q, 8, 0, rfl, by decide, by decide, pu, by decide, fun R1 N1 H3 nR1 na1 le1 pu3 bt3 => ?_⟩
      refine ⟨_, rfl, q, 6, _, rfl, by decide, by decide, pu3, by decide, fun R2 N2 H4 nR2 na2 le2 pu4 bt4 => ?_⟩
      have na1 := na1.but pu3 bt4
      refine ⟨_, rfl, q, _, rfl, pu4, by decide, fun R3 N3 H5 nR3 na3 le3 pu5 bt5 => ?_⟩
      have na1 := na1.but pu4 bt5
      have na2 := na2.but pu4 bt5
      have bt25 := (bt3.trans bt4).trans bt5
      refine ⟨by show 3 ≤ sizeLine; decide, fun L nL => ?_⟩
      have xL := same_new (o := .lst [.ref R1, .ref R2, .ref R3]) nL
      obtain ⟨RR, NN, eR, naN⟩ : ∃ (RR : Nat → Addr) (NN : Nat → NetD), ([.ref R1, .ref R2, .ref R3] : List V) = [.ref (RR 0), .ref (RR 1), .ref (RR 2)] ∧ ∀ j, j < 3 → NetAt H5 (RR j) (NN j) := by
        refine ⟨fun j => if j = 0 then R1 else if j = 1 then R2 else R3, fun j => if j = 0 then N1 else if j = 1 then N2 else N3, rfl, fun j hj => ?_⟩
        match j, hj with
        | 0, _ => exact na1
        | 1, _ => exact na2
        | 2, _ => exact na3
      have atR : ∀ j : Nat, j < 3 → ([.ref (RR 0), .ref (RR 1), .ref (RR 2)] : List V)[j]? = some (.ref (RR j)) := fun j hj => by
        match j, hj with
        | 0, _ => rfl
        | 1, _ => rfl
        | 2, _ => rfl
      rw [eR] at xL ⊢
      have eL : upd H5 L (.lst [.ref (RR 0), .ref (RR 1), .ref (RR 2)]) L = _ := upd_same
      have naN := fun j hj => (naN j hj).same xL
      have pu6 := pu5.same xL
      have bt26 := bt25.trans (But.of xL)
      generalize upd H5 L (.lst [.ref (RR 0), .ref (RR 1), .ref (RR 2)]) = H6 at *
      clear na1 na2 na3 eR xL nL bt25 pu5 bt5 bt4 bt3 pu4 pu3 nR1 nR2 nR3
      -- made
      refine gn_asg ?_
      refine ⟨_, rfl, L, rfl, ⟨_, SqL.of eL⟩, fun M nM => ?_⟩
      refine lc_list (K := K) (a := L) (xs := [.ref (RR 0), .ref (RR 1), .ref (RR 2)]) (fun i H' => Same H6 H' ∧ ∃ ml : List Addr, H' M = some (.lst (ml.map V.ref)) ∧ ml.length = i ∧ ∀ (j : Nat) (m : Addr), ml[j]? = some m → Made C H' m (NN j)) ⟨same_new nM, [], upd_same, rfl, fun j m e => by cases e⟩ (fun i H' _ h => SqL.of (h.1 _ _ eL)) ?_ ?_
      · rintro i x H' hx ⟨sm, ml, eM, lm, mdm⟩
        have hi : i < 3 := (List.getElem?_eq_some_iff.mp hx).1
        rw [atR i hi] at hx
        cases hx
        refine ⟨rfl, _, rfl, RR i, NN i, rfl, (naN i hi).same sm, fun m H7 nm mdn s7 => ?_⟩
        have eM7 := s7 _ _ eM
        refine ⟨_, eM7, by rw [List.length_map, lm]; exact room_str _ (by omega), upd_same' (sm.trans s7) nM, ml ++ [m], by rw [upd_same, List.map_append]; rfl, by rw [List.length_append, lm]; rfl, fun j m' ej => ?_⟩
        rcases Nat.lt_or_ge j i with h | h
        · rw [List.getElem?_append_left (by omega)] at ej
          exact ((mdm j m' ej).same s7).updL eM7
        · have hj : j = i := by
            have := (List.getElem?_eq_some_iff.mp ej).1
            rw [List.length_append, lm] at this
            have h1 : j < i + 1 := this
            omega
          subst hj
          rw [List.getElem?_append_right (by omega), lm, Nat.sub_self] at ej
          cases ej
          exact mdn.updL eM7
      rintro H7 ⟨s7, ml, eM, lm, mdm⟩
      have naN := fun j hj => (naN j hj).same s7
      have pu7 := pu6.same s7
      have bt27 := bt26.trans (But.of s7)
      have eL := s7 _ _ eL
      -- drawn
      refine gn2_asg ?_
      refine ⟨_, rfl, L, rfl, ⟨_, SqL.of eL⟩, fun Dr nD => ?_⟩
      have Dq := pu7.ne_new nD
      have Lq : L ≠ q := purse_ne pu7 eL fun _ _ _ _ q => by cases q
      refine lc_list (K := K) (a := L) (xs := [.ref (RR 0), .ref (RR 1), .ref (RR 2)]) (fun i H' => But q H7 H' ∧ Purse H' q (20000 + i * 200) ∧ ∃ dl : List Addr, H' Dr = some (.lst (dl.map V.ref)) ∧ dl.length = i ∧ ∀ (j : Nat) (d : Addr), dl[j]? = some d → DrawnX H' Dr d (NN j)) ⟨But.of (same_new nD), (pu7.upd Dq).mono (by omega), [], upd_same, rfl, fun j m e => by cases e⟩ (fun i H' _ h => SqL.of (h.1 _ _ Lq eL)) ?_ ?_
      · rintro i x H' hx ⟨bt, pu, dl, eD, ld, dxd⟩
        have hi : i < 3 := (List.getElem?_eq_some_iff.mp hx).1
        rw [atR i hi] at hx
        cases hx
        have na := (naN i hi).but pu7 bt
        have Nf := na.ok.toF
        refine ⟨rfl, _, rfl, _, rfl, q, RR i, NN i, _, rfl, pu, by omega, na, fun p1 z1 G1 st1 np1 ep1 pu1 b1 => ?_⟩
        have na1 := na.but pu b1
        have eD1 := b1 _ _ Dq eD
        refine ⟨by show 0 ≤ sizeLine; decide, fun p2 np2 => ?_⟩
        have y2 := same_new (o := .lst []) np2
        obtain ⟨bb, tt, ww, qq, c1, c2, c3, c4, c5, c6⟩ := (na1.same y2).ex
        refine ⟨_, rfl, RR i, _, 0, .ref bb, rfl, rfl, SqL.of c1, rfl, bb, _, rfl, .inl (SqL.of c2), fun p3 np3 => ?_⟩
        have y3 := same_new (o := .lst ((NN i).bs.map V.str)) np3
        have y23 := y2.trans y3
        have pu3 := pu1.same y23
        refine ⟨_, rfl, _, rfl, q, RR i, NN i, _, rfl, pu3, by omega, na1.same y23, fun p4 z4 G4 st4 np4 ep4 pu4 b4 => ?_⟩
        refine ⟨by show 4 ≤ sizeLine; decide, fun d nd' => ?_⟩
        have y5 := same_new (o := .lst [.ref p1, .ref p2, .ref p3, .ref p4]) nd'
        have p1q := strs_ne pu1 ep1
        have p2q : p2 ≠ q := pu1.ne_new np2
        have p3q : p3 ≠ q := (pu1.same y2).ne_new np3
        have e1 := y5 _ _ (b4 _ _ p1q (y23 _ _ ep1))
        have e2 := y5 _ _ (b4 _ _ p2q (y3 _ _ upd_same))
        have e3 := y5 _ _ (b4 _ _ p3q upd_same)
        have e4 := y5 _ _ ep4
        have bt5 := ((b1.trans (But.of y23)).trans b4).trans (But.of y5)
        have eD4 := b4 _ _ Dq (y23 _ _ eD1)
        have eD5 := y5 _ _ eD4
        have n1 : p1 ≠ Dr := fun e => by rw [e, eD] at np1; cases np1
        have n2 : p2 ≠ Dr := fun e => by rw [e, eD1] at np2; cases np2
        have n3 : p3 ≠ Dr := fun e => by rw [e, y2 _ _ eD1] at np3; cases np3
        have n4 : p4 ≠ Dr := fun e => by rw [e, y23 _ _ eD1] at np4; cases np4
        have n5 : d ≠ Dr := fun e => by rw [e, eD4] at nd'; cases nd'
        have pu5 := pu4.same y5
        refine ⟨_, eD5, by rw [List.length_map, ld]; exact room_str _ (by omega), upd_but (bt.trans bt5) nD, (pu5.upd Dq).mono (by omega), dl ++ [d], by rw [upd_same, List.map_append]; rfl, by rw [List.length_append, ld]; rfl, fun j d' ej => ?_⟩
        rcases Nat.lt_or_ge j i with h | h
        · rw [List.getElem?_append_left (by omega)] at ej
          exact ((dxd j d' ej).but pu bt5).upd
        · have hj : j = i := by
            have := (List.getElem?_eq_some_iff.mp ej).1
            rw [List.length_append, ld] at this
            have h1 : j < i + 1 := this
            omega
          subst hj
          rw [List.getElem?_append_right (by omega), ld, Nat.sub_self] at ej
          cases ej
          refine DrawnX.upd ⟨(p1, z1), (p2, []), (p3, (NN j).bs), (p4, z4), upd_same, fun l hl => ?_, fun l hl => ?_, n5, fun l hl => ?_⟩
          · rcases List.mem_cons.mp hl with rfl | hl
            · exact e1
            rcases List.mem_cons.mp hl with rfl | hl
            · exact e2
            rcases List.mem_cons.mp hl with rfl | hl
            · exact e3
            · rw [List.mem_singleton.mp hl]; exact e4
          · rcases List.mem_cons.mp hl with rfl | hl
            · exact st1
            rcases List.mem_cons.mp hl with rfl | hl
            · exact isSet_nil
            rcases List.mem_cons.mp hl with rfl | hl
            · exact isSet_all Nf
            · rw [List.mem_singleton.mp hl]; exact st4
          · rcases List.mem_cons.mp hl with rfl | hl
            · exact n1
            rcases List.mem_cons.mp hl with rfl | hl
            · exact n2
            rcases List.mem_cons.mp hl with rfl | hl
            · exact n3
            · rw [List.mem_singleton.mp hl]; exact n4
      rintro H8 ⟨bt78, pu8, dl, eDr, ld, dxd⟩
      have naN := fun j hj => (naN j hj).but pu7 bt78
      have mdm := fun j m e => (mdm j m e).but pu7 bt78
      have eL := bt78 _ _ Lq eL
      have Mq : M ≠ q := purse_ne pu7 eM fun _ _ _ _ q => by
        have z := HO.lst.inj q
        cases ml with
        | nil => cases z
        | cons _ _ => cases z
      have eM := bt78 _ _ Mq eM
      have bt28 := bt27.trans bt78
      have pick : ∀ j : Nat, j < 3 → ∃ m d : Addr, atI (ml.map V.ref) (j : Int) = some (.ref m) ∧ atI (dl.map V.ref) (j : Int) = some (.ref d) ∧ Made C H8 m (NN j) ∧ DrawnAt H8 d (NN j) := fun j hj => by
        have lm' : ml.length = 3 := lm
        have ld' : dl.length = 3 := ld
        have h1 : ml[j]? = some (ml[j]'(by omega)) := List.getElem?_eq_getElem _
        have h2 : dl[j]? = some (dl[j]'(by omega)) := List.getElem?_eq_getElem _
        exact ⟨_, _, atI_nat (by rw [List.getElem?_map, h1]; rfl), atI_nat (by rw [List.getElem?_map, h2]; rfl), mdm j _ h1, (dxd j _ h2).at_⟩
      clear dxd mdm lm ld pu7 pu6 nD nM Dq Lq Mq bt78 bt27 bt26 s7
      -- turn by turn
      refine ⟨by show 4 ≤ sizeLine; decide, fun T nT => ⟨T, rfl, ⟨_, SqT.of upd_same⟩, ?_⟩⟩
      have xT := same_new (o := .tup [.int 0, .int 1, .int 2, .int 0]) nT
      have eT : upd H8 T (.tup [.int 0, .int 1, .int 2, .int 0]) T = _ := upd_same
      have eL := xT _ _ eL
      have eM := xT _ _ eM
      have eDr := xT _ _ eDr
      have naN := fun j hj => (naN j hj).same xT
      have pick : ∀ j : Nat, j < 3 → ∃ m d : Addr, atI (ml.map V.ref) (j : Int) = some (.ref m) ∧ atI (dl.map V.ref) (j : Int) = some (.ref d) ∧ Made C (upd H8 T (.tup [.int 0, .int 1, .int 2, .int 0])) m (NN j) ∧ DrawnAt (upd H8 T (.tup [.int 0, .int 1, .int 2, .int 0])) d (NN j) := fun j hj => let ⟨m, d, p1, p2, p3, p4⟩ := pick j hj; ⟨m, d, p1, p2, p3.same xT, p4.same xT⟩
      have bt29 := bt28.trans (But.of xT)
      generalize upd H8 T (.tup [.int 0, .int 1, .int 2, .int 0]) = H9 at *
      refine for_tup (K := K) (a := T) (xs := [.int 0, .int 1, .int 2, .int 0]) (fun i σ H' => ∃ v5 v6 v7 v8 v9 : Option V, σ = [some (.ref a), some (.ref q), some (.ref L), some (.ref M), some (.ref Dr), v5, v6, v7, v8, v9] ∧ Same H9 H') ⟨_, _, _, _, _, rfl, fun _ _ e => e⟩ (fun i σ H' _ h => by
        obtain ⟨_, _, _, _, _, _, sm⟩ := h
        exact SqT.of (sm _ _ eT)) ?_ ?_
      · rintro i x σ Ha hx ⟨v5, v6, v7, v8, v9, rfl, sa⟩
        obtain ⟨j, hj, rfl⟩ : ∃ j : Nat, j < 3 ∧ x = .int (j : Int) := by
          match i, hx with
          | 0, hx => exact ⟨0, by decide, (Option.some.inj hx).symm⟩
          | 1, hx => exact ⟨1, by decide, (Option.some.inj hx).symm⟩
          | 2, hx => exact ⟨2, by decide, (Option.some.inj hx).symm⟩
          | 3, hx => exact ⟨0, by decide, (Option.some.inj hx).symm⟩
          | k + 4, hx => cases hx
        obtain ⟨m, d, am, ad, md, dr⟩ := pick j hj
        have aR : atI ([.ref (RR 0), .ref (RR 1), .ref (RR 2)] : List V) (j : Int) = some (V.ref (RR j)) := atI_nat (atR j hj)
        obtain ⟨l1, l2, l3, l4, ed, la, ls⟩ := dr.ex
        refine ⟨_, rfl, _, rfl, Dr, _, (j : Int), .ref d, rfl, rfl, SqL.of (sa _ _ eDr), ad, d, rfl, ⟨_, SqL.of (sa _ _ ed)⟩, ?_⟩
        refine for_list (K := K) (a := d) (xs := lrefs [l1, l2, l3, l4]) (fun i σ H' => ∃ v6 v7 v8 v9 : Option V, σ = [some (.ref a), some (.ref q), some (.ref L), some (.ref M), some (.ref Dr), some (.int (j : Int)), v6, v7, v8, v9] ∧ Same Ha H') ⟨_, _, _, _, rfl, fun _ _ e => e⟩ (fun i σ H' _ h => by
          obtain ⟨_, _, _, _, _, sm⟩ := h
          exact SqL.of (sm _ _ (sa _ _ ed))) ?_ ?_
        · rintro i2 y σ Hb hy ⟨v6, v7, v8, v9, rfl, sb⟩
          unfold lrefs at hy
          rw [List.getElem?_map] at hy
          cases ey : [l1, l2, l3, l4][i2]? with
          | none =>
            rw [ey] at hy
            cases hy
          | some lt =>
          rw [ey] at hy
          cases hy
          have hl := List.mem_of_getElem? ey
          have sab := sa.trans sb
          refine ⟨_, rfl, _, rfl, _, rfl, L, _, (j : Int), .ref (RR j), rfl, rfl, SqL.of (sab _ _ eL), aR, _, rfl, _, rfl, M, _, (j : Int), .ref m, rfl, rfl, SqL.of (sab _ _ eM), am, _, rfl, q, RR j, m, lt.1, NN j, lt.2, rfl, (naN j hj).same sab, md.same sab, sab _ _ (la lt hl), ls lt hl, fun Hc sc => ⟨true, rfl, ifF ⟨_, _, _, _, rfl, sb.trans sc⟩⟩⟩
        · rintro σ Hb ⟨v6, v7, v8, v9, rfl, sb⟩
          have sab := sa.trans sb
          refine ⟨_, rfl, _, rfl, _, rfl, L, _, (j : Int), .ref (RR j), rfl, rfl, SqL.of (sab _ _ eL), aR, _, rfl, _, rfl, M, _, (j : Int), .ref m, rfl, rfl, SqL.of (sab _ _ eM), am, _, rfl, _, rfl, Dr, _, (j : Int), .ref d, rfl, rfl, SqL.of (sab _ _ eDr), ad, d, _, 0, .ref l1.1, rfl, rfl, SqL.of (sab _ _ ed), rfl, q, RR j, m, l1.1, NN j, l1.2, rfl, (naN j hj).same sab, md.same sab, sab _ _ (la l1 List.mem_cons_self), ls l1 List.mem_cons_self, fun Hc sc => ⟨true, rfl, ifF ⟨_, _, _, _, _, rfl, sab.trans sc⟩⟩⟩
      rintro σ Ha ⟨v5, v6, v7, v8, v9, rfl, sa⟩
      have btA := bt29.trans (But.of sa)
      clear pick naN eL eM eDr eT xT nT bt29 bt28 sa atR
      -- the lone lamp
      have we : wish3 "even" := .inr (.inl rfl)
      have wo : wish3 "odd" := .inl rfl
      have ws : wish3 "stuck" := .inr (.inr rfl)
      refine ex_asg ?_
      refine lone_to we fun m0 J1 md1 j1 => ?_
      refine gn2_asg ?_
      refine ⟨_, rfl, by show 0 ≤ sizeLine; decide, fun e1 n1 => ?_⟩
      have k1 := same_new (o := .lst []) n1
      refine ⟨m0, e1, lone "even", [], rfl, md1.same k1, lone_ok we, upd_same, lone_set _, fun r1 J2 nr1 er1 j2 => ?_⟩
      have t2 := k1.trans j2
      refine ⟨_, rfl, by show 1 ≤ sizeLine; decide, fun e2 n2 => ?_⟩
      have k2 := same_new (o := .lst [.str "q"]) n2
      refine ⟨m0, e2, lone "even", ["q"], rfl, md1.same (t2.trans k2), lone_ok we, upd_same, lone_set1 _, fun r2 J3 nr2 er2 j3 => ?_⟩
      have t3 := (t2.trans k2).trans j3
      refine ⟨_, rfl, by show 1 ≤ sizeLine; decide, fun e3 n3 => ?_⟩
      have k3 := same_new (o := .lst [.str "q"]) n3
      refine ⟨m0, e3, lone "even", ["q"], "q", rfl, md1.same (t3.trans k3), lone_ok we, upd_same, lone_set1 _, List.mem_singleton.mpr rfl, by rw [lone_rd]; decide, fun r3 J4 nr3 er3 j4 => ?_⟩
      have t4 := (t3.trans k3).trans j4
      refine ⟨_, rfl, by show 0 ≤ sizeLine; decide, fun e4 n4 => ?_⟩
      have k4 := same_new (o := .lst []) n4
      refine ⟨m0, e4, lone "even", [], rfl, md1.same (t4.trans k4), lone_ok we, upd_same, lone_set _, fun r4 J5 s4 nr4 er4 es4 sa4 _ j5 => ?_⟩
      have t5 := (t4.trans k4).trans j5
      refine cons_call (lone_to wo fun m5 J6 md5 j6 => ?_)
      refine ⟨by show 0 ≤ sizeLine; decide, fun e5 n5 => ?_⟩
      have k5 := same_new (o := .lst []) n5
      refine ⟨m5, e5, lone "odd", [], rfl, md5.same k5, lone_ok wo, upd_same, lone_set _, fun r5 J7 s5 nr5 er5 es5 sa5 _ j7 => ?_⟩
      refine ⟨by show 5 ≤ sizeLine; decide, fun TO nTO => ?_⟩
      have kT := same_new (o := .lst [.ref r1, .ref r2, .ref r3, .ref r4, .ref r5]) nTO
      have eTO : upd J7 TO (.lst [.ref r1, .ref r2, .ref r3, .ref r4, .ref r5]) TO = _ := upd_same
      have t67 := ((j6.trans k5).trans j7).trans kT
      have t5T := ((k4.trans j5).trans t67)
      have t4T := (k3.trans j4).trans t5T
      have t3T := (k2.trans j3).trans t4T
      rw [rdy_even] at er1 er2
      rw [lone_flp] at er3
      rw [stl_even] at es4
      rw [stl_odd] at es5
      have s4n : s4 = [] := List.map_eq_nil_iff.mp es4
      subst s4n
      have er1 := t3T _ _ er1
      have er2 := t4T _ _ er2
      have er3 := t5T _ _ er3
      have er4 := t67 _ _ er4
      have er5 := kT _ _ er5
      have sa5 := sa5.same kT
      have l5 : s5.length ≤ 10 := by
        have := congrArg List.length es5
        rw [List.length_map] at this
        have : s5.length = 1 := this
        omega
      have ss5 : ∀ l ∈ s5, l.2.length ≤ 5000 := fun l hl => by
        have : l.2 ∈ s5.map (·.2) := List.mem_map.mpr ⟨l, hl, rfl⟩
        rw [es5] at this
        rw [List.mem_singleton.mp this]
        decide
      have all1 : Same Ha (upd J7 TO (.lst [.ref r1, .ref r2, .ref r3, .ref r4, .ref r5])) := j1.trans ((k1.trans j2).trans t3T)
      generalize upd J7 TO (.lst [.ref r1, .ref r2, .ref r3, .ref r4, .ref r5]) = J8 at *
      clear t3T t4T t5T t67 kT nTO t5 t4 t3 t2 k1 k2 k3 k4 k5 j2 j3 j4 j5 j6 j7 n1 n2 n3 n4 n5 nr1 nr2 nr3 nr4 nr5 md5 md1 es4 j1
      -- as they are due
      refine ⟨_, rfl, ?_⟩
      refine ⟨by show 1 ≤ sizeLine; decide, fun f1 m1 => ⟨by show 1 ≤ sizeLine; decide, fun f2 m2 => ⟨by show 0 ≤ sizeLine; decide, fun f3 m3 => ⟨by show 0 ≤ sizeLine; decide, fun f4 m4 => ⟨by show 1 ≤ sizeLine; decide, fun f5 m5' => ⟨by show 1 ≤ sizeLine; decide, fun f6 m6 => ⟨by show 5 ≤ sizeLine; decide, fun FO mO => ?_⟩⟩⟩⟩⟩⟩⟩
      have w1 := same_new (o := .lst [.str "q"]) m1
      have w2 := same_new (o := .lst [.str "q"]) m2
      have w3 := same_new (o := .lst []) m3
      have w4 := same_new (o := .lst []) m4
      have w5 := same_new (o := .lst [.str "q"]) m5'
      have w6 := same_new (o := .lst [.ref f5]) m6
      have wO := same_new (o := .lst [.ref f1, .ref f2, .ref f3, .ref f4, .ref f6]) mO
      have u6 := w6.trans wO
      have u5 := w5.trans u6
      have u4 := w4.trans u5
      have u3 := w3.trans u4
      have u2 := w2.trans u3
      have u1 := w1.trans u2
      refine ⟨.ref TO, .ref FO, rfl, .inr (.inl ⟨TO, FO, [.ref r1, .ref r2, .ref r3, .ref r4, .ref r5], [.ref f1, .ref f2, .ref f3, .ref f4, .ref f6], rfl, rfl, by show 5 ≤ 5000; decide, ⟨rfl, fun j u v hu hv => ?_⟩, .inl ⟨u1 _ _ eTO, upd_same⟩⟩), fun J9 j9 => ⟨true, rfl, ?_⟩⟩
      · match j, hu, hv with
        | 0, hu, hv =>
          cases hu
          cases hv
          exact al_strs (zs := qL) (u1 _ _ er1) (u2 _ _ upd_same) (by decide)
        | 1, hu, hv =>
          cases hu
          cases hv
          exact al_strs (zs := qL) (u1 _ _ er2) (u3 _ _ upd_same) (by decide)
        | 2, hu, hv =>
          cases hu
          cases hv
          exact al_strs (zs := []) (u1 _ _ er3) (u4 _ _ upd_same) (by decide)
        | 3, hu, hv =>
          cases hu
          cases hv
          exact al_strs (zs := []) (u1 _ _ er4) (u5 _ _ upd_same) (by decide)
        | 4, hu, hv =>
          cases hu
          cases hv
          exact al_lls (ls := s5) (ms := [(f5, qL)]) (u1 _ _ er5) (wO _ _ upd_same) (by omega) es5 (sa5.same u1) (fun l hl => by rw [List.mem_singleton.mp hl]; exact u6 _ _ upd_same) ss5
        | j + 5, hu, _ => cases hu
      refine ifF ?_
      refine not_call (lone_to ws fun m6' K1 md6 g1 => ?_)
      refine ⟨by show 1 ≤ sizeLine; decide, fun e6 n6 => ?_⟩
      have k6 := same_new (o := .lst [.str "q"]) n6
      refine ⟨m6', e6, lone "stuck", ["q"], rfl, md6.same k6, lone_ok ws, upd_same, lone_set1 _, fun r6 K2 s6 nr6 er6 es6 sa6 _ g2 => ?_⟩
      rw [stl_stuck] at es6
      have s6n : s6 = [] := List.map_eq_nil_iff.mp es6
      subst s6n
      refine ⟨by show 0 ≤ sizeLine; decide, fun e7 n7 => ?_⟩
      have k7 := same_new (o := .lst []) n7
      refine ⟨.ref r6, .ref e7, rfl, al_strs (zs := []) (k7 _ _ er6) upd_same (by decide), fun K4 g4 => ⟨true, rfl, ifF ?_⟩⟩
      have fin : But q H2 K4 := btA.trans (But.of (all1.trans (((((u1.trans j9).trans g1).trans k6).trans g2).trans (k7.trans g4))))
      exact ⟨_, _, _, _, _, _, _, _, _, rfl, fin _ _ lq0 el2, fun j q2 hj e2 => (pus j q2 (by omega) e2).but fin (later j q2 hj e2)⟩
    · rintro σ H9 ⟨v1, v2, v3, v4, v5, v6, v7, v8, v9, rfl, _⟩
      exact kk H9
end
end NK
/-! the facts of the head -/
namespace NK
open PySem PySem.Spec PyProof.Rows L2 He K1
section
variable {P : Program} {w : World} {K : PySem.W.Frag} {h : Heap} {mg : Str → Option Value}
theorem fnG_of {base : Heap} {k : Nat} {f : Addr} {fd : FuncData} {ps : List Str} {sp : Sp} (F : FnOk P w K mg base CX0 k f fd ps sp) : FnG P w K mg base k f fd ps sp := ⟨F.len, fun A outer s H args us vs Q E _ hr e0 hb r hs => F.run A outer s H args us vs Q E hr e0 hb r hs⟩
theorem free (X : K.In h) (G : h.Ns mainGlobals mg) (c : SaysD fas fns K) : FreeN mg := by
  constructor
  · exact free_ok X G (c.fact 72 (f := .free "sum") rfl)
  · exact free_ok X G (c.fact 73 (f := .free "int") rfl)
  · exact free_ok X G (c.fact 74 (f := .free "max") rfl)
  · exact free_ok X G (c.fact 75 (f := .free "min") rfl)
  · exact free_ok X G (c.fact 76 (f := .free "len") rfl)
  · exact free_ok X G (c.fact 77 (f := .free "range") rfl)
  · exact free_ok X G (c.fact 78 (f := .free "isinstance") rfl)
  · exact free_ok X G (c.fact 79 (f := .free "list") rfl)
  · exact free_ok X G (c.fact 80 (f := .free "dict") rfl)
  · exact free_ok X G (c.fact 81 (f := .free "tuple") rfl)
  · exact free_ok X G (c.fact 82 (f := .free "all") rfl)
  · exact free_ok X G (c.fact 83 (f := .free "any") rfl)
  · exact free_ok X G (c.fact 84 (f := .free "sorted") rfl)
  · exact free_ok X G (c.fact 85 (f := .free "zip") rfl)
  · exact free_ok X G (c.fact 86 (f := .free "set") rfl)
  · exact free_ok X G (c.fact 87 (f := .free "str") rfl)
  · exact free_ok X G (c.fact 88 (f := .free "bool") rfl)
  · exact free_ok X G (c.fact 89 (f := .free "reversed") rfl)
theorem topG (X : K.In h) (G : h.Ns mainGlobals mg) (c : SaysD fas fns K) (m : netB K = true) : TopG K mg (ga K "Net") (ga K "WISHES") := by
  obtain ⟨m1, _⟩ := ba m
  constructor
  · obtain ⟨t, e⟩ := str_ok X G (c.fact 63 (f := .str "LETTERS" abc) rfl)
    exact ⟨_, e, t, rfl⟩
  · obtain ⟨t, e⟩ := int_ok X G (c.fact 64 (f := .int "MOST_LETTERS" 8) rfl)
    exact ⟨_, e, t, rfl⟩
  · exact glo_ok X G (c.fact 61 (f := .glo "Net") rfl)
  · exact glo_ok X G (c.fact 62 (f := .glo "WISHES") rfl)
  · exact fun H => tupB_ok m1 H
theorem netC (c : SaysD fas fns K) (m : netB K = true) : NetC K (ga K "Net") := by
  obtain ⟨_, m⟩ := ba m
  obtain ⟨m2, m⟩ := ba m
  obtain ⟨m3, m⟩ := ba m
  obtain ⟨m4, m⟩ := ba m
  obtain ⟨m5, m⟩ := ba m
  obtain ⟨m6, m⟩ := ba m
  obtain ⟨m7, m⟩ := ba m
  obtain ⟨m8, m⟩ := ba m
  exact ⟨cls_ok (c.fact 65 (f := .cls "Net") rfl), noat_ok (c.fact 66 (f := .noat "Net" "near") rfl), noat_ok (c.fact 67 (f := .noat "Net" "wish") rfl), eqO_ok m2, eqO_ok m3, of_decide_eq_true m4, of_decide_eq_true m5, of_decide_eq_true m6, of_decide_eq_true m7, of_decide_eq_true m8⟩
theorem eqC (m : netB K = true) : EqC K (ga K "Net") (ma K (ga K "Net") "__eq__") := by
  obtain ⟨_, m⟩ := ba m
  obtain ⟨_, m⟩ := ba m
  obtain ⟨_, m⟩ := ba m
  obtain ⟨_, m⟩ := ba m
  obtain ⟨m5, m⟩ := ba m
  obtain ⟨_, m⟩ := ba m
  obtain ⟨_, m⟩ := ba m
  obtain ⟨_, m⟩ := ba m
  obtain ⟨m9, m⟩ := ba m
  obtain ⟨m10, m11⟩ := ba m
  exact ⟨eqO_ok m9, m10, eqO_ok m11, of_decide_eq_true m5⟩
theorem facts {f : Addr} (X : K.In h) (G : h.Ns mainGlobals mg) (hfa : mg ("law" : Str) = some (.ref f)) (ct : SaysT fas fns tabs w K) (mm : moreN K = true) :
    ∃ fd : FuncData, (∀ (s : Shared) (v : Value), BindsTo s fd ⟨[v], []⟩ [("_law_script", v)]) ∧ ∀ base : Heap, K.In base → base.Ns mainGlobals mg → FnG P w K mg base 7 f fd ["_law_script"] (spLaw K) := by
  obtain ⟨mr, m⟩ := ba mm
  obtain ⟨mt, m⟩ := ba m
  have c := ct.d
  have B := free X G c
  have RY : RdyG K mg (ga K "READY_WISHES") := ⟨glo_ok X G (c.fact 60 (f := .glo "READY_WISHES") rfl), fun H => tupB_ok mr H⟩
  have TG := topG X G c m
  have NC := netC c m
  have EC := eqC m
  obtain ⟨d_is_word, F_is_word⟩ := c.def_ 0 (d := dfn "is_word" s_is_word) rfl
  have g_is_word := glo_ok X G (c.fact 0 (f := .glo "is_word") rfl)
  have b_is_word : L2.Binds K d_is_word ["value"] [] := FunD.bindsN F_is_word fun _ _ _ _ _ _ us hl => match us, hl with | [_], _ => rfl
  obtain ⟨d_are_words, F_are_words⟩ := c.def_ 1 (d := dfn "are_words" s_are_words) rfl
  have g_are_words := glo_ok X G (c.fact 1 (f := .glo "are_words") rfl)
  have b_are_words : L2.Binds K d_are_words ["value"] [] := FunD.bindsN F_are_words fun _ _ _ _ _ _ us hl => match us, hl with | [_], _ => rfl
  obtain ⟨d_are_unlike, F_are_unlike⟩ := c.def_ 2 (d := dfn "are_unlike" s_are_unlike) rfl
  have g_are_unlike := glo_ok X G (c.fact 2 (f := .glo "are_unlike") rfl)
  have b_are_unlike : L2.Binds K d_are_unlike ["values"] [] := FunD.bindsN F_are_unlike fun _ _ _ _ _ _ us hl => match us, hl with | [_], _ => rfl
  obtain ⟨d_is_tie, F_is_tie⟩ := c.def_ 10 (d := dfn "is_tie" s_is_tie) rfl
  have g_is_tie := glo_ok X G (c.fact 5 (f := .glo "is_tie") rfl)
  have b_is_tie : L2.Binds K d_is_tie ["near", "value"] [] := FunD.bindsN F_is_tie fun _ _ _ _ _ _ us hl => match us, hl with | [_, _], _ => rfl
  obtain ⟨d__are_ties, F__are_ties⟩ := c.def_ 9 (d := dfn "_are_ties" s_are_ties) rfl
  have g__are_ties := glo_ok X G (c.fact 4 (f := .glo "_are_ties") rfl)
  have b__are_ties : L2.Binds K d__are_ties ["value", "near"] [] := FunD.bindsN F__are_ties fun _ _ _ _ _ _ us hl => match us, hl with | [_, _], _ => rfl
  obtain ⟨d__are_wishes, F__are_wishes⟩ := c.def_ 11 (d := dfn "_are_wishes" s_are_wishes) rfl
  have g__are_wishes := glo_ok X G (c.fact 6 (f := .glo "_are_wishes") rfl)
  have b__are_wishes : L2.Binds K d__are_wishes ["value", "near"] [] := FunD.bindsN F__are_wishes fun _ _ _ _ _ _ us hl => match us, hl with | [_, _], _ => rfl
  obtain ⟨d_Net___init__, F_Net___init__⟩ := c.def_ 4 (d := dme "__init__" "Net.__init__" s_Net___init) rfl
  have b_Net___init__ : L2.Binds K d_Net___init__ ["self", "lamps", "ties", "wishes"] [] := FunD.bindsN F_Net___init__ fun _ _ _ _ _ _ us hl => match us, hl with | [_, _, _, _], _ => rfl
  obtain ⟨d__law_purse, F__law_purse⟩ := c.def_ 31 (d := dfn "_law_purse" s_l_purse) rfl
  have g__law_purse := glo_ok X G (c.fact 26 (f := .glo "_law_purse") rfl)
  have b__law_purse : L2.Binds K d__law_purse ["_law_script", "_law_at"] [] := FunD.bindsN F__law_purse fun _ _ _ _ _ _ us hl => match us, hl with | [_, _], _ => rfl
  obtain ⟨d__law_purses, F__law_purses⟩ := c.def_ 34 (d := dfn "_law_purses" s_l_purses) rfl
  have g__law_purses := glo_ok X G (c.fact 29 (f := .glo "_law_purses") rfl)
  have b__law_purses : L2.Binds K d__law_purses ["_law_script", "_law_few"] [] := FunD.bindsN F__law_purses fun _ _ _ _ _ _ us hl => match us, hl with | [_, _], _ => rfl
  obtain ⟨d__law_mixed, F__law_mixed⟩ := c.def_ 32 (d := dfn "_law_mixed" s_l_mixed) rfl
  have g__law_mixed := glo_ok X G (c.fact 27 (f := .glo "_law_mixed") rfl)
  have b__law_mixed : L2.Binds K d__law_mixed ["_law_seed", "_law_spin", "_law_at"] [] := FunD.bindsN F__law_mixed fun _ _ _ _ _ _ us hl => match us, hl with | [_, _, _], _ => rfl
  obtain ⟨d__law_draw, F__law_draw⟩ := c.def_ 33 (d := dfn "_law_draw" s_l_draw) rfl
  have g__law_draw := glo_ok X G (c.fact 28 (f := .glo "_law_draw") rfl)
  have b__law_draw : L2.Binds K d__law_draw ["_law_purse_here", "_law_many"] [] := FunD.bindsN F__law_draw fun _ _ _ _ _ _ us hl => match us, hl with | [_, _], _ => rfl
  obtain ⟨d__law_pairs_drawn, F__law_pairs_drawn⟩ := c.def_ 40 (d := dfn "_law_pairs_drawn" s_l_pairs_drawn) rfl
  have g__law_pairs_drawn := glo_ok X G (c.fact 35 (f := .glo "_law_pairs_drawn") rfl)
  have b__law_pairs_drawn : L2.Binds K d__law_pairs_drawn ["_law_purse_here", "_law_points", "_law_many"] [] := FunD.bindsN F__law_pairs_drawn fun _ _ _ _ _ _ us hl => match us, hl with | [_, _, _], _ => rfl
  obtain ⟨d__law_ties_of_pairs, F__law_ties_of_pairs⟩ := c.def_ 41 (d := dfn "_law_ties_of_pairs" s_l_ties_of_pairs) rfl
  have g__law_ties_of_pairs := glo_ok X G (c.fact 36 (f := .glo "_law_ties_of_pairs") rfl)
  have b__law_ties_of_pairs : L2.Binds K d__law_ties_of_pairs ["_law_pairs"] [] := FunD.bindsN F__law_ties_of_pairs fun _ _ _ _ _ _ us hl => match us, hl with | [_], _ => rfl
  obtain ⟨d__law_wishes_by, F__law_wishes_by⟩ := c.def_ 42 (d := dfn "_law_wishes_by" s_l_wishes_by) rfl
  have g__law_wishes_by := glo_ok X G (c.fact 37 (f := .glo "_law_wishes_by") rfl)
  have b__law_wishes_by : L2.Binds K d__law_wishes_by ["_law_pairs", "_law_highs"] [] := FunD.bindsN F__law_wishes_by fun _ _ _ _ _ _ us hl => match us, hl with | [_, _], _ => rfl
  obtain ⟨d__law_paired_part, F__law_paired_part⟩ := c.def_ 43 (d := dfn "_law_paired_part" s_l_paired_part) rfl
  have g__law_paired_part := glo_ok X G (c.fact 38 (f := .glo "_law_paired_part") rfl)
  have b__law_paired_part : L2.Binds K d__law_paired_part ["_law_purse_here", "_law_many"] [] := FunD.bindsN F__law_paired_part fun _ _ _ _ _ _ us hl => match us, hl with | [_, _], _ => rfl
  obtain ⟨d__law_one_of, F__law_one_of⟩ := c.def_ 35 (d := dfn "_law_one_of" s_l_one_of) rfl
  have g__law_one_of := glo_ok X G (c.fact 30 (f := .glo "_law_one_of") rfl)
  have b__law_one_of : L2.Binds K d__law_one_of ["_law_purse_here", "_law_some"] [] := FunD.bindsN F__law_one_of fun _ _ _ _ _ _ us hl => match us, hl with | [_, _], _ => rfl
  obtain ⟨d__law_core_part, F__law_core_part⟩ := c.def_ 44 (d := dfn "_law_core_part" s_l_core_part) rfl
  have g__law_core_part := glo_ok X G (c.fact 39 (f := .glo "_law_core_part") rfl)
  have b__law_core_part : L2.Binds K d__law_core_part ["_law_purse_here", "_law_many"] [] := FunD.bindsN F__law_core_part fun _ _ _ _ _ _ us hl => match us, hl with | [_, _], _ => rfl
  obtain ⟨d__law_family_part, F__law_family_part⟩ := c.def_ 45 (d := dfn "_law_family_part" s_l_family_part) rfl
  have g__law_family_part := glo_ok X G (c.fact 40 (f := .glo "_law_family_part") rfl)
  have b__law_family_part : L2.Binds K d__law_family_part ["_law_purse_here", "_law_many"] [] := FunD.bindsN F__law_family_part fun _ _ _ _ _ _ us hl => match us, hl with | [_, _], _ => rfl
  obtain ⟨d__law_part, F__law_part⟩ := c.def_ 46 (d := dfn "_law_part" s_l_part) rfl
  have g__law_part := glo_ok X G (c.fact 41 (f := .glo "_law_part") rfl)
  have b__law_part : L2.Binds K d__law_part ["_law_purse_here", "_law_many"] [] := FunD.bindsN F__law_part fun _ _ _ _ _ _ us hl => match us, hl with | [_, _], _ => rfl
  obtain ⟨d__law_net_of, F__law_net_of⟩ := c.def_ 47 (d := dfn "_law_net_of" s_l_net_of) rfl
  have g__law_net_of := glo_ok X G (c.fact 42 (f := .glo "_law_net_of") rfl)
  have b__law_net_of : L2.Binds K d__law_net_of ["_law_words_here", "_law_parts", "_law_stuck"] [] := FunD.bindsN F__law_net_of fun _ _ _ _ _ _ us hl => match us, hl with | [_, _, _], _ => rfl
  obtain ⟨d__law_word, F__law_word⟩ := c.def_ 38 (d := dfn "_law_word" s_l_word) rfl
  have g__law_word := glo_ok X G (c.fact 33 (f := .glo "_law_word") rfl)
  have b__law_word : L2.Binds K d__law_word ["_law_purse_here"] [] := FunD.bindsN F__law_word fun _ _ _ _ _ _ us hl => match us, hl with | [_], _ => rfl
  obtain ⟨d__law_words, F__law_words⟩ := c.def_ 39 (d := dfn "_law_words" s_l_words) rfl
  have g__law_words := glo_ok X G (c.fact 34 (f := .glo "_law_words") rfl)
  have b__law_words : L2.Binds K d__law_words ["_law_purse_here", "_law_many"] [] := FunD.bindsN F__law_words fun _ _ _ _ _ _ us hl => match us, hl with | [_, _], _ => rfl
  obtain ⟨d__law_scene, F__law_scene⟩ := c.def_ 48 (d := dfn "_law_scene" s_l_scene) rfl
  have g__law_scene := glo_ok X G (c.fact 43 (f := .glo "_law_scene") rfl)
  have b__law_scene : L2.Binds K d__law_scene ["_law_purse_here", "_law_most"] [] := FunD.bindsN F__law_scene fun _ _ _ _ _ _ us hl => match us, hl with | [_, _], _ => rfl
  obtain ⟨d__law_still_net, F__law_still_net⟩ := c.def_ 63 (d := dfn "_law_still_net" s_l_still_net) rfl
  have g__law_still_net := glo_ok X G (c.fact 58 (f := .glo "_law_still_net") rfl)
  have b__law_still_net : L2.Binds K d__law_still_net ["_law_purse_here"] [] := FunD.bindsN F__law_still_net fun _ _ _ _ _ _ us hl => match us, hl with | [_], _ => rfl
  obtain ⟨d__law_net, F__law_net⟩ := c.def_ 57 (d := dfn "_law_net" s_l_net) rfl
  have g__law_net := glo_ok X G (c.fact 52 (f := .glo "_law_net") rfl)
  have b__law_net : L2.Binds K d__law_net ["_law_net_here"] [] := FunD.bindsN F__law_net fun _ _ _ _ _ _ us hl => match us, hl with | [_], _ => rfl
  obtain ⟨d__law_setting, F__law_setting⟩ := c.def_ 55 (d := dfn "_law_setting" s_l_setting) rfl
  have g__law_setting := glo_ok X G (c.fact 50 (f := .glo "_law_setting") rfl)
  have b__law_setting : L2.Binds K d__law_setting ["_law_purse_here", "_law_net_here"] [] := FunD.bindsN F__law_setting fun _ _ _ _ _ _ us hl => match us, hl with | [_, _], _ => rfl
  obtain ⟨d__law_near, F__law_near⟩ := c.def_ 50 (d := dfn "_law_near" s_l_near) rfl
  have g__law_near := glo_ok X G (c.fact 45 (f := .glo "_law_near") rfl)
  have b__law_near : L2.Binds K d__law_near ["_law_net_here"] [] := FunD.bindsN F__law_near fun _ _ _ _ _ _ us hl => match us, hl with | [_], _ => rfl
  obtain ⟨d__law_is_ready, F__law_is_ready⟩ := c.def_ 51 (d := dfn "_law_is_ready" s_l_is_ready) rfl
  have g__law_is_ready := glo_ok X G (c.fact 46 (f := .glo "_law_is_ready") rfl)
  have b__law_is_ready : L2.Binds K d__law_is_ready ["_law_net_here", "_law_near_here", "_law_setting_here", "_law_lamp"] [] := FunD.bindsN F__law_is_ready fun _ _ _ _ _ _ us hl => match us, hl with | [_, _, _, _], _ => rfl
  obtain ⟨d__law_ready, F__law_ready⟩ := c.def_ 52 (d := dfn "_law_ready" s_l_ready) rfl
  have g__law_ready := glo_ok X G (c.fact 47 (f := .glo "_law_ready") rfl)
  have b__law_ready : L2.Binds K d__law_ready ["_law_net_here", "_law_setting_here"] [] := FunD.bindsN F__law_ready fun _ _ _ _ _ _ us hl => match us, hl with | [_, _], _ => rfl
  obtain ⟨d_need_net, F_need_net⟩ := c.def_ 15 (d := dfn "need_net" s_need_net) rfl
  have g_need_net := glo_ok X G (c.fact 10 (f := .glo "need_net") rfl)
  have b_need_net : L2.Binds K d_need_net ["net"] [] := FunD.bindsN F_need_net fun _ _ _ _ _ _ us hl => match us, hl with | [_], _ => rfl
  obtain ⟨d_is_lamp, F_is_lamp⟩ := c.def_ 12 (d := dfn "is_lamp" s_is_lamp) rfl
  have g_is_lamp := glo_ok X G (c.fact 7 (f := .glo "is_lamp") rfl)
  have b_is_lamp : L2.Binds K d_is_lamp ["net", "value"] [] := FunD.bindsN F_is_lamp fun _ _ _ _ _ _ us hl => match us, hl with | [_, _], _ => rfl
  obtain ⟨d_are_lamps, F_are_lamps⟩ := c.def_ 13 (d := dfn "are_lamps" s_are_lamps) rfl
  have g_are_lamps := glo_ok X G (c.fact 8 (f := .glo "are_lamps") rfl)
  have b_are_lamps : L2.Binds K d_are_lamps ["net", "value"] [] := FunD.bindsN F_are_lamps fun _ _ _ _ _ _ us hl => match us, hl with | [_, _], _ => rfl
  obtain ⟨d_is_ascending, F_is_ascending⟩ := c.def_ 3 (d := dfn "is_ascending" s_is_ascending) rfl
  have g_is_ascending := glo_ok X G (c.fact 3 (f := .glo "is_ascending") rfl)
  have b_is_ascending : L2.Binds K d_is_ascending ["values"] [] := FunD.bindsN F_is_ascending fun _ _ _ _ _ _ us hl => match us, hl with | [_], _ => rfl
  obtain ⟨d_is_setting, F_is_setting⟩ := c.def_ 22 (d := dfn "is_setting" s_is_setting) rfl
  have g_is_setting := glo_ok X G (c.fact 17 (f := .glo "is_setting") rfl)
  have b_is_setting : L2.Binds K d_is_setting ["net", "value"] [] := FunD.bindsN F_is_setting fun _ _ _ _ _ _ us hl => match us, hl with | [_, _], _ => rfl
  obtain ⟨d_need_setting, F_need_setting⟩ := c.def_ 21 (d := dfn "need_setting" s_need_setting) rfl
  have g_need_setting := glo_ok X G (c.fact 16 (f := .glo "need_setting") rfl)
  have b_need_setting : L2.Binds K d_need_setting ["net", "setting"] [] := FunD.bindsN F_need_setting fun _ _ _ _ _ _ us hl => match us, hl with | [_, _], _ => rfl
  obtain ⟨d__lit_near, F__lit_near⟩ := c.def_ 24 (d := dfn "_lit_near" s_lit_near) rfl
  have g__lit_near := glo_ok X G (c.fact 19 (f := .glo "_lit_near") rfl)
  have b__lit_near : L2.Binds K d__lit_near ["net", "lit", "lamp"] [] := FunD.bindsN F__lit_near fun _ _ _ _ _ _ us hl => match us, hl with | [_, _, _], _ => rfl
  obtain ⟨d_is_ready_by, F_is_ready_by⟩ := c.def_ 25 (d := dfn "is_ready_by" s_is_ready_by) rfl
  have g_is_ready_by := glo_ok X G (c.fact 20 (f := .glo "is_ready_by") rfl)
  have b_is_ready_by : L2.Binds K d_is_ready_by ["net", "lit", "lamp"] [] := FunD.bindsN F_is_ready_by fun _ _ _ _ _ _ us hl => match us, hl with | [_, _, _], _ => rfl
  obtain ⟨d_ready_lamps, F_ready_lamps⟩ := c.def_ 27 (d := dfn "ready_lamps" s_ready_lamps) rfl
  have g_ready_lamps := glo_ok X G (c.fact 22 (f := .glo "ready_lamps") rfl)
  have b_ready_lamps : L2.Binds K d_ready_lamps ["net", "setting"] [] := FunD.bindsN F_ready_lamps fun _ _ _ _ _ _ us hl => match us, hl with | [_, _], _ => rfl
  obtain ⟨d_need_lamp, F_need_lamp⟩ := c.def_ 16 (d := dfn "need_lamp" s_need_lamp) rfl
  have g_need_lamp := glo_ok X G (c.fact 11 (f := .glo "need_lamp") rfl)
  have b_need_lamp : L2.Binds K d_need_lamp ["net", "lamp"] [] := FunD.bindsN F_need_lamp fun _ _ _ _ _ _ us hl => match us, hl with | [_, _], _ => rfl
  obtain ⟨d_is_ready, F_is_ready⟩ := c.def_ 26 (d := dfn "is_ready" s_is_ready) rfl
  have g_is_ready := glo_ok X G (c.fact 21 (f := .glo "is_ready") rfl)
  have b_is_ready : L2.Binds K d_is_ready ["net", "setting", "lamp"] [] := FunD.bindsN F_is_ready fun _ _ _ _ _ _ us hl => match us, hl with | [_, _, _], _ => rfl
  obtain ⟨d_lit_neighbours, F_lit_neighbours⟩ := c.def_ 23 (d := dfn "lit_neighbours" s_lit_neighbours) rfl
  have g_lit_neighbours := glo_ok X G (c.fact 18 (f := .glo "lit_neighbours") rfl)
  have b_lit_neighbours : L2.Binds K d_lit_neighbours ["net", "setting", "lamp"] [] := FunD.bindsN F_lit_neighbours fun _ _ _ _ _ _ us hl => match us, hl with | [_, _, _], _ => rfl
  obtain ⟨d__law_exact, F__law_exact⟩ := c.def_ 37 (d := dfn "_law_exact" s_l_exact) rfl
  have g__law_exact := glo_ok X G (c.fact 32 (f := .glo "_law_exact") rfl)
  have b__law_exact : L2.Binds K d__law_exact ["_law_mine", "_law_theirs"] [] := FunD.bindsN F__law_exact fun _ _ _ _ _ _ us hl => match us, hl with | [_, _], _ => rfl
  obtain ⟨d__other_ones, F__other_ones⟩ := c.def_ 29 (d := dfn "_other_ones" s_other_ones) rfl
  have g__other_ones := glo_ok X G (c.fact 24 (f := .glo "_other_ones") rfl)
  have b__other_ones : L2.Binds K d__other_ones ["setting", "lamps"] [] := FunD.bindsN F__other_ones fun _ _ _ _ _ _ us hl => match us, hl with | [_, _], _ => rfl
  obtain ⟨d_switched, F_switched⟩ := c.def_ 28 (d := dfn "switched" s_switched) rfl
  have g_switched := glo_ok X G (c.fact 23 (f := .glo "switched") rfl)
  have b_switched : L2.Binds K d_switched ["net", "setting", "lamp"] [] := FunD.bindsN F_switched fun _ _ _ _ _ _ us hl => match us, hl with | [_, _, _], _ => rfl
  obtain ⟨d__law_flip, F__law_flip⟩ := c.def_ 53 (d := dfn "_law_flip" s_l_flip) rfl
  have g__law_flip := glo_ok X G (c.fact 48 (f := .glo "_law_flip") rfl)
  have b__law_flip : L2.Binds K d__law_flip ["_law_setting_here", "_law_lamp"] [] := FunD.bindsN F__law_flip fun _ _ _ _ _ _ us hl => match us, hl with | [_, _], _ => rfl
  obtain ⟨d__law_free, F__law_free⟩ := c.def_ 49 (d := dfn "_law_free" s_l_free) rfl
  have g__law_free := glo_ok X G (c.fact 44 (f := .glo "_law_free") rfl)
  have b__law_free : L2.Binds K d__law_free ["_law_net_here"] [] := FunD.bindsN F__law_free fun _ _ _ _ _ _ us hl => match us, hl with | [_], _ => rfl
  obtain ⟨d__law_pieces, F__law_pieces⟩ := c.def_ 54 (d := dfn "_law_pieces" s_l_pieces) rfl
  have g__law_pieces := glo_ok X G (c.fact 49 (f := .glo "_law_pieces") rfl)
  have b__law_pieces : L2.Binds K d__law_pieces ["_law_net_here"] [] := FunD.bindsN F__law_pieces fun _ _ _ _ _ _ us hl => match us, hl with | [_], _ => rfl
  obtain ⟨d_is_free, F_is_free⟩ := c.def_ 14 (d := dfn "is_free" s_is_free) rfl
  have g_is_free := glo_ok X G (c.fact 9 (f := .glo "is_free") rfl)
  have b_is_free : L2.Binds K d_is_free ["net", "lamp"] [] := FunD.bindsN F_is_free fun _ _ _ _ _ _ us hl => match us, hl with | [_, _], _ => rfl
  obtain ⟨d_free_lamps, F_free_lamps⟩ := c.def_ 17 (d := dfn "free_lamps" s_free_lamps) rfl
  have g_free_lamps := glo_ok X G (c.fact 12 (f := .glo "free_lamps") rfl)
  have b_free_lamps : L2.Binds K d_free_lamps ["net"] [] := FunD.bindsN F_free_lamps fun _ _ _ _ _ _ us hl => match us, hl with | [_], _ => rfl
  obtain ⟨d__reached, F__reached⟩ := c.def_ 18 (d := dfn "_reached" s_reached) rfl
  have g__reached := glo_ok X G (c.fact 13 (f := .glo "_reached") rfl)
  have b__reached : L2.Binds K d__reached ["net", "start", "among"] [] := FunD.bindsN F__reached fun _ _ _ _ _ _ us hl => match us, hl with | [_, _, _], _ => rfl
  obtain ⟨d__piece_with, F__piece_with⟩ := c.def_ 19 (d := dfn "_piece_with" s_piece_with) rfl
  have g__piece_with := glo_ok X G (c.fact 14 (f := .glo "_piece_with") rfl)
  have b__piece_with : L2.Binds K d__piece_with ["net", "lamp"] [] := FunD.bindsN F__piece_with fun _ _ _ _ _ _ us hl => match us, hl with | [_, _], _ => rfl
  obtain ⟨d_pieces, F_pieces⟩ := c.def_ 20 (d := dfn "pieces" s_pieces) rfl
  have g_pieces := glo_ok X G (c.fact 15 (f := .glo "pieces") rfl)
  have b_pieces : L2.Binds K d_pieces ["net"] [] := FunD.bindsN F_pieces fun _ _ _ _ _ _ us hl => match us, hl with | [_], _ => rfl
  obtain ⟨d_still_pieces, F_still_pieces⟩ := c.def_ 30 (d := dfn "still_pieces" s_still_pieces) rfl
  have g_still_pieces := glo_ok X G (c.fact 25 (f := .glo "still_pieces") rfl)
  have b_still_pieces : L2.Binds K d_still_pieces ["net", "setting"] [] := FunD.bindsN F_still_pieces fun _ _ _ _ _ _ us hl => match us, hl with | [_, _], _ => rfl
  obtain ⟨d_Net_lamps, F_Net_lamps⟩ := c.def_ 5 (d := dme "lamps" "Net.lamps" s_Net_lamps) rfl
  have b_Net_lamps : L2.Binds K d_Net_lamps ["self"] [] := FunD.bindsN F_Net_lamps fun _ _ _ _ _ _ us hl => match us, hl with | [_], _ => rfl
  obtain ⟨d_Net_ties, F_Net_ties⟩ := c.def_ 6 (d := dme "ties" "Net.ties" s_Net_ties) rfl
  have b_Net_ties : L2.Binds K d_Net_ties ["self"] [] := FunD.bindsN F_Net_ties fun _ _ _ _ _ _ us hl => match us, hl with | [_], _ => rfl
  obtain ⟨d_Net_wishes, F_Net_wishes⟩ := c.def_ 7 (d := dme "wishes" "Net.wishes" s_Net_wishes) rfl
  have b_Net_wishes : L2.Binds K d_Net_wishes ["self"] [] := FunD.bindsN F_Net_wishes fun _ _ _ _ _ _ us hl => match us, hl with | [_], _ => rfl
  obtain ⟨d__law_net_told, F__law_net_told⟩ := c.def_ 58 (d := dfn "_law_net_told" s_l_net_told) rfl
  have g__law_net_told := glo_ok X G (c.fact 53 (f := .glo "_law_net_told") rfl)
  have b__law_net_told : L2.Binds K d__law_net_told ["_law_made"] [] := FunD.bindsN F__law_net_told fun _ _ _ _ _ _ us hl => match us, hl with | [_], _ => rfl
  obtain ⟨d__law_deeds_right, F__law_deeds_right⟩ := c.def_ 61 (d := dfn "_law_deeds_right" s_l_deeds_right) rfl
  have g__law_deeds_right := glo_ok X G (c.fact 56 (f := .glo "_law_deeds_right") rfl)
  have b__law_deeds_right : L2.Binds K d__law_deeds_right ["_law_purse_here", "_law_net_here", "_law_made", "_law_setting_here"] [] := FunD.bindsN F__law_deeds_right fun _ _ _ _ _ _ us hl => match us, hl with | [_, _, _, _], _ => rfl
  obtain ⟨d__law_far, F__law_far⟩ := c.def_ 56 (d := dfn "_law_far" s_l_far) rfl
  have g__law_far := glo_ok X G (c.fact 51 (f := .glo "_law_far") rfl)
  have b__law_far : L2.Binds K d__law_far ["_law_words_here"] [] := FunD.bindsN F__law_far fun _ _ _ _ _ _ us hl => match us, hl with | [_], _ => rfl
  obtain ⟨d__law_bent_settings, F__law_bent_settings⟩ := c.def_ 59 (d := dfn "_law_bent_settings" s_l_bent_settings) rfl
  have g__law_bent_settings := glo_ok X G (c.fact 54 (f := .glo "_law_bent_settings") rfl)
  have b__law_bent_settings : L2.Binds K d__law_bent_settings ["_law_purse_here", "_law_net_here", "_law_setting_here"] [] := FunD.bindsN F__law_bent_settings fun _ _ _ _ _ _ us hl => match us, hl with | [_, _, _], _ => rfl
  obtain ⟨d__law_same, F__law_same⟩ := c.def_ 36 (d := dfn "_law_same" s_l_same) rfl
  have g__law_same := glo_ok X G (c.fact 31 (f := .glo "_law_same") rfl)
  have b__law_same : L2.Binds K d__law_same ["_law_thing"] [] := FunD.bindsN F__law_same fun _ _ _ _ _ _ us hl => match us, hl with | [_], _ => rfl
  obtain ⟨d__law_is_setting, F__law_is_setting⟩ := c.def_ 60 (d := dfn "_law_is_setting" s_l_is_setting) rfl
  have g__law_is_setting := glo_ok X G (c.fact 55 (f := .glo "_law_is_setting") rfl)
  have b__law_is_setting : L2.Binds K d__law_is_setting ["_law_net_here", "_law_value"] [] := FunD.bindsN F__law_is_setting fun _ _ _ _ _ _ us hl => match us, hl with | [_, _], _ => rfl
  obtain ⟨d__law_judged_settings, F__law_judged_settings⟩ := c.def_ 62 (d := dfn "_law_judged_settings" s_l_judged_settings) rfl
  have g__law_judged_settings := glo_ok X G (c.fact 57 (f := .glo "_law_judged_settings") rfl)
  have b__law_judged_settings : L2.Binds K d__law_judged_settings ["_law_purse_here", "_law_net_here", "_law_made", "_law_setting_here"] [] := FunD.bindsN F__law_judged_settings fun _ _ _ _ _ _ us hl => match us, hl with | [_, _, _, _], _ => rfl
  obtain ⟨d_law, F_law⟩ := c.def_ 64 (d := dfn "law" s_law) rfl
  have e := hfa.symm.trans (glo_ok X G (c.fact 59 (f := .glo "law") rfl))
  cases e
  have b := FunD.bindsA (ps := ["_law_script"]) F_law fun _ _ _ _ _ _ us hl => match us, hl with | [_], _ => rfl
  refine ⟨d_law, fun s v => b s [v] rfl, fun base _ _ => ?_⟩
  have O_is_word := ok_is_word (P := P) (w := w) (base := base) F_is_word B TG
  have H_is_word : Has P w K mg base 1 "is_word" ["value"] _ := ⟨_, _, O_is_word, F_is_word.kp, b_is_word, g_is_word⟩
  have O_are_words := ok_are_words (P := P) (w := w) (base := base) F_are_words B H_is_word
  have H_are_words : Has P w K mg base 2 "are_words" ["value"] _ := ⟨_, _, O_are_words, F_are_words.kp, b_are_words, g_are_words⟩
  have O_are_unlike := ok_unlike (P := P) (w := w) (base := base) F_are_unlike B
  have H_are_unlike : Has P w K mg base 1 "are_unlike" ["values"] _ := ⟨_, _, O_are_unlike, F_are_unlike.kp, b_are_unlike, g_are_unlike⟩
  have O_is_tie := ok_is_tie (P := P) (w := w) (base := base) F_is_tie B
  have H_is_tie : Has P w K mg base 1 "is_tie" ["near", "value"] _ := ⟨_, _, O_is_tie, F_is_tie.kp, b_is_tie, g_is_tie⟩
  have O__are_ties := ok_are_ties (P := P) (w := w) (base := base) F__are_ties B H_is_tie H_are_unlike
  have H__are_ties : Has P w K mg base 2 "_are_ties" ["value", "near"] _ := ⟨_, _, O__are_ties, F__are_ties.kp, b__are_ties, g__are_ties⟩
  have O__are_wishes := ok_are_wishes (P := P) (w := w) (base := base) F__are_wishes B TG
  have H__are_wishes : Has P w K mg base 1 "_are_wishes" ["value", "near"] _ := ⟨_, _, O__are_wishes, F__are_wishes.kp, b__are_wishes, g__are_wishes⟩
  have O_Net___init__ := ok_net_init (P := P) (w := w) (base := base) F_Net___init__ B NC H_are_words H_are_unlike H__are_ties H__are_wishes
  have O__law_purse := ok_purse (P := P) (w := w) (base := base) F__law_purse B
  have H__law_purse : Has P w K mg base 1 "_law_purse" ["_law_script", "_law_at"] _ := ⟨_, _, O__law_purse, F__law_purse.kp, b__law_purse, g__law_purse⟩
  have O__law_purses := ok_purses (P := P) (w := w) (base := base) F__law_purses B H__law_purse
  have H__law_purses : Has P w K mg base 2 "_law_purses" ["_law_script", "_law_few"] _ := ⟨_, _, O__law_purses, F__law_purses.kp, b__law_purses, g__law_purses⟩
  have O__law_mixed := ok_mixed (P := P) (w := w) (base := base) F__law_mixed B
  have H__law_mixed : Has P w K mg base 1 "_law_mixed" ["_law_seed", "_law_spin", "_law_at"] _ := ⟨_, _, O__law_mixed, F__law_mixed.kp, b__law_mixed, g__law_mixed⟩
  have O__law_draw := ok_draw (P := P) (w := w) (base := base) F__law_draw B H__law_mixed
  have H__law_draw : Has P w K mg base 2 "_law_draw" ["_law_purse_here", "_law_many"] _ := ⟨_, _, O__law_draw, F__law_draw.kp, b__law_draw, g__law_draw⟩
  have O__law_pairs_drawn := ok_pairs (P := P) (w := w) (base := base) F__law_pairs_drawn B H__law_draw
  have H__law_pairs_drawn : Has P w K mg base 3 "_law_pairs_drawn" ["_law_purse_here", "_law_points", "_law_many"] _ := ⟨_, _, O__law_pairs_drawn, F__law_pairs_drawn.kp, b__law_pairs_drawn, g__law_pairs_drawn⟩
  have O__law_ties_of_pairs := ok_ties (P := P) (w := w) (base := base) F__law_ties_of_pairs B
  have H__law_ties_of_pairs : Has P w K mg base 1 "_law_ties_of_pairs" ["_law_pairs"] _ := ⟨_, _, O__law_ties_of_pairs, F__law_ties_of_pairs.kp, b__law_ties_of_pairs, g__law_ties_of_pairs⟩
  have O__law_wishes_by := ok_wishes (P := P) (w := w) (base := base) F__law_wishes_by B
  have H__law_wishes_by : Has P w K mg base 1 "_law_wishes_by" ["_law_pairs", "_law_highs"] _ := ⟨_, _, O__law_wishes_by, F__law_wishes_by.kp, b__law_wishes_by, g__law_wishes_by⟩
  have O__law_paired_part := ok_paired (P := P) (w := w) (base := base) F__law_paired_part B H__law_draw H__law_pairs_drawn H__law_ties_of_pairs H__law_wishes_by
  have H__law_paired_part : Has P w K mg base 4 "_law_paired_part" ["_law_purse_here", "_law_many"] _ := ⟨_, _, O__law_paired_part, F__law_paired_part.kp, b__law_paired_part, g__law_paired_part⟩
  have O__law_one_of := ok_one (P := P) (w := w) (base := base) F__law_one_of B H__law_draw
  have H__law_one_of : Has P w K mg base 3 "_law_one_of" ["_law_purse_here", "_law_some"] _ := ⟨_, _, O__law_one_of, F__law_one_of.kp, b__law_one_of, g__law_one_of⟩
  have O__law_core_part := ok_core (P := P) (w := w) (base := base) F__law_core_part B H__law_draw H__law_one_of
  have H__law_core_part : Has P w K mg base 4 "_law_core_part" ["_law_purse_here", "_law_many"] _ := ⟨_, _, O__law_core_part, F__law_core_part.kp, b__law_core_part, g__law_core_part⟩
  have O__law_family_part := ok_family (P := P) (w := w) (base := base) F__law_family_part B H__law_draw H__law_one_of
  have H__law_family_part : Has P w K mg base 4 "_law_family_part" ["_law_purse_here", "_law_many"] _ := ⟨_, _, O__law_family_part, F__law_family_part.kp, b__law_family_part, g__law_family_part⟩
  have O__law_part := ok_part (P := P) (w := w) (base := base) F__law_part B H__law_draw H__law_paired_part H__law_core_part H__law_family_part
  have H__law_part : Has P w K mg base 5 "_law_part" ["_law_purse_here", "_law_many"] _ := ⟨_, _, O__law_part, F__law_part.kp, b__law_part, g__law_part⟩
  have O__law_net_of := ok_net_of (P := P) (w := w) (base := base) F__law_net_of B
  have H__law_net_of : Has P w K mg base 1 "_law_net_of" ["_law_words_here", "_law_parts", "_law_stuck"] _ := ⟨_, _, O__law_net_of, F__law_net_of.kp, b__law_net_of, g__law_net_of⟩
  have O__law_word := ok_word (P := P) (w := w) (base := base) F__law_word B H__law_draw
  have H__law_word : Has P w K mg base 3 "_law_word" ["_law_purse_here"] _ := ⟨_, _, O__law_word, F__law_word.kp, b__law_word, g__law_word⟩
  have O__law_words := ok_words (P := P) (w := w) (base := base) F__law_words B H__law_draw H__law_word
  have H__law_words : Has P w K mg base 4 "_law_words" ["_law_purse_here", "_law_many"] _ := ⟨_, _, O__law_words, F__law_words.kp, b__law_words, g__law_words⟩
  have O__law_scene := ok_scene (P := P) (w := w) (base := base) F__law_scene B H__law_draw H__law_part H__law_net_of H__law_words
  have H__law_scene : Has P w K mg base 6 "_law_scene" ["_law_purse_here", "_law_most"] _ := ⟨_, _, O__law_scene, F__law_scene.kp, b__law_scene, g__law_scene⟩
  have O__law_still_net := ok_still_net (P := P) (w := w) (base := base) F__law_still_net B H__law_words H__law_one_of H__law_draw H__law_net_of
  have H__law_still_net : Has P w K mg base 5 "_law_still_net" ["_law_purse_here"] _ := ⟨_, _, O__law_still_net, F__law_still_net.kp, b__law_still_net, g__law_still_net⟩
  have O__law_net := ok_lnet (P := P) (w := w) (base := base) F__law_net B ⟨_, _, _, [], mkr_ok (c.fact 71 (f := .mkr "Net") rfl), O_Net___init__, TG.net, b_Net___init__, .nil⟩
  have H__law_net : Has P w K mg base 5 "_law_net" ["_law_net_here"] _ := ⟨_, _, O__law_net, F__law_net.kp, b__law_net, g__law_net⟩
  have O__law_setting := ok_l_setting (P := P) (w := w) (base := base) F__law_setting B H__law_draw
  have H__law_setting : Has P w K mg base 3 "_law_setting" ["_law_purse_here", "_law_net_here"] _ := ⟨_, _, O__law_setting, F__law_setting.kp, b__law_setting, g__law_setting⟩
  have O__law_near := ok_lnear (P := P) (w := w) (base := base) F__law_near B
  have H__law_near : Has P w K mg base 1 "_law_near" ["_law_net_here"] _ := ⟨_, _, O__law_near, F__law_near.kp, b__law_near, g__law_near⟩
  have O__law_is_ready := ok_l_is_ready (P := P) (w := w) (base := base) F__law_is_ready B
  have H__law_is_ready : Has P w K mg base 1 "_law_is_ready" ["_law_net_here", "_law_near_here", "_law_setting_here", "_law_lamp"] _ := ⟨_, _, O__law_is_ready, F__law_is_ready.kp, b__law_is_ready, g__law_is_ready⟩
  have O__law_ready := ok_l_ready (P := P) (w := w) (base := base) F__law_ready B H__law_near H__law_is_ready
  have H__law_ready : Has P w K mg base 2 "_law_ready" ["_law_net_here", "_law_setting_here"] _ := ⟨_, _, O__law_ready, F__law_ready.kp, b__law_ready, g__law_ready⟩
  have O_need_net := ok_need_net (P := P) (w := w) (base := base) F_need_net B NC TG
  have H_need_net : Has P w K mg base 1 "need_net" ["net"] _ := ⟨_, _, O_need_net, F_need_net.kp, b_need_net, g_need_net⟩
  have O_is_lamp := ok_is_lampV (P := P) (w := w) (base := base) F_is_lamp B NC
  have H_is_lamp : Has P w K mg base 1 "is_lamp" ["net", "value"] _ := ⟨_, _, O_is_lamp, F_is_lamp.kp, b_is_lamp, g_is_lamp⟩
  have O_are_lamps := ok_are_lampsV (P := P) (w := w) (base := base) F_are_lamps B NC H_is_lamp
  have H_are_lamps : Has P w K mg base 2 "are_lamps" ["net", "value"] _ := ⟨_, _, O_are_lamps, F_are_lamps.kp, b_are_lamps, g_are_lamps⟩
  have O_is_ascending := ok_asc (P := P) (w := w) (base := base) F_is_ascending B
  have H_is_ascending : Has P w K mg base 1 "is_ascending" ["values"] _ := ⟨_, _, O_is_ascending, F_is_ascending.kp, b_is_ascending, g_is_ascending⟩
  have O_is_setting := ok_is_setting (P := P) (w := w) (base := base) F_is_setting B H_need_net H_are_lamps H_is_ascending
  have H_is_setting : Has P w K mg base 3 "is_setting" ["net", "value"] _ := ⟨_, _, O_is_setting, F_is_setting.kp, b_is_setting, g_is_setting⟩
  have O_need_setting := ok_need_setting (P := P) (w := w) (base := base) F_need_setting B H_is_setting
  have H_need_setting : Has P w K mg base 4 "need_setting" ["net", "setting"] _ := ⟨_, _, O_need_setting, F_need_setting.kp, b_need_setting, g_need_setting⟩
  have O__lit_near := ok_lit_near (P := P) (w := w) (base := base) F__lit_near B NC
  have H__lit_near : Has P w K mg base 1 "_lit_near" ["net", "lit", "lamp"] _ := ⟨_, _, O__lit_near, F__lit_near.kp, b__lit_near, g__lit_near⟩
  have O_is_ready_by := ok_ready (P := P) (w := w) (base := base) F_is_ready_by B NC RY H__lit_near
  have H_is_ready_by : Has P w K mg base 2 "is_ready_by" ["net", "lit", "lamp"] _ := ⟨_, _, O_is_ready_by, F_is_ready_by.kp, b_is_ready_by, g_is_ready_by⟩
  have O_ready_lamps := ok_ready_lamps (P := P) (w := w) (base := base) F_ready_lamps B NC H_need_setting H_is_ready_by
  have H_ready_lamps : Has P w K mg base 5 "ready_lamps" ["net", "setting"] _ := ⟨_, _, O_ready_lamps, F_ready_lamps.kp, b_ready_lamps, g_ready_lamps⟩
  have O_is_lamp_2 := ok_is_lamp (P := P) (w := w) (base := base) F_is_lamp B NC
  have H_is_lamp_2 : Has P w K mg base 1 "is_lamp" ["net", "value"] _ := ⟨_, _, O_is_lamp_2, F_is_lamp.kp, b_is_lamp, g_is_lamp⟩
  have O_need_lamp := ok_need_lamp (P := P) (w := w) (base := base) F_need_lamp B H_is_lamp_2 H_need_net
  have H_need_lamp : Has P w K mg base 2 "need_lamp" ["net", "lamp"] _ := ⟨_, _, O_need_lamp, F_need_lamp.kp, b_need_lamp, g_need_lamp⟩
  have O_is_ready := ok_is_ready (P := P) (w := w) (base := base) F_is_ready B H_need_setting H_need_lamp H_is_ready_by
  have H_is_ready : Has P w K mg base 5 "is_ready" ["net", "setting", "lamp"] _ := ⟨_, _, O_is_ready, F_is_ready.kp, b_is_ready, g_is_ready⟩
  have O_lit_neighbours := ok_lit_nb (P := P) (w := w) (base := base) F_lit_neighbours B H_need_setting H_need_lamp H__lit_near
  have H_lit_neighbours : Has P w K mg base 5 "lit_neighbours" ["net", "setting", "lamp"] _ := ⟨_, _, O_lit_neighbours, F_lit_neighbours.kp, b_lit_neighbours, g_lit_neighbours⟩
  have O__law_exact := ok_exact (P := P) (w := w) (base := base) F__law_exact B F__law_exact.kp b__law_exact g__law_exact
  have H__law_exact : ∀ n, Has P w K mg base n "_law_exact" ["_law_mine", "_law_theirs"] (spX n) := fun n => ⟨_, _, O__law_exact n, F__law_exact.kp, b__law_exact, g__law_exact⟩
  have O__other_ones := ok_other (P := P) (w := w) (base := base) F__other_ones B
  have H__other_ones : Has P w K mg base 1 "_other_ones" ["setting", "lamps"] _ := ⟨_, _, O__other_ones, F__other_ones.kp, b__other_ones, g__other_ones⟩
  have O_switched := ok_switched (P := P) (w := w) (base := base) F_switched B H_need_setting H_is_lamp H_is_ready_by H__other_ones
  have H_switched : Has P w K mg base 5 "switched" ["net", "setting", "lamp"] _ := ⟨_, _, O_switched, F_switched.kp, b_switched, g_switched⟩
  have O__law_flip := ok_flip (P := P) (w := w) (base := base) F__law_flip B
  have H__law_flip : Has P w K mg base 1 "_law_flip" ["_law_setting_here", "_law_lamp"] _ := ⟨_, _, O__law_flip, F__law_flip.kp, b__law_flip, g__law_flip⟩
  have O__law_free := ok_lfree (P := P) (w := w) (base := base) F__law_free B
  have H__law_free : Has P w K mg base 1 "_law_free" ["_law_net_here"] _ := ⟨_, _, O__law_free, F__law_free.kp, b__law_free, g__law_free⟩
  have O__law_pieces := ok_lpieces (P := P) (w := w) (base := base) F__law_pieces B H__law_near H__law_free
  have H__law_pieces : Has P w K mg base 2 "_law_pieces" ["_law_net_here"] _ := ⟨_, _, O__law_pieces, F__law_pieces.kp, b__law_pieces, g__law_pieces⟩
  have O_is_free := ok_is_free (P := P) (w := w) (base := base) F_is_free B NC
  have H_is_free : Has P w K mg base 1 "is_free" ["net", "lamp"] _ := ⟨_, _, O_is_free, F_is_free.kp, b_is_free, g_is_free⟩
  have O_free_lamps := ok_free_lamps (P := P) (w := w) (base := base) F_free_lamps B NC H_need_net H_is_free
  have H_free_lamps : Has P w K mg base 2 "free_lamps" ["net"] _ := ⟨_, _, O_free_lamps, F_free_lamps.kp, b_free_lamps, g_free_lamps⟩
  have O__reached := ok_reached (P := P) (w := w) (base := base) F__reached B NC
  have H__reached : Has P w K mg base 1 "_reached" ["net", "start", "among"] _ := ⟨_, _, O__reached, F__reached.kp, b__reached, g__reached⟩
  have O__piece_with := ok_piece_with (P := P) (w := w) (base := base) F__piece_with B H_free_lamps H__reached
  have H__piece_with : Has P w K mg base 3 "_piece_with" ["net", "lamp"] _ := ⟨_, _, O__piece_with, F__piece_with.kp, b__piece_with, g__piece_with⟩
  have O_pieces := ok_pieces (P := P) (w := w) (base := base) F_pieces B H_free_lamps H__piece_with
  have H_pieces : Has P w K mg base 4 "pieces" ["net"] _ := ⟨_, _, O_pieces, F_pieces.kp, b_pieces, g_pieces⟩
  have O_still_pieces := ok_still (P := P) (w := w) (base := base) F_still_pieces B H_need_setting H_pieces H_is_ready_by
  have H_still_pieces : Has P w K mg base 5 "still_pieces" ["net", "setting"] _ := ⟨_, _, O_still_pieces, F_still_pieces.kp, b_still_pieces, g_still_pieces⟩
  have O_Net_lamps := ok_m_lamps (P := P) (w := w) (base := base) F_Net_lamps B NC
  have O_Net_ties := ok_m_ties (P := P) (w := w) (base := base) F_Net_ties B NC
  have O_Net_wishes := ok_m_wishes (P := P) (w := w) (base := base) F_Net_wishes B NC
  have O__law_net_told := ok_l_told (P := P) (w := w) (base := base) F__law_net_told B ⟨_, _, _, [], NC.cls, meth_ok (c.fact 68 (f := .meth "Net" "lamps") rfl), O_Net_lamps, b_Net_lamps, .nil⟩ ⟨_, _, _, [], NC.cls, meth_ok (c.fact 69 (f := .meth "Net" "ties") rfl), O_Net_ties, b_Net_ties, .nil⟩ ⟨_, _, _, [], NC.cls, meth_ok (c.fact 70 (f := .meth "Net" "wishes") rfl), O_Net_wishes, b_Net_wishes, .nil⟩
  have H__law_net_told : Has P w K mg base 2 "_law_net_told" ["_law_made"] _ := ⟨_, _, O__law_net_told, F__law_net_told.kp, b__law_net_told, g__law_net_told⟩
  have O__law_deeds_right := ok_deeds (P := P) (w := w) (base := base) F__law_deeds_right B H__law_near H__law_ready H_ready_lamps H_is_ready H_lit_neighbours (H__law_exact 5) H_switched H__law_flip H__law_pieces H_still_pieces H__law_net_told
  have H__law_deeds_right : Has P w K mg base 6 "_law_deeds_right" ["_law_purse_here", "_law_net_here", "_law_made", "_law_setting_here"] _ := ⟨_, _, O__law_deeds_right, F__law_deeds_right.kp, b__law_deeds_right, g__law_deeds_right⟩
  have O__law_far := ok_far (P := P) (w := w) (base := base) F__law_far B
  have H__law_far : Has P w K mg base 1 "_law_far" ["_law_words_here"] _ := ⟨_, _, O__law_far, F__law_far.kp, b__law_far, g__law_far⟩
  have O__law_bent_settings := ok_bent (P := P) (w := w) (base := base) F__law_bent_settings B H__law_far
  have H__law_bent_settings : Has P w K mg base 2 "_law_bent_settings" ["_law_purse_here", "_law_net_here", "_law_setting_here"] _ := ⟨_, _, O__law_bent_settings, F__law_bent_settings.kp, b__law_bent_settings, g__law_bent_settings⟩
  have O__law_same := ok_same (P := P) (w := w) (base := base) F__law_same B F__law_same.kp b__law_same g__law_same
  have H__law_same : ∀ n, Has P w K mg base n "_law_same" ["_law_thing"] (spS n) := fun n => ⟨_, _, O__law_same n, F__law_same.kp, b__law_same, g__law_same⟩
  have O__law_is_setting := ok_l_is_setting (P := P) (w := w) (base := base) F__law_is_setting B
  have H__law_is_setting : Has P w K mg base 1 "_law_is_setting" ["_law_net_here", "_law_value"] _ := ⟨_, _, O__law_is_setting, F__law_is_setting.kp, b__law_is_setting, g__law_is_setting⟩
  have O__law_judged_settings := ok_judged (P := P) (w := w) (base := base) F__law_judged_settings B H__law_net H__law_bent_settings (H__law_same 3) H__law_is_setting (H__law_exact 4) H_is_setting
  have H__law_judged_settings : Has P w K mg base 6 "_law_judged_settings" ["_law_purse_here", "_law_net_here", "_law_made", "_law_setting_here"] _ := ⟨_, _, O__law_judged_settings, F__law_judged_settings.kp, b__law_judged_settings, g__law_judged_settings⟩
  exact fnG_of (ok_law F_law B ⟨_, _, _, [], mkr_ok (c.fact 71 (f := .mkr "Net") rfl), O_Net___init__, TG.net, b_Net___init__, .nil⟩ H__law_purses H__law_scene H__law_still_net H__law_net H__law_setting H__law_deeds_right H__law_judged_settings H_ready_lamps H_switched H_still_pieces (H__law_exact 5))
end
end NK
open PySem PySem.W PySem.Calls PyProof.Rows
theorem PySem.Challenge.cw_oddlamps_k06_whole_settings_and_ready_la_holds : PySem.Challenge.rw_oddlamps_k06_whole_settings_and_ready_la.Holds := by
  w_on; o_law
  refine HandSHeadRun.head_any (r := OpenLaw.row PySem.Challenge.rw_oddlamps_k06_whole_settings_and_ready_la) (q := view (OpenLaw.row PySem.Challenge.rw_oddlamps_k06_whole_settings_and_ready_la).prog [76]) (H := NK.hk) (ob := NK.ob) (M := 20000) (loose := NK.looseN) (d := HandSHeadRun.topDef (OpenLaw.row PySem.Challenge.rw_oddlamps_k06_whole_settings_and_ready_la).prog 76) (kwd := []) NK.ob_eq
    (by kernel_rfl) (fun s => by kernel_rfl) NK.run (by kernel_rfl) (by kernel_rfl) (by kernel_rfl) (by rfl) (by first | assumption | decide +kernel) (by decide +kernel) ⟨rfl, rfl, rfl, rfl, rfl, by decide +kernel⟩ ?hw ?hc
  case hw => w_witness2
  case hc =>
    refine K1.walkX (l := PySem.Challenge.rw_oddlamps_k06_whole_settings_and_ready_la) (k := 7) (x := "_law_script") rfl (by decide) (by kernel_rfl) ⟨rfl, by decide, by decide⟩ ?F
    intro w mg fa h Y G hmg0
    obtain ⟨K, KX, c, m⟩ := Y
    have hmg : mg ("law" : PySem.Str) = some (.ref fa) := by
      have e : (HandSHeadRun.topDef (OpenLaw.row PySem.Challenge.rw_oddlamps_k06_whole_settings_and_ready_la).prog 76).name = ("law" : PySem.Str) := by kernel_rfl
      rw [← e]
      exact hmg0
    obtain ⟨fd, hb, hF⟩ := NK.facts (P := (PySem.Challenge.rw_oddlamps_k06_whole_settings_and_ready_la).prog) (w := w) KX G hmg c m
    exact ⟨K, fd, NK.spLaw K, KX, hb, fun H a ns hl _ hS => ⟨a, ns, rfl, hS, fun _ => rfl⟩, hF⟩
