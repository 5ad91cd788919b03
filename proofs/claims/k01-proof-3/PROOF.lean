import PyProof.Rows.All
import Wide.All
import OpenK.AllK
import Wide.FinOn
import PyProof.EqAt
import PyProof.EqKinds
import PyProof.TupleCall
import KE.KIsAll
import KE.KExcIs
import HandS.ForMost
import HandS.Exc
import HandS.ExcInit
import HandS.Defaults
import PyProof.StrLawsRepr
import KE.KStateDown
import Lean
import HandS.Head0
import HandS.Head1
import HandS.Head2
import HandS.HeadEnd
import HandS.HeadHook1
import HandS.HeadHook2
import PySem.Challenge.RW_oddlamps_k01_errors_made
import HandS.MakeKw
import HandS.ExcValue
import HandS.WideBits
import HandS.Wide
import HandS.Text
import PyProof.Rows.RuleB_pow
import HandS.Style
import HandS.IsInst
import HandS.Dict
import HandS.Small
set_option Elab.async false
set_option linter.all false
set_option maxRecDepth 100000
set_option maxHeartbeats 0
namespace PySem
namespace KWX
open PySem.W PySem.Calls PyProof.Rows PySem.HandSPX
section
variable {M : Model} {A : Around} {E : Value → Shared → Prop} {h : Heap} {g : Array GenState} {d : Drawn} {t : Nat} {os : OsState} {nm q : Str} {C N : Addr} {bs bm bmB : List Value} {hdct : Bool} {sn : List Str} {sub : List Value}
variable {ab : Bool} {col : Option Bool} {dd : Option Addr} {k0 k1 k2 k3 k5 : Option Value} {B newId initId : String}
theorem kw_new_checked (F : ExcBaseFacts B newId initId bmB)
    (hT : ∀ X : String, bm.contains (.type X) = bmB.contains (.type X))
    {rest : List Value} {kn : Str} {kv : Value} {Q : Unit → Shared → Prop}
    (hC : h.get? C = some
      (excClassObj nm q C N bs bm hdct sn sub ab col dd k0 k1 k2 k3 k5 newId))
    (hq : Q () ⟨h, g, d, t, os⟩) :
    wpAny M A (checkBuiltinCall newId ⟨.ref C :: rest, [(kn, kv)]⟩) Q E
      ⟨h, g, d, t, os⟩ := by
  have in1 : (Value.ref C :: bm).contains (.type B) = true := by
    rw [List.contains_cons, hT, F.hasB, Bool.or_true]
  have nostar := F.noStar
  simp only [checkBuiltinCall, F.newKind, F.newSplit, F.newRow]
  repeat (first
    | refine wpAny_loadPart_at hC ?_
    | (refine wpAny_isSubtype_exc hC ?_; rw [in1])
    | refine wpAny_staticBase_exc hC ?_
    | refine wpAny_madeBy_exc hC ?_
    | simp only [bne_self_eq_false, Bool.false_eq_true, if_false]
    | wp_step)
  exact hq
end
section
variable {prog : Program} {w : World} {A : Around} {E : Value → Shared → Prop} {R : Result → Shared → Prop} {h : Heap} {g : Array GenState} {d : Drawn} {t : Nat} {os : OsState} {nm q : Str} {C N : Addr} {bs bm bmB : List Value}
variable {hdct : Bool} {sn : List Str} {sub : List Value} {ab : Bool} {col : Option Bool} {dd : Option Addr} {k0 k1 k2 k3 k5 : Option Value} {B newId initId : String}
theorem kw_new (F : ExcBaseFacts B newId initId bmB)
    (hT : ∀ X : String, bm.contains (.type X) = bmB.contains (.type X))
    {rest : List Value} {kn : Str} {kv : Value}
    (hC : h.get? C = some
      (excClassObj nm q C N bs bm hdct sn sub ab col dd k0 k1 k2 k3 k5 newId))
    (hq : R (.ok (.ret (.ref (h.objs.size + 1))))
      ⟨(h.push (kdv_tup rest)).push (excO C h.objs.size), g, d, t, os⟩)
    (small : rest.length ≤ sizeLine) :
    codeAny (model prog w) A (.builtin newId ⟨.ref C :: rest, [(kn, kv)]⟩) R
      ⟨h, g, d, t, os⟩ := by
  have ends := F.ends
  have in1 : (Value.ref C :: bm).contains (.type B) = true := by
    rw [List.contains_cons, hT, F.hasB, Bool.or_true]
  have in2 : (Value.ref C :: bm).contains (.type "AttributeError") = false := by
    rw [List.contains_cons, hT, F.noAttr]
    rfl
  have in3 : (Value.ref C :: bm).contains (.type "NameError") = false := by
    rw [List.contains_cons, hT, F.noName]
    rfl
  refine codeAny_builtinAt F.entry ?_
  unfold Builtin.«BaseException.__new__»
  refine wpAt_bind ?_
  show wpAt _ _ _ (stack >>= _) _ _ _
  refine wpAt_bind (wpAt_stack fun p below => wpAt_of_wpAny ?_)
  wp_walk
  refine wpAt_of_wpAny ?_
  rw [F.owner]
  repeat (first
    | with_reducible refine wpAny_madeHere_exc F.canon hC ?_
    | with_reducible refine wpAny_loadPart_at hC ?_
    | (with_reducible refine wpAny_isSubtype_exc hC ?_
       first | rw [in1] | rw [in2] | rw [in3])
    | wp_step)
  show R _ _
  rw [Heap.size_push]
  exact hq
theorem kw_type_call (F : ExcBaseFacts B newId initId bmB)
    (hT : ∀ X : String, bm.contains (.type X) = bmB.contains (.type X))
    {rest : List Value} {kn : Str} {kv : Value} {fI : Addr} {Q : Fin → Shared → Prop}
    (hC : h.get? C = some
      (excClassObj nm q C N bs bm hdct sn sub ab col dd k0 k1 k2 k3 k5 newId))
    (hi : W.Looks (model prog w) h (typeLookup (.ref C) "__init__") (some (.ref fI)))
    (hb : ∀ self, W.Looks (model prog w) h (bindSpecial (.ref fI) self) (.ref fI, [self]))
    (small : rest.length ≤ sizeLine)
    (hq : codeAny (model prog w) A (.call (.ref fI) ⟨.ref (h.objs.size + 1) :: rest, [(kn, kv)]⟩)
      (fun r s' => match r with
        | .ok (.ret v) => v = .none ∧ Q (.done (.ret (.ref (h.objs.size + 1)))) s'
        | .ok _ => False
        | .error e => E e s')
      ⟨(h.push (W.kdv_tup rest)).push (excO C h.objs.size), g, d, t, os⟩) :
    wpAny (model prog w) A (Builtin.«type.__call__» ⟨.ref C :: rest, [(kn, kv)]⟩) Q E
      ⟨h, g, d, t, os⟩ := by
  repeat (first
    | with_reducible refine wpAny_loadPart_at hC ?_
    | with_reducible refine wpAny_madeBy_exc hC ?_
    | wp_step)
  refine codeAny_call_builtin_code (Code.quiet_builtin _ F.quiet) (kw_new_checked F hT hC ?_)
  refine kw_new F hT hC ?_ small
  show wpAny _ _ _ _ _ _
  have old : ∀ b o, h.get? b = some o →
      ((h.push (W.kdv_tup rest)).push (excO C h.objs.size)).get? b = some o :=
    fun b o e => Heap.get?_push_of_some _ (Heap.get?_push_of_some _ e)
  have hC2 := old _ _ hC
  have he : ((h.push (W.kdv_tup rest)).push (excO C h.objs.size)).get? (h.objs.size + 1)
      = some (excO C h.objs.size) := by heap_get
  have self1 : (Value.ref C :: bm).contains (.ref C) = true := by simp
  have lookI := hi.keeps old
  have bindI := (hb (.ref (h.objs.size + 1))).keeps old
  unfold isInstance
  repeat (first
    | with_reducible refine wpAny_loadPart_at he ?_
    | (with_reducible refine wpAny_isSubtype_exc hC2 ?_
       rw [self1])
    | wp_step)
  show wpAny _ _ (typeLookup (.ref C) _) _ _ _
  refine lookI.at ?_
  refine wpAny_holding (wpAny_bind (bindI.at ?_))
  refine wpAny_bind (wpAny_call (codeAny_mono hq fun r s' z => ?_))
  rcases r with e | (v | _ | _ | _) <;> first | exact z | exact z.elim | skip
  obtain ⟨rfl, z⟩ := z
  first
    | exact wpAny_pure (wpAny_pure z)
    | (wp_walk; exact z)
theorem kw_call (F : ExcBaseFacts B newId initId bmB)
    (hT : ∀ X : String, bm.contains (.type X) = bmB.contains (.type X))
    {rest : List Value} {kn : Str} {kv : Value} {fI : Addr}
    (hC : h.get? C = some
      (excClassObj nm q C N bs bm hdct sn sub ab col dd k0 k1 k2 k3 k5 newId))
    (hi : W.Looks (model prog w) h (typeLookup (.ref C) "__init__") (some (.ref fI)))
    (hb : ∀ self, W.Looks (model prog w) h (bindSpecial (.ref fI) self) (.ref fI, [self]))
    (small : rest.length ≤ sizeLine)
    (hq : codeAny (model prog w) (A.under (.builtin "type.__call__" ⟨.ref C :: rest, [(kn, kv)]⟩))
      (.call (.ref fI) ⟨.ref (h.objs.size + 1) :: rest, [(kn, kv)]⟩)
      (W.InitBack (h.objs.size + 1) R)
      ⟨(h.push (W.kdv_tup rest)).push (excO C h.objs.size), g, d, t, os⟩) :
    codeAny (model prog w) A (.call (.ref C) ⟨rest, [(kn, kv)]⟩) R ⟨h, g, d, t, os⟩ := by
  have f1 := tc_lookup
  have f2 := tc_bind (.ref C)
  have isT : (⟨h, g, d, t, os⟩ : Shared).TypeIs (.ref C) "type" := ⟨_, hC, rfl⟩
  refine codeAny_of_tree ?_
  show wpAny _ _ (callAny (.ref C) _) _ _ _
  repeat (any_goals (first
    | assumption
    | with_reducible refine wpAny_loadPart_at hC ?_
    | wp_step))
  refine ⟨rfl, ?_⟩
  refine codeAny_call_builtin_at (Code.quiet_builtin _ (by decide +kernel)) entry_typeCall
    (wpAny_check_type_call_sub hC (kw_type_call F hT hC hi hb small ?_))
  refine codeAny_mono hq fun r s' z => ?_
  rcases r with e | (v | _ | _ | _) <;> exact z
end
end KWX
end PySem
/-! errors of the program's own, with a field value, as values -/
namespace K1
open PySem PySem.Spec PyProof.Rows L2
abbrev Frag := PySem.W.Frag
abbrev St := L2.St
/-- what the written part says of an error's class -/
structure EC (K : Frag) (C : Addr) : Prop where
  o : OexC K C
  hg : PySem.W.findIn K (.ref C) "__getattribute__" = some (some (.builtin "BaseException.__getattribute__"))
  hk : PySem.W.findIn K (.ref C) "__getattr__" = some none
  ha : PySem.W.findIn K (.ref C) "__class__" = some (some (.builtin "object.__class__"))
  hn : PySem.W.specialIn K (.builtin "object.__class__") "__get__" = some (some (.builtin "getset_descriptor.__get__"))
  ht : PySem.W.takesIn K (.builtin "object.__class__") = some true
  hm : PySem.W.mroIn K C (.type "object") = some true
  hd : PySem.W.hasDictIn K C = true
  nv : PySem.W.findIn K (.ref C) "value" = some none
theorem EC.cls {K : Frag} {C : Addr} (T : EC K C) : (PySem.W.clsIn K C).isSome = true := by
  obtain ⟨nm, q, N, bs, bm, sn, sub, ab, col, dd, k0, k1, k2, k3, k5, hC, hbm⟩ := T.o.cls
  unfold PySem.W.clsIn
  rw [hC]
  rfl
/-- an error of the class at C stands at a, its dict (where it has one) too -/
def ErrD (H : Hp) (a C : Addr) (d : Option Addr) : Prop := H a = some (exo a C d) ∧ ∀ dx, d = some dx → ∃ fs, H dx = some (exd dx fs)
/-- an error whose field value holds v -/
def ErrAt (H : Hp) (a C : Addr) (v : V) : Prop := ∃ dx, H a = some (exo a C (some dx)) ∧ H dx = some (exd dx [(("value" : Str), v)])
theorem ErrAt.d {H : Hp} {a C : Addr} {v : V} (e : ErrAt H a C v) : ∃ d, ErrD H a C d := by
  obtain ⟨dx, e1, e2⟩ := e
  exact ⟨some dx, e1, fun dy q => by cases q; exact ⟨_, e2⟩⟩
theorem ErrAt.same {H H' : Hp} {a C : Addr} {v : V} (s : Same H H') (e : ErrAt H a C v) : ErrAt H' a C v := by
  obtain ⟨dx, e1, e2⟩ := e
  exact ⟨dx, s _ _ e1, s _ _ e2⟩
theorem ErrD.same {H H' : Hp} {a C : Addr} {d : Option Addr} (s : Same H H') (e : ErrD H a C d) : ErrD H' a C d :=
  ⟨s _ _ e.1, fun dx q => let ⟨fs, h⟩ := e.2 dx q; ⟨fs, s _ _ h⟩⟩
section
variable {X : Cx} {pins : List (Addr × Obj)} {σ : St} {H : Hp} {s : Shared}
theorem err_inst {a C : Addr} {d : Option Addr} (I : Inv X pins σ H s) (e : ErrD H a C d) : ∃ (ox : Obj) (od : Option Obj), PySem.W.InstAt s.heap a ox C od := by
  obtain ⟨t1, ho⟩ := exo_at I.hok e.1
  cases d with
  | none => exact ⟨_, none, ho, rfl, rfl, trivial⟩
  | some dx =>
    obtain ⟨fs, hd⟩ := e.2 dx rfl
    obtain ⟨mA, ⟨oD, es, ep, hoD, _⟩, _⟩ := exd_at I.hok hd
    exact ⟨_, some oD, ho, rfl, rfl, hoD⟩
/-- isinstance(error, class) -/
def rIsX (K : Frag) : List V → Hp → VK → Prop := fun xs H Q => ∃ (a C : Addr) (d : Option Addr) (c : V) (cv : Value) (b : Bool),
  xs = [.ref a, c] ∧ EC K C ∧ ErrD H a C d ∧ (∀ u, RelV c u → u = cv) ∧ PySem.W.kitOne K (.ref C) cv = some b ∧ Q (.bl b) H
theorem call_isX : CallR X (.builtin "isinstance") (rIsX X.K) := by
  intro pins s σ H xs us Q I r h
  obtain ⟨a, C, d, c, cv, b, rfl, T, e, hcv, ek, q⟩ := h
  cases r with
  | cons rx rr =>
    cases rr with
    | cons rt rr =>
      cases rr
      cases rx
      have ec := hcv _ rt
      subst ec
      obtain ⟨ox, od, J⟩ := err_inst I e
      exact PySem.W.kia_one (PySem.W.kitx_exc (ox := ox) (od := od) T.cls T.hg T.hk T.o.exC T.ha T.hn T.ht T.hm) I.kIn J ek (fun z => nomatch z) fun tk => ⟨.bl b, H, I.kept (t' := tk) fun _ _ z => z, rfl, q⟩
/-- error.value -/
def tValOf (K : Frag) (te : TE) : TE := fun σ H Q => te σ H fun x H1 => ∃ (a C : Addr) (v : V), x = .ref a ∧ EC K C ∧ ErrAt H1 a C v ∧ Q v H1
theorem pe_valOf {e : Expr} {te : TE} {pos : Pos} (he : PE X e te) (hb : attributeBase e "value" X.env (eval e X.env) = eval e X.env := by rfl) : PE X (.Attribute e "value" pos) (tValOf X.K te) := by
  refine ⟨fun pins s σ H Q I h => ?_⟩
  refine attr_of hb (thn (he.run pins s σ H _ I h) fun u s1 hh => ?_)
  obtain ⟨x, H1, I1, rx, a, C, v, ex, T, ⟨dx, e1, e2⟩, q⟩ := hh
  subst ex
  obtain rfl : u = Value.ref a := rx
  obtain ⟨t1, ho⟩ := exo_at I1.hok e1
  obtain ⟨mA, hns, hr⟩ := exd_at I1.hok e2
  obtain ⟨od, hod, hl⟩ := lookIn_ns hns
  have l : List.lookup ("value" : Str) [(("value" : Str), v)] = some v := by simp [List.lookup]
  obtain ⟨w, hw, rw'⟩ := RelO.some_of (v := v) (o := mA "value") (by rw [← l]; exact hr "value")
  have J : PySem.W.InstAt s1.heap a { cls := .ref C, dict := some dx, data := .fields #[.ref t1, .none, .none, .none, .bool false, .none] } C (some od) := ⟨ho, rfl, rfl, hod⟩
  exact PySem.HandSPX.exc_get I1.kIn J T.hg T.hk T.o.exC (PySem.W.findObj_own T.hd T.nv rfl (by rw [hl, hw])) (handed_of rw') ⟨v, H1, I1.tok _, rw', q⟩
end
/-! ### the making -/
def spInit (C : Addr) : Sp := fun vs H Q _ => ∃ (a : Addr) (v : V), vs = [.ref a, v] ∧ H a = some (exo a C none) ∧ ∀ dx, H dx = none → dx ≠ a → Q .non (upd (upd H dx (exd dx [(("value" : Str), v)])) a (exo a C (some dx)))
theorem spInit_end {C a : Addr} {v : V} {H : Hp} (n : H a = none) {Q : VK} {E : XK} (h : ∀ H', Same H H' → ErrAt H' a C v → Q .non H') : spInit C [.ref a, v] (upd H a (exo a C none)) Q E := by
  refine ⟨a, v, rfl, upd_same, fun dx hd ne => h _ (fun b o e => ?_) ⟨dx, upd_same, ?_⟩⟩
  · have hdx : H dx = none := by rw [upd_ne ne] at hd; exact hd
    rw [upd_ne (ne_of_none e n), upd_ne (ne_of_none e hdx), upd_ne (ne_of_none e n)]
    exact e
  · rw [upd_ne ne, upd_same]
/-- X(e) -/
def tMkE (C : Addr) (te : TE) : TE := fun σ H Q => te σ H fun v H1 => ∀ a H', Same H1 H' → H1 a = none → ErrAt H' a C v → Q (.ref a) H'
section
variable {X : Cx} {C fI : Addr} {k : Nat} {fd : FuncData}
/-- the value of X(..), its __init__ run -/
theorem made_end {pins : List (Addr × Obj)} {σ : St} {H1 : Hp} {hp : Heap} {g : Array GenState} {dr : Drawn} {tk : Nat} {os : OsState} {us : List Value} (I1 : Inv X pins σ H1 ⟨hp, g, dr, tk, os⟩) :
    H1 (hp.objs.size + 1) = none ∧ Inv X pins σ (upd H1 (hp.objs.size + 1) (exo (hp.objs.size + 1) C none)) ⟨(hp.push (PySem.W.kdv_tup us)).push (PySem.HandSPX.excO C hp.objs.size), g, dr, tk, os⟩ := by
  have hz : hp.objs.size ≤ hp.objs.size + 1 := Nat.le_succ _
  have hget : ((hp.push (PySem.W.kdv_tup us)).push (PySem.HandSPX.excO C hp.objs.size)).get? (hp.objs.size + 1) = some (PySem.HandSPX.excO C hp.objs.size) := by heap_get
  exact ⟨I1.hok.fresh hz, I1.laid (t' := tk) (a := hp.objs.size + 1) (o := exo (hp.objs.size + 1) C none) (h' := (hp.push (PySem.W.kdv_tup us)).push (PySem.HandSPX.excO C hp.objs.size))
    (fun b o e => Heap.get?_push_of_some _ (Heap.get?_push_of_some _ e)) hz (exo_ok hget)⟩
theorem run_mkE {pins : List (Addr × Obj)} {σ : St} {H1 : Hp} {s1 : Shared} {Q : VK} {us ds : List Value} {vs dvs : List V} {v : V} (T : EC X.K C) (iC : PySem.W.findIn X.K (.ref C) "__init__" = some (some (.ref fI))) (tI : PySem.W.typeIn X.K (.ref fI) = some (.type "function"))
    (F1 : FnOk X.prog X.w X.K X.mg X.base CX0 k fI fd ["self", "value"] (spInit C)) (hr : Room (k + 1) X.A) (hb : Binds X.K fd ["self", "value"] ds) (hd : Vals dvs ds) (I1 : Inv X pins σ H1 s1) (r1 : Vals vs us) (hv : vs ++ dvs = [v])
    (q : ∀ a H', Same H1 H' → H1 a = none → ErrAt H' a C v → Q (.ref a) H') : wpAny (model X.prog X.w) X.A (call (.ref C) us) (EP X pins σ Q) X.xe s1 := by
  obtain ⟨nm, qn, N, bs, bm, sn, sub, ab, col, dd, k0, k1, k2, k3, k5, hC, hbm⟩ := T.o.cls
  obtain ⟨hp, g, dr, tk, os⟩ := s1
  obtain ⟨hn, I2⟩ := made_end (C := C) (us := us) I1
  have hq : spInit C (.ref (hp.objs.size + 1) :: (vs ++ dvs)) (upd H1 (hp.objs.size + 1) (exo (hp.objs.size + 1) C none)) (fun v H2 => v = .non ∧ Q (.ref (hp.objs.size + 1)) H2) (fun _ _ _ => False) := by
    rw [hv]
    exact spInit_end hn fun H' sm e => ⟨rfl, q _ H' sm hn e⟩
  have r2 : Vals (V.ref (hp.objs.size + 1) :: (vs ++ dvs)) (Value.ref (hp.objs.size + 1) :: (us ++ ds)) := .cons rfl (r1.append hd)
  have hl : (Value.ref (hp.objs.size + 1) :: us ++ ds).length = (["self", "value"] : List Str).length := by
    have e := r2.length
    rw [F1.len _ _ _ _ hq] at e
    exact e.symm
  have hus : us.length ≤ sizeLine := by
    have e : us.length + ds.length = 1 := by simpa using hl
    rw [sizeLine_eq]
    omega
  refine wpAny_call (PySem.HandSPX.call_own F.excBase_ValueError (fun Y => PySem.HandSPX.refsVE_contains Y bm hbm) (I1.kIn _ _ hC) (PySem.W.looks_findIn I1.kIn iC) (fun self => PySem.W.bind_fn I1.kIn self tI) hus
    (codeAny_mono (F1.run _ X.stack _ _ ⟨Value.ref (hp.objs.size + 1) :: us, []⟩ (Value.ref (hp.objs.size + 1) :: (us ++ ds)) _ _ (fun _ _ _ => False) (hr.make C us []) (I2.env0.make C us []) (hb _ (Value.ref (hp.objs.size + 1) :: us) I2.kIn hl) r2 hq) fun r s' hq' => ?_))
  cases r with
  | error er => exact hq'.elim
  | ok fl =>
    cases fl with
    | ret u =>
      obtain ⟨v', H', I3, rv, ev, q3⟩ := I2.after hq'
      subst ev
      exact ⟨rv, V.ref (hp.objs.size + 1), H', I3, rfl, q3⟩
    | next => exact hq'.elim
    | brk => exact hq'.elim
    | cont => exact hq'.elim
theorem run_mkEK {pins : List (Addr × Obj)} {σ : St} {H1 : Hp} {s1 : Shared} {Q : VK} {u : Value} {v : V} (T : EC X.K C) (iC : PySem.W.findIn X.K (.ref C) "__init__" = some (some (.ref fI))) (tI : PySem.W.typeIn X.K (.ref fI) = some (.type "function"))
    (F1 : FnOk X.prog X.w X.K X.mg X.base CX0 k fI fd ["self", "value"] (spInit C)) (hr : Room (k + 1) X.A) (hb : ∀ (s : Shared) (x y : Value), X.K.In s.heap → BindsTo s fd ⟨[x], [(("value" : Str), y)]⟩ ((["self", "value"] : List Str).zip [x, y])) (I1 : Inv X pins σ H1 s1) (r1 : RelV v u)
    (q : ∀ a H', Same H1 H' → H1 a = none → ErrAt H' a C v → Q (.ref a) H') : wpAny (model X.prog X.w) X.A (call (.ref C) [] [(("value" : Str), u)]) (EP X pins σ Q) X.xe s1 := by
  obtain ⟨nm, qn, N, bs, bm, sn, sub, ab, col, dd, k0, k1, k2, k3, k5, hC, hbm⟩ := T.o.cls
  obtain ⟨hp, g, dr, tk, os⟩ := s1
  obtain ⟨hn, I2⟩ := made_end (C := C) (us := []) I1
  have hq : spInit C [.ref (hp.objs.size + 1), v] (upd H1 (hp.objs.size + 1) (exo (hp.objs.size + 1) C none)) (fun v H2 => v = .non ∧ Q (.ref (hp.objs.size + 1)) H2) (fun _ _ _ => False) :=
    spInit_end hn fun H' sm e => ⟨rfl, q _ H' sm hn e⟩
  have r2 : Vals [V.ref (hp.objs.size + 1), v] [Value.ref (hp.objs.size + 1), u] := .cons rfl (.cons r1 .nil)
  refine wpAny_call (PySem.KWX.kw_call F.excBase_ValueError (fun Y => PySem.HandSPX.refsVE_contains Y bm hbm) (I1.kIn _ _ hC) (PySem.W.looks_findIn I1.kIn iC) (fun self => PySem.W.bind_fn I1.kIn self tI) (Nat.zero_le _)
    (codeAny_mono (F1.run _ X.stack _ _ ⟨[Value.ref (hp.objs.size + 1)], [(("value" : Str), u)]⟩ [Value.ref (hp.objs.size + 1), u] _ _ (fun _ _ _ => False) (hr.make C [] _) (I2.env0.make C [] _) (hb _ _ _ I2.kIn) r2 hq) fun r s' hq' => ?_))
  cases r with
  | error er => exact hq'.elim
  | ok fl =>
    cases fl with
    | ret u =>
      obtain ⟨v', H', I3, rv, ev, q3⟩ := I2.after hq'
      subst ev
      exact ⟨rv, V.ref (hp.objs.size + 1), H', I3, rfl, q3⟩
    | next => exact hq'.elim
    | brk => exact hq'.elim
    | cont => exact hq'.elim
end
/-- all that the three ways of making ask of a class -/
structure Mks (X : Cx) (x : Str) (C : Addr) : Prop where
  ec : EC X.K C
  gC : X.mg x = some (.ref C)
  mks : ∃ (fI : Addr) (fd : FuncData) (k : Nat) (ds : List Value), PySem.W.findIn X.K (.ref C) "__init__" = some (some (.ref fI)) ∧ PySem.W.typeIn X.K (.ref fI) = some (.type "function") ∧ FnOk X.prog X.w X.K X.mg X.base CX0 k fI fd ["self", "value"] (spInit C) ∧ k ≤ 1 ∧
    Binds X.K fd ["self", "value"] [] ∧ Vals [V.non] ds ∧ Binds X.K fd ["self", "value"] ds ∧ ∀ (s : Shared) (x y : Value), X.K.In s.heap → BindsTo s fd ⟨[x], [(("value" : Str), y)]⟩ ((["self", "value"] : List Str).zip [x, y])
section
variable {X : Cx} {C : Addr} {x : Str} {e : Expr} {te : TE} {p pos kp : Pos}
theorem pe_mkE (T : Mks X x C) (hr : Room 2 X.A) (he : PE X e te) (hg : Gl X x := by rfl) (hdb : (x == ("__debug__" : Str)) = false := by decide) (hs : starEach [e] X.env = (false, eval e X.env) :: starEach [] X.env := by rfl)
    (hpl : (backTo pos (starEach [] X.env)).any (·.1) = false := by rfl) : PE X (.Call (.Name x p) [e] [] pos) (tMkE C te) := by
  obtain ⟨fI, fd, k, ds, iC, tI, F1, hk, b1, rd, b0, bk⟩ := T.mks
  refine ⟨fun pins s σ H Q I h => ?_⟩
  refine wpAny_Call_Name_kw (ld_glob I hg T.gC ?_ hdb)
  refine PySem.W.callWith_K (h₀ := X.base) I.ok.mod.kin T.ec.o.kC ?_ hs hpl
  rw [hs]
  refine Calls.spliced_cons (thn (he.run pins s σ H _ I h) fun u s1 hh => ?_)
  obtain ⟨v, H1, I1, r1, q⟩ := hh
  refine Calls.spliced_nil ⟨I1.kIn, ?_⟩
  exact run_mkE T.ec iC tI F1 (hr.mono (by omega)) b1 .nil I1 (.cons r1 .nil) rfl q
/-- X() -/
def tMk0 (C : Addr) : TE := fun _ H Q => ∀ a H', Same H H' → H a = none → ErrAt H' a C .non → Q (.ref a) H'
theorem pe_mk0 (T : Mks X x C) (hr : Room 2 X.A) (hg : Gl X x := by rfl) (hdb : (x == ("__debug__" : Str)) = false := by decide) : PE X (.Call (.Name x p) [] [] pos) (tMk0 C) := by
  obtain ⟨fI, fd, k, ds, iC, tI, F1, hk, b1, rd, b0, bk⟩ := T.mks
  refine ⟨fun pins s σ H Q I h => ?_⟩
  refine wpAny_Call_Name_kw (ld_glob I hg T.gC ?_ hdb)
  exact PySem.W.callWith_K0 I.kIn T.ec.o.kC (run_mkE T.ec iC tI F1 (hr.mono (by omega)) b0 rd I .nil rfl h)
/-- X(value=e) -/
theorem pe_mkEK (T : Mks X x C) (hr : Room 2 X.A) (he : PE X e te) (hg : Gl X x := by rfl) (hdb : (x == ("__debug__" : Str)) = false := by decide) (hks : (backToKw pos (keywordEach [⟨some "value", e, kp⟩] X.env)).filterMap (·.1) = [("value" : Str)] := by rfl)
    (hall : (backToKw pos (keywordEach [⟨some "value", e, kp⟩] X.env)).all (·.1.isSome) = true := by rfl) (hpl : ((backTo pos (starEach [] X.env)).any (·.1) || (backToKw pos (keywordEach [⟨some "value", e, kp⟩] X.env)).any (·.1.isNone)) = false := by rfl) :
    PE X (.Call (.Name x p) [] [⟨some "value", e, kp⟩] pos) (tMkE C te) := by
  obtain ⟨fI, fd, k, ds, iC, tI, F1, hk, b1, rd, b0, bk⟩ := T.mks
  refine ⟨fun pins s σ H Q I h => ?_⟩
  refine wpAny_Call_Name_kw (ld_glob I hg T.gC ?_ hdb)
  refine PySem.W.callWith_KW0 (h₀ := X.base) I.ok.mod.kin T.ec.o.kC hall ?_ hpl
  show wpAny _ _ (evalAll ((do let v ← eval e X.env; standAt pos; pure v) :: [])) _ _ s
  refine wpAny_evalAll_cons (wpAny_bind (thn (he.run pins s σ H _ I h) fun u s1 hh => wpAny_bind (wpAny_standAt (wpAny_pure ?_))))
  obtain ⟨v, H1, I1, r1, q⟩ := hh
  refine wpAny_evalAll_nil ⟨I1.kIn, ?_⟩
  rw [hks]
  exact run_mkEK T.ec iC tI F1 (hr.mono (by omega)) bk I1 r1 q
end
/-! ### __init__ -/
section
variable {P : Program} {w : World} {K : Frag} {mg : Str → Option Value} {base : Heap}
theorem ok_init {qual : Str} {params : Arguments} {scope : Scope} {q1 q2 q3 q4 : Pos} {dvs : List V} {kws : List (Str × V)} {f C : Addr} {fd : FuncData}
    (F : FunD K "__init__" qual params [.Assign [.Attribute (.Name "self" q1) "value" q2] (.Name "value" q3) q4] scope dvs kws f fd) (S : FnScope ["self", "value"] ["self", "value"] scope) (T : EC K C)
    (hv1 : scope.names.lookup ("self" : Str) = some .local) (hv2 : scope.names.lookup ("value" : Str) = some .local) : FnOk P w K mg base CX0 1 f fd ["self", "value"] (spInit C) := by
  refine F.ok S (fun vs H Q E h => ?_) (fun cdv A outer s H vs Q E hr h => ?_)
  · obtain ⟨a, v, rfl, _⟩ := h
    rfl
  · obtain ⟨a, v, rfl, ha, k⟩ := h
    refine ⟨_, pss_one (ps_ost (pe_var (i := 0) rfl (.inl hv1)) (pe_var (i := 1) rfl (.inl hv2))), ?_⟩
    exact ⟨v, rfl, .ref a, rfl, a, C, rfl, T.o, T.nv, .inl ⟨ha, fun dx hd ne => k dx hd ne⟩⟩
end
end K1
/-! data at any depth, with dicts by texts; what repr tells of it -/
namespace K1
open PySem PySem.Spec PyProof.Rows L2
mutual
/-- v stands for the data d -/
inductive Dq (K : Frag) (H : Hp) : V → PyData → Prop
  | non : Dq K H .non .none
  | bl (b : Bool) : Dq K H (.bl b) (.bool b)
  | int (i : Int) : Dq K H (.int i) (.int i)
  | str (x : Str) : Dq K H (.str x) (.str x)
  | lst {a : Addr} {xs : List V} {ds : List PyData} : a ≠ sysModules → SqL K H a xs → DqAll K H xs ds → Dq K H (.ref a) (.list ds)
  | tup {a : Addr} {xs : List V} {ds : List PyData} : SqT K H a xs → DqAll K H xs ds → Dq K H (.ref a) (.tuple ds)
  | dic {a : Addr} {kvs : List (Str × V)} {ds : List (PyData × PyData)} : H a = some (.dK (kvs.map fun p => ((Sum.inr p.1 : Key), p.2))) → DqKv K H kvs ds → Dq K H (.ref a) (.dict ds)
inductive DqAll (K : Frag) (H : Hp) : List V → List PyData → Prop
  | nil : DqAll K H [] []
  | cons {v : V} {vs : List V} {d : PyData} {ds : List PyData} : Dq K H v d → DqAll K H vs ds → DqAll K H (v :: vs) (d :: ds)
inductive DqKv (K : Frag) (H : Hp) : List (Str × V) → List (PyData × PyData) → Prop
  | nil : DqKv K H [] []
  | cons {x : Str} {v : V} {kvs : List (Str × V)} {d : PyData} {ds : List (PyData × PyData)} : Dq K H v d → DqKv K H kvs ds → DqKv K H ((x, v) :: kvs) ((.str x, d) :: ds)
end
mutual
theorem Dq.same {K : Frag} {H H' : Hp} (s : Same H H') : ∀ {v : V} {d : PyData}, Dq K H v d → Dq K H' v d
  | _, _, .non => .non
  | _, _, .bl b => .bl b
  | _, _, .int i => .int i
  | _, _, .str x => .str x
  | _, _, .lst n h t => .lst n (s.seq h) (DqAll.same s t)
  | _, _, .tup h t => .tup (by
      rcases h with (h | ⟨o, h⟩) | h
      · exact .inl (.inl (s _ _ h))
      · exact .inl (.inr ⟨o, s _ _ h⟩)
      · exact .inr h) (DqAll.same s t)
  | _, _, .dic h t => .dic (s _ _ h) (DqKv.same s t)
theorem DqAll.same {K : Frag} {H H' : Hp} (s : Same H H') : ∀ {vs : List V} {ds : List PyData}, DqAll K H vs ds → DqAll K H' vs ds
  | _, _, .nil => .nil
  | _, _, .cons h t => .cons (Dq.same s h) (DqAll.same s t)
theorem DqKv.same {K : Frag} {H H' : Hp} (s : Same H H') : ∀ {vs : List (Str × V)} {ds : List (PyData × PyData)}, DqKv K H vs ds → DqKv K H' vs ds
  | _, _, .nil => .nil
  | _, _, .cons h t => .cons (Dq.same s h) (DqKv.same s t)
end
section
variable {X : Cx} {pins : List (Addr × Obj)} {σ : St} {H : Hp} {s : Shared}
/-- the keys of such a dict -/
theorem keys_read {h : Heap} {P : Program} {w : World} : ∀ {es : List DictEntry} {kvs : List (Str × Value)} , Pairs (mixKind P w) es (kvs.map fun p => ((Sum.inr p.1 : Key), p.2)) → ∃ as, sysModules ∉ as ∧ ReadsAll h (es.map (·.key)) (kvs.map fun p => PyData.str p.1) as
  | [], [], _ => ⟨[], by simp, .nil⟩
  | [], _ :: _, q => by cases q
  | _ :: _, [], q => by cases q
  | e :: es, (x, u) :: kvs, q => by
    cases q with
    | cons h1 h2 h3 =>
      obtain ⟨as, n, r⟩ := keys_read (h := h) (kvs := kvs) h3
      have h1' : keyIs (Sum.inr x) e.key = true := h1
      rcases keyIs_shape h1' with ⟨i, t, z, _⟩ | ⟨y, t, z, ek⟩
      · cases z
      · cases z
        refine ⟨[] ++ as, by simpa using n, ?_⟩
        show ReadsAll h (e.key :: es.map (·.key)) (PyData.str x :: _) _
        rw [ek]
        exact .cons (.str x t) r
theorem vals_pairs {P : Program} {w : World} : ∀ {es : List DictEntry} {kvs : List (Key × Value)}, Pairs (mixKind P w) es kvs → es.map (·.val) = kvs.map (·.2)
  | [], [], _ => rfl
  | [], _ :: _, q => by cases q
  | _ :: _, [], q => by cases q
  | e :: es, kv :: kvs, q => by
    cases q with
    | cons h1 h2 h3 =>
      show e.val :: es.map (·.val) = kv.2 :: kvs.map (·.2)
      rw [h2, vals_pairs h3]
theorem kv_split : ∀ {kvs : List (Str × V)} {vs : List (Key × Value)}, KV (kvs.map fun p => ((Sum.inr p.1 : Key), p.2)) vs → ∃ ws : List (Str × Value), vs = ws.map (fun p => ((Sum.inr p.1 : Key), p.2)) ∧ ws.map (·.1) = kvs.map (·.1) ∧ Vals (kvs.map (·.2)) (ws.map (·.2))
  | [], [], _ => ⟨[], rfl, rfl, .nil⟩
  | [], _ :: _, q => by cases q
  | _ :: _, [], q => by cases q
  | (x, v) :: kvs, (k, u) :: vs, q => by
    cases q with
    | cons h t =>
      obtain ⟨ws, e1, e2, r⟩ := kv_split (kvs := kvs) t
      obtain ⟨ek, rv⟩ := h
      have ek' : (Sum.inr x : Key) = k := ek
      refine ⟨(x, u) :: ws, ?_, ?_, .cons rv r⟩
      · rw [e1, ← ek']
        rfl
      · show x :: ws.map (·.1) = x :: kvs.map (·.1)
        rw [e2]
mutual
theorem Dq.reads (I : Inv X pins σ H s) : ∀ {v : V} {d : PyData}, Dq X.K H v d → ∀ u, RelV v u → ∃ as, sysModules ∉ as ∧ Reads s.heap u d as
  | _, _, .non, _, r => by cases r; exact ⟨[], by simp, .none⟩
  | _, _, .bl b, _, r => by cases r; exact ⟨[], by simp, .bool b⟩
  | _, _, .int i, _, r => by obtain ⟨t, rfl⟩ := r; exact ⟨[], by simp, .int i t⟩
  | _, _, .str x, _, r => by obtain ⟨t, rfl⟩ := r; exact ⟨[], by simp, .str x t⟩
  | _, _, .lst n h t, _, r => by
    cases r
    obtain ⟨its, rv, ⟨o, m, ho, hc, _, hd⟩, _⟩ := I.list h
    obtain ⟨as, na, hr⟩ := DqAll.reads I t its rv
    refine ⟨_ :: as, ?_, Reads.list ho hc hd hr⟩
    simp only [List.mem_cons, not_or]
    exact ⟨Ne.symm n, na⟩
  | _, _, .tup h t, _, r => by
    cases r
    obtain ⟨its, rv, ⟨o, ho, hc, m, hd⟩, _⟩ := I.tuple h
    obtain ⟨as, na, hr⟩ := DqAll.reads I t its rv
    exact ⟨as, na, Reads.tuple ho hc hd hr⟩
  | _, _, .dic (a := a) (kvs := kvs) h t, _, r => by
    cases r
    obtain ⟨hz, hm, vs, rel, o, es, ep, ho, hx, hd, hk, hp, hnd⟩ := dk_of I.hok h
    obtain ⟨ws, e1, e2, rv⟩ := kv_split rel
    subst e1
    obtain ⟨as, na, rk⟩ := keys_read (h := s.heap) hp
    obtain ⟨bs, nb, r1, r2⟩ := DqKv.reads I t (ws.map (·.2)) rv
    have ek : (ws.map fun p => PyData.str p.1) = kvs.map fun p => PyData.str p.1 := by
      have := congrArg (List.map PyData.str) e2
      rw [List.map_map, List.map_map] at this
      exact this
    refine ⟨a :: as ++ bs, ?_, Reads.dict ho hx.1 hd ?_ ?_⟩
    · simp only [List.cons_append, List.mem_cons, List.mem_append, not_or]
      exact ⟨fun e => by rw [← e] at hm; exact absurd hm (by decide), na, nb⟩
    · rw [r1, ← ek]
      exact rk
    · rw [vals_pairs hp, List.map_map]
      exact r2
theorem DqAll.reads (I : Inv X pins σ H s) : ∀ {vs : List V} {ds : List PyData}, DqAll X.K H vs ds → ∀ us, Vals vs us → ∃ as, sysModules ∉ as ∧ ReadsAll s.heap us ds as
  | _, _, .nil, _, r => by cases r; exact ⟨[], by simp, .nil⟩
  | _, _, .cons h t, _, r => by
    cases r with
    | cons r1 r2 =>
      obtain ⟨as, na, q1⟩ := Dq.reads I h _ r1
      obtain ⟨bs, nb, q2⟩ := DqAll.reads I t _ r2
      refine ⟨as ++ bs, ?_, .cons q1 q2⟩
      simp only [List.mem_append, not_or]
      exact ⟨na, nb⟩
theorem DqKv.reads (I : Inv X pins σ H s) : ∀ {kvs : List (Str × V)} {ds : List (PyData × PyData)}, DqKv X.K H kvs ds → ∀ us, Vals (kvs.map (·.2)) us → ∃ as, sysModules ∉ as ∧ ds.map (·.1) = kvs.map (fun p => PyData.str p.1) ∧ ReadsAll s.heap us (ds.map (·.2)) as
  | _, _, .nil, _, r => by cases r; exact ⟨[], by simp, rfl, .nil⟩
  | _, _, .cons (x := x) h t, _, r => by
    cases r with
    | cons r1 r2 =>
      obtain ⟨as, na, q1⟩ := Dq.reads I h _ r1
      obtain ⟨bs, nb, e, q2⟩ := DqKv.reads I t _ r2
      refine ⟨as ++ bs, ?_, ?_, .cons q1 q2⟩
      · simp only [List.mem_append, not_or]
        exact ⟨na, nb⟩
      · simp only [List.map_cons, e]
end
/-- repr(v) -/
def rRepr (K : Frag) : List V → Hp → VK → Prop := fun xs H Q => ∃ v d, xs = [v] ∧ Dq K H v d ∧ d.showable = true ∧ d.depth ≤ 60 ∧ d.shown.length ≤ sizeLine ∧ Q (.str d.shown) H
theorem call_repr (hg : X.A.guards = some []) (hu : X.A.units + 64 < cLine) : CallR X (.builtin "repr") (rRepr X.K) := by
  intro pins s σ H xs us Q I r h
  obtain ⟨v, d, rfl, hd, hs, hdp, hz, q⟩ := h
  cases r with
  | cons rx rr =>
    cases rr
    have big : ∀ (a : Addr) (u : Value), u = Value.ref a → RelV v u → wpAny (model X.prog X.w) X.A (call (.builtin "repr") [u]) (EP X pins σ Q) X.xe s := fun a u eu ru => by
      obtain ⟨as, na, rd⟩ := Dq.reads I hd u ru
      subst eu
      exact repr_of_reads' rd hs (fun _ => na) hg (by omega) (fun _ _ e => e) (fun h' t tk hk => ⟨.str d.shown, H, I.kept (t' := tk) hk, ⟨t, rfl⟩, q⟩) hz
    cases hd with
    | non => cases rx; exact PySem.P.repr_of_none ⟨.str _, H, I.tok _, ⟨_, rfl⟩, q⟩
    | bl b =>
      cases rx
      refine PySem.P.repr_of_bool ⟨.str (PyData.shown (.bool b)), H, I.tok _, ⟨s.toks, ?_⟩, q⟩
      cases b <;> rfl
    | int i =>
      obtain ⟨t, rfl⟩ := rx
      exact PySem.P.repr_of_int (by simpa [PyData.showable] using hs) ⟨.str _, H, I.tok _, ⟨_, rfl⟩, q⟩
    | str x =>
      obtain ⟨t, rfl⟩ := rx
      exact PySem.P.repr_of_str ⟨.str _, H, I.tok _, ⟨_, rfl⟩, q⟩ hz
    | lst n h t => exact big _ _ rx rx
    | tup h t => exact big _ _ rx rx
    | dic h t => exact big _ _ rx rx
end
/-! ### how long a shown thing is -/
def LenLe (n : Nat) (ts : List Str) : Prop := ∀ t ∈ ts, t.length ≤ n
theorem textFrom_le (n : Nat) : ∀ (ts : List Str) (k : Nat) (acc : Str), LenLe n ts → (textFrom k acc ts).length ≤ acc.length + ts.length * (n + 2)
  | [], k, acc, _ => by
    show acc.length ≤ acc.length + 0 * (n + 2)
    omega
  | t :: ts, k, acc, h => by
    have h1 := h t (List.mem_cons_self ..)
    have ih := textFrom_le n ts (k + 1) (acc ++ (if k > 0 then ", " else "" : String) ++ t) fun u hu => h u (List.mem_cons_of_mem _ hu)
    show (textFrom (k + 1) (acc ++ (if k > 0 then ", " else "" : String) ++ t) ts).length ≤ _
    have e : (acc ++ (if k > 0 then ", " else "" : String) ++ t).length ≤ acc.length + 2 + t.length := by
      rw [strLen_append, strLen_append]
      have : ((if k > 0 then ", " else "" : String) : Str).length ≤ 2 := by split <;> decide
      omega
    have e2 : (t :: ts).length * (n + 2) = ts.length * (n + 2) + (n + 2) := by
      rw [List.length_cons, Nat.succ_mul]
    omega
theorem listText_le {n : Nat} {ts : List Str} (h : LenLe n ts) : (listText ts).length ≤ 2 + ts.length * (n + 2) := by
  unfold listText
  rw [strLen_append]
  have := textFrom_le n ts 0 "[" h
  have e1 : ((("[" : String) : Str)).length = 1 := rfl
  have e2 : ((("]" : String) : Str)).length = 1 := rfl
  omega
theorem joined_le (n : Nat) : ∀ ts : List Str, LenLe n ts → (Str.join ", " ts).length ≤ ts.length * (n + 2)
  | [], _ => Nat.zero_le _
  | [t], h => by
    have h1 := h t (List.mem_cons_self ..)
    show t.length ≤ 1 * (n + 2)
    omega
  | t :: u :: ts, h => by
    have h1 := h t (List.mem_cons_self ..)
    have ih := joined_le n (u :: ts) fun v hv => h v (List.mem_cons_of_mem _ hv)
    show (t ++ ", " ++ Str.join ", " (u :: ts)).length ≤ _
    rw [strLen_append, strLen_append]
    have e1 : (((", " : String) : Str)).length = 2 := rfl
    have e2 : (t :: u :: ts).length * (n + 2) = (u :: ts).length * (n + 2) + (n + 2) := by
      rw [List.length_cons, Nat.succ_mul]
    omega
theorem tupleText_le {n : Nat} {ts : List Str} (h : LenLe n ts) : (tupleText ts).length ≤ 3 + ts.length * (n + 2) := by
  unfold tupleText
  rw [strLen_append, strLen_append]
  have := joined_le n ts h
  have e1 : ((("(" : String) : Str)).length = 1 := rfl
  have e2 : ((if ts.length == 1 then ",)" else ")" : String) : Str).length ≤ 2 := by split <;> decide
  omega
theorem dictText_le {n : Nat} {ts : List Str} (h : LenLe n ts) : (dictText ts).length ≤ 2 + ts.length * (n + 2) := by
  unfold dictText
  rw [strLen_append, strLen_append]
  have := joined_le n ts h
  have e1 : ((("{" : String) : Str)).length = 1 := rfl
  have e2 : ((("}" : String) : Str)).length = 1 := rfl
  omega
end K1
/-! defs that are called where no guard of repr stands: repr of lists, tuples, dicts is what it says there -/
namespace K1
open PySem PySem.Spec PyProof.Rows L2
/-- a def's promise, kept where no guard stands -/
structure FnG (P : Program) (w : World) (K : Frag) (mg : Str → Option Value) (base : Heap) (k : Nat) (f : Addr) (fd : FuncData) (ps : List Str) (sp : Sp) : Prop where
  len : ∀ vs H Q E, sp vs H Q E → vs.length = ps.length
  run : ∀ (A : Around) (outer : List Env) (s : Shared) (H : Hp) (args : Args) (us : List Value) (vs : List V) (Q : VK) (E : XK), A.guards = some [] → Room k A → Env0 P w K mg base A outer s H → BindsTo s fd args (ps.zip us) → Vals vs us → sp vs H Q E →
    codeAny (model P w) A (.call (.ref f) args) (CR CX0 outer P w H s Q E) s
section
variable {X : Cx} {k : Nat} {f : Addr} {fd : FuncData} {ps : List Str} {sp : Sp} {x : Str} {p pos : Pos} {e : Expr} {es : List Expr} {t : TA}
theorem pe_callG (F : FnG X.prog X.w X.K X.mg X.base k f fd ps sp) (hgd : X.A.guards = some []) (hr : Room k X.A) (hg : Gl X x) (hm : X.mg x = some (.ref f)) (hk : PySem.W.keepIn X.K (.ref f) = true) (hb : L2.Binds X.K fd ps [])
    (ha : PA X (e :: es) t) (hdb : (x == ("__debug__" : Str)) = false := by decide) (he : starEach (e :: es) X.env = (false, eval e X.env) :: starEach es X.env := by rfl) (hpl : (backTo pos (starEach es X.env)).any (·.1) = false := by rfl) :
    PE X (.Call (.Name x p) (e :: es) [] pos) (tCall sp [] E0 t) := by
  constructor
  intro pins s σ H Q I h
  apply wpAny_Call_Name_kw
  apply ld_glob I hg hm _ hdb
  apply PySem.W.callWith_K (h₀ := X.base) I.ok.mod.kin hk _ he hpl
  refine thn (ha.run pos pins s σ H _ I h) ?_
  rintro us s1 ⟨vs, H1, I1, r, q⟩
  refine ⟨I1.kIn, wpAny_call ?_⟩
  have r2 : Vals (vs ++ []) (us ++ []) := r.append .nil
  have hl : (us ++ []).length = ps.length := by
    rw [← r2.length]
    exact F.len _ _ _ _ q
  refine codeAny_mono (F.run X.A X.stack s1 H1 ⟨us, []⟩ (us ++ []) (vs ++ []) Q E0 hgd hr I1.env0 (hb s1 us I1.kIn hl) r2 q) ?_
  intro r s' hq
  match r, hq with
  | .ok (.ret u), hq => exact I1.after hq
end
section
variable {P : Program} {w : World} {K : Frag} {mg : Str → Option Value} {base : Heap}
theorem fun_okG {x qual : Str} {st : Stmt} {f : Addr} {fd : FuncData} {N ps : List Str} {k : Nat} {sp : Sp} {dvs : List V} {kws : List (Str × V)} (F : FunD K x qual (defArgs st) (defBody st) (defScope st) dvs kws f fd) (S : FnScope N ps (defScope st)) (len : ∀ vs H Q E, sp vs H Q E → vs.length = ps.length)
    (hbody : ∀ (cdv : Value) (A : Around) (outer : List Env) (s : Shared) (H : Hp) (vs : List V) (Q : VK) (E : XK), (A.deeper (envOfC qual (defScope st) s.heap.objs.size f cdv)).guards = some [] → Room k (A.deeper (envOfC qual (defScope st) s.heap.objs.size f cdv)) → sp vs H Q E →
      ∃ t, PSs (cxOf CX0 P w K mg base N qual (defScope st) f cdv A outer s H E).nox (defBody st) t ∧ t { nx := fun _ H' => Q .non H', rt := Q } (start N vs) H) : FnG P w K mg base (k + 1) f fd ps sp := by
  obtain ⟨oc, od, dV, kV, doc, pm, an, cdv, ct, osl, rfl, lk, hcd, _, _⟩ := F.ex
  constructor
  · exact len
  intro A outer s H args us vs Q E hgd hr e0 hb r hsp
  have hl := len _ _ _ _ hsp
  have up : ∀ b o, base.get? b = some o → s.heap.get? b = some o := fun b o e => (e0.bs b o e).1
  have KX := e0.mod.kin.keeps up
  have lim := e0.mod.nolimit.keeps up
  apply codeAny_call_function hr.depth (KX _ _ lk) rfl S.co S.gen rfl
    (PySem.W.codeRec_of KX hcd)
  apply hb
  refine wpAny_newFunctionEnv_cells S.kind ?_ ?_
  · rintro ⟨n, v⟩ hy
    have := S.par n (List.of_mem_zip hy).1
    rcases this with q | q
    · left
      exact q
    · right
      exact ⟨q, PySem.W.cellsFrom_some _ _ _ (.inl q)⟩
  rintro env rfl s1 x
  refine ⟨lim.keeps x.toInCall.keep, codeAny_func ?_⟩
  obtain ⟨t, ht, hq⟩ := hbody cdv A outer s H vs Q E hgd (hr.deeper _) hsp
  have I := inv_start (CX := CX0) (E := E) S hr.hd e0 hl r x
  have fin : ∀ {σ' : L2.St} {H' : Hp} {v : V} {u : Value} {s' : Shared}, Inv (cxOf CX0 P w K mg base N qual (defScope st) f cdv A outer s H E) [] σ' H' s' → RelV v u → Q v H' → CE outer P w H s Q u s' := by
    intro σ' H' v u s' J rv q
    exact ⟨v, H', J.os, J.bare, J.base, J.hok, rv, q⟩
  refine wpAny_mono (ht.nox.run [] s1 (start N vs) H _ I hq) ?_ ?_
  · intro fl s' hs
    match fl, hs with
    | .ret u, ⟨v, σ', H', J, rv, q⟩ => exact fin J rv q
    | .next, ⟨σ', H', J, q⟩ => exact fin (v := V.non) (u := Value.none) J rfl q
    | .brk, ⟨_, _, _, q⟩ => exact q.elim
    | .cont, ⟨_, _, _, q⟩ => exact q.elim
  · intro e s' hs
    exact hs
end
/-! ### the law's own call -/
section
variable {P : Program} {w : World} {K : Frag} {mg mb : Str → Option Value} {k : Nat} {fa a : Addr} {fd : FuncData} {x : Str} {sp : Sp} {s1 : Shared} {vs : List Value} {ns : List Int}
theorem law_core (KX : K.In s1.heap) (hns : s1.heap.Ns mainGlobals mg) (hb : s1.heap.Ns builtinsNs mb) (hbb : ∀ x : Str, x ≠ "__name__" → mb x = bootBuiltins x) (hlim : s1.heap.NoLimit) (hg : s1.gens = #[])
    (hobj : s1.heap.get? a = some { cls := .type "list", data := .seq vs.toArray }) (hr : Room k callerA) (F : ∀ base : Heap, K.In base → base.Ns mainGlobals mg → FnG P w K mg base k fa fd [x] sp)
    (hbind : ∀ (s : Shared) (u : Value), BindsTo s fd ⟨[u], []⟩ [(x, u)]) (H : Hp) (hO : Only H) (hok : HOk P w H s1.heap) (hA : ∀ b, H b ≠ none → b = a) (hK : H a ≠ none → K.lookup a = none)
    (hsp : sp [.ref a] H (fun v _ => v = .bl true) fun _ _ _ => False) :
    codeAny (model P w) callerA (.call (.ref fa) ⟨[.ref a], []⟩) (fun r s' => r = .ok (.ret (.bool true)) ∧ OldK s1.heap s'.heap ∧ s'.os = s1.os ∧ AllBare s'.gens) s1 := by
  have dictFree : ∀ {b : Addr} {o : Obj} {es : Array DictEntry} {ep : Nat}, s1.heap.get? b = some o → o.data = .dict es ep → H b = none := by
    intro b o es ep e d
    by_cases q : H b = none
    · exact q
    · have e' := hA b q
      subst e'
      rw [hobj] at e
      cases e
      cases d
  have nsB : ∀ {b : Addr} {m : Str → Option Value}, s1.heap.Ns b m → (hidT s1.heap H).Ns b m := by
    rintro b m ⟨o, es, ep, e, d, r⟩
    exact ⟨o, es, ep, hidT_get e (dictFree e d), d, r⟩
  have kB : K.In (hidT s1.heap H) := by
    intro b o e
    refine hidT_get (KX b o e) ?_
    by_cases q : H b = none
    · exact q
    · have e' := hA b q
      subst e'
      rw [hK q] at e
      cases e
  have hM : Mod K mg (hidT s1.heap H) := by
    obtain ⟨mc, h1, h2⟩ := hlim
    exact ⟨kB, nsB hns, ⟨mb, nsB hb, hbb⟩, mc, nsB h1, h2⟩
  have e0 : Env0 P w K mg (hidT s1.heap H) callerA [] s1 H := by
    refine ⟨rfl, hM, fun b o e => of_hidT e, Nat.le_of_eq (hidT_size _ _), trivial, ?_, hok, .of_eq hg⟩
    intro b hb
    exact absurd hb (by simp [frs])
  have run := (F _ kB (nsB hns)).run callerA [] s1 H ⟨[.ref a], []⟩ [.ref a] [.ref a] _ _ rfl hr e0 (hbind s1 (.ref a)) (.cons rfl .nil) hsp
  refine codeAny_mono run ?_
  intro r s' h
  match r, h with
  | .ok (.ret u), ⟨v, H', os, bare, un, hok', rv, q⟩ =>
    have q' : v = .bl true := q
    subst q'
    have rv' : u = Value.bool true := rv
    subst rv'
    refine ⟨rfl, OldK.of_keep ?_, os, bare⟩
    intro b o e
    cases hb : H b with
    | none => exact un.keep b o e hb (by simp [frs]) (by simp)
    | some u =>
      rcases hO b with z | ⟨ob, xs, z⟩
      · rw [hb] at z
        cases z
      · have z1 := (hok b _ z).1
        have z2 := (hok' b _ (un.frzs b ob _ z)).1
        rw [e] at z1
        cases z1
        exact z2
theorem law_callG (KX : K.In s1.heap) (hns : s1.heap.Ns mainGlobals mg) (hb : s1.heap.Ns builtinsNs mb) (hbb : ∀ x : Str, x ≠ "__name__" → mb x = bootBuiltins x) (hlim : s1.heap.NoLimit) (hg : s1.gens = #[])
    (hobj : s1.heap.get? a = some { cls := .type "list", data := .seq vs.toArray }) (hi : IntsAre vs ns) (hl : ns.length ≤ sizeLine) (hr : Room k callerA) (F : ∀ base : Heap, K.In base → base.Ns mainGlobals mg → FnG P w K mg base k fa fd [x] sp)
    (hbind : ∀ (s : Shared) (u : Value), BindsTo s fd ⟨[u], []⟩ [(x, u)])
    (hsp : ∀ H : Hp, Only H → SqL K H a (ns.map V.int) → sp [.ref a] H (fun v _ => v = .bl true) fun _ _ _ => False) :
    codeAny (model P w) callerA (.call (.ref fa) ⟨[.ref a], []⟩) (fun r s' => r = .ok (.ret (.bool true)) ∧ OldK s1.heap s'.heap ∧ s'.os = s1.os ∧ AllBare s'.gens) s1 := by
  have rv := vals_ints hi
  have lenV := hi.length
  cases hk : K.lookup a with
  | some o =>
    have e := KX a o hk
    rw [hobj] at e
    cases e
    have hO : Only (fun _ => none) := fun _ => .inl rfl
    refine law_core KX hns hb hbb hlim hg hobj hr F hbind (fun _ => none) hO (fun b u z => by cases z) (fun b z => absurd rfl z) (fun z => absurd rfl z) (hsp _ hO (.inr ⟨_, vs.toArray, _, hk, rfl, rfl, rfl, ?_, by simpa using rv⟩))
    rw [List.size_toArray, lenV]
    exact hl
  | none =>
    have hat : ∀ {b u}, (if b = a then some (HO.frz { cls := .type "list", data := .seq vs.toArray } (.lst (ns.map V.int))) else none) = some u → b = a ∧ u = HO.frz { cls := .type "list", data := .seq vs.toArray } (.lst (ns.map V.int)) := by
      intro b u z
      by_cases e : b = a
      · rw [if_pos e] at z
        exact ⟨e, (Option.some.inj z).symm⟩
      · rw [if_neg e] at z
        cases z
    have hO : Only (fun b => if b = a then some (HO.frz { cls := .type "list", data := .seq vs.toArray } (.lst (ns.map V.int))) else none) := by
      intro b
      by_cases e : b = a
      · exact .inr ⟨_, _, if_pos e⟩
      · exact .inl (if_neg e)
    refine law_core KX hns hb hbb hlim hg hobj hr F hbind _ hO ?_ ?_ (fun _ => hk) (hsp _ hO (.inl (.inr ⟨_, if_pos rfl⟩)))
    · intro b u z
      obtain ⟨rfl, rfl⟩ := hat z
      exact ⟨hobj, by rw [List.length_map]; exact hl, vs, _, rv, hobj⟩
    · intro b z
      by_cases e : b = a
      · exact e
      · exact absurd (if_neg e) z
end
theorem walkG {l : PySem.W.OpenLaw} {n k : Nat} {q : Program} {loose : List Str} {XP : (Str → Option Value) → Heap → Prop} {YP : World → Heap → Prop} {d : DefRec} {K : Params → Frag} {sp : World → Sp} {x : Str}
    (hn : l.most = some n) (hn2 : n ≤ sizeLine) (hdf : d.params.defaults = []) (hr : Room k callerA) (hY : ∀ (w : World) (h : Heap), YP w h → (K w.params).In h)
    (F : ∀ (w : World) (mg : Str → Option Value) (fa : Addr) (h : Heap), (K w.params).In h → h.Ns mainGlobals mg → mg d.name = some (.ref fa) →
      ∃ fd : FuncData, (∀ (s : Shared) (u : Value), BindsTo s fd ⟨[u], []⟩ [(x, u)]) ∧ ∀ base : Heap, (K w.params).In base → base.Ns mainGlobals mg → FnG l.prog w (K w.params) mg base k fa fd [x] (sp w))
    (hsp : ∀ (w : World) (H : Hp) (a : Addr) (ns : List Int), ns.length ≤ n → Only H → SqL (K w.params) H a (ns.map V.int) → sp w [.ref a] H (fun v _ => v = .bl true) fun _ _ _ => False) :
    PySem.W.WalkO q loose XP YP l.row.toRowW d [] (fun f vs => PySem.call f vs) := by
  apply Att.attach_call hn hdf
  intro w s0 s1 mg mb fa o pm cd doc a vs ns G Y ho hd hcd hmg hobj hints hlen hg
  obtain ⟨fd, hb, hF⟩ := F w mg fa _ (hY w _ Y) G.T.g hmg
  exact law_callG (hY w _ Y) G.T.g G.T.b G.T.builtins G.T.nolimit hg hobj hints (Nat.le_trans hlen hn2) hr hF hb (fun H hO hS => hsp w H a ns hlen hO hS)
end K1
/-! the head's facts of errors' classes -/
namespace K1
open PySem PySem.Spec PyProof.Rows L2 He
def clsB (K : Frag) (C : Addr) : Bool := match K.lookup C with
  | some ⟨.type "type", _, .cls cd, sl⟩ => (match cd.mro, sl.toList with
    | .ref C' :: bm, [_, _, _, _, some (.builtin n), _] => decide (C' = C) && (decide (n = "ValueError.__new__") && (!cd.hasDel && (cd.hasDict && PySem.HandSPX.refsVE bm)))
    | _, _ => false)
  | _ => false
theorem clsB_ok {K : Frag} {C : Addr} (q : clsB K C = true) : ∃ nm qn N bs bm sn sub ab col dd k0 k1 k2 k3 k5, K.lookup C = some (excClassObj nm qn C N bs bm true sn sub ab col dd k0 k1 k2 k3 k5 "ValueError.__new__") ∧ PySem.HandSPX.refsVE bm = true := by
  unfold clsB at q
  split at q
  · rename_i dd cd sl ho
    split at q
    · rename_i C' bm k0 k1 k2 k3 n k5 hm hs
      obtain ⟨q1, q⟩ := ba q
      obtain ⟨q2, q⟩ := ba q
      obtain ⟨q3, q⟩ := ba q
      obtain ⟨q4, q5⟩ := ba q
      have e1 := of_decide_eq_true q1
      have e2 := of_decide_eq_true q2
      subst e1
      subst e2
      obtain ⟨nm, bs, mro, ns, qn, hd, sn, sub, ab, col, del⟩ := cd
      dsimp only at hm q3 q4
      subst hm
      subst q4
      have e3 : del = false := by simpa using q3
      subst e3
      have e4 : sl = #[k0, k1, k2, k3, some (.builtin "ValueError.__new__"), k5] := by
        obtain ⟨l⟩ := sl
        simp only at hs
        rw [hs]
      subst e4
      exact ⟨nm, qn, ns, bs, bm, sn, sub, ab, col, dd, k0, k1, k2, k3, k5, ho, q5⟩
    · cases q
  · cases q
def eqB (a b : Option Bool) : Bool := decide (a = b)
def eqV (a b : Option Value) : Bool := decide (a = b)
/-- a class of errors, by its global name -/
def errB (K : Frag) (x : Str) : Bool := clsB K (ga K x) && (PySem.W.keepIn K (.ref (ga K x)) && (eqB (PySem.W.subIn K (.ref (ga K x)) (.type "BaseException")) (some true) && (eqV (PySem.W.typeIn K (.ref (ga K x))) (some (.type "type")) &&
  (eqO (PySem.W.findIn K (.ref (ga K x)) "__setattr__") (some (some (.builtin "object.__setattr__"))) && (eqO (PySem.W.findIn K (.ref (ga K x)) "__getattribute__") (some (some (.builtin "BaseException.__getattribute__"))) &&
  (eqO (PySem.W.findIn K (.ref (ga K x)) "__getattr__") (some none) && (eqO (PySem.W.findIn K (.ref (ga K x)) "__class__") (some (some (.builtin "object.__class__"))) && (eqB (PySem.W.mroIn K (ga K x) (.type "object")) (some true) &&
  (PySem.W.hasDictIn K (ga K x) && (eqO (PySem.W.findIn K (.ref (ga K x)) "value") (some none) && (eqO (PySem.W.specialIn K (.builtin "object.__class__") "__get__") (some (some (.builtin "getset_descriptor.__get__"))) && eqB (PySem.W.takesIn K (.builtin "object.__class__")) (some true))))))))))))
theorem errB_ok {K : Frag} {x : Str} (q : errB K x = true) : EC K (ga K x) := by
  obtain ⟨q1, q⟩ := ba q
  obtain ⟨q2, q⟩ := ba q
  obtain ⟨q3, q⟩ := ba q
  obtain ⟨q4, q⟩ := ba q
  obtain ⟨q5, q⟩ := ba q
  obtain ⟨q6, q⟩ := ba q
  obtain ⟨q7, q⟩ := ba q
  obtain ⟨q8, q⟩ := ba q
  obtain ⟨q9, q⟩ := ba q
  obtain ⟨q10, q⟩ := ba q
  obtain ⟨q11, q⟩ := ba q
  obtain ⟨q12, q13⟩ := ba q
  exact ⟨⟨clsB_ok q1, eqO_ok q5, of_decide_eq_true q3, of_decide_eq_true q4, q2⟩, eqO_ok q6, eqO_ok q7, eqO_ok q8, eqO_ok q12, of_decide_eq_true q13, of_decide_eq_true q9, q10, eqO_ok q11⟩
def initB (K : Frag) (x : Str) : Bool := eqO (PySem.W.findIn K (.ref (ga K x)) "__init__") (some (some (.ref (ma K (ga K x) "__init__")))) && eqV (PySem.W.typeIn K (.ref (ma K (ga K x) "__init__"))) (some (.type "function"))
def bareB (K : Frag) (x : Str) : Bool := PySem.W.excIn K (ga K x) veBase "ValueError.__new__"
/-- isinstance of the classes, one of another -/
def kitB (K : Frag) (xs : List Str) (top : Str) : Bool := (xs.all fun x => xs.all fun y => eqB (PySem.W.kitOne K (.ref (ga K x)) (.ref (ga K y))) (some (decide (x = y)))) && ((top :: xs).all fun x =>
  eqB (PySem.W.kitOne K (.ref (ga K x)) (.ref (ga K top))) (some true) && eqB (PySem.W.kitOne K (.ref (ga K x)) (.type "ValueError")) (some true)) && (xs.all fun y => eqB (PySem.W.kitOne K (.ref (ga K top)) (.ref (ga K y))) (some false))
/-- errs: with own __init__; bares: without; top: the base -/
def moreB (errs bares : List Str) (top : Str) (K : Frag) : Bool := (errs.all fun x => errB K x && initB K x) && (((top :: bares).all fun x => errB K x && bareB K x) && kitB K (errs ++ bares) top)
abbrev AlX : Type := AlD × Bool
/-- the head's Hook -/
def hookX (n : Nat) (fa : List Fa) (fn : List DefD) (more : Frag → Bool) : PySem.W.Hook where
  α := AlX
  obs := fun s => (obsD fa fn (frG s.heap.get? (asD s.heap.get? n)), more (frG s.heap.get? (asD s.heap.get? n)))
  val := fun _ => (valD fn, true)
  says := fun _ h => ∃ K : Frag, K.In h ∧ SaysD fa fn K ∧ more K = true
  of := fun _ _ e => ⟨_, frG_in, congrArg Prod.fst e, congrArg Prod.snd e⟩
  keeps := fun _ _ _ ⟨K, hK, c⟩ k => ⟨K, PySem.W.Frag.In.keeps hK k, c⟩
def obX (n : Nat) (fa : List Fa) (fn : List DefD) (more : Frag → Bool) (s : PySem.W.SharedT) : AlX := (obsD fa fn (frG (HandSHeadRun.getT s) (asD (HandSHeadRun.getT s) n)), more (frG (HandSHeadRun.getT s) (asD (HandSHeadRun.getT s) n)))
theorem obX_eq {n : Nat} {fa : List Fa} {fn : List DefD} {more : Frag → Bool} (s : PySem.W.SharedT) : obX n fa fn more s = (hookX n fa fn more).obs s.abs := by
  have e : HandSHeadRun.getT s = s.abs.heap.get? := funext (HandSHeadRun.getT_eq s)
  unfold obX
  rw [e]
  rfl
/-- a law whose def is promised where no guard stands, over such a head -/
theorem walkX {l : PySem.W.OpenLaw} {n k : Nat} {q : Program} {loose : List Str} {XP : (Str → Option Value) → Heap → Prop} {YP : World → Heap → Prop} {d : DefRec} {x : Str}
    (hn : l.most = some n) (hn2 : n ≤ sizeLine) (hdf : d.params.defaults = []) (hr : Room k callerA)
    (F : ∀ (w : World) (mg : Str → Option Value) (fa : Addr) (h : Heap), YP w h → h.Ns mainGlobals mg → mg d.name = some (.ref fa) →
      ∃ (K : Frag) (fd : FuncData) (sp : Sp), K.In h ∧ (∀ (s : Shared) (u : Value), BindsTo s fd ⟨[u], []⟩ [(x, u)]) ∧
        (∀ (H : Hp) (a : Addr) (ns : List Int), ns.length ≤ n → Only H → SqL K H a (ns.map V.int) → sp [.ref a] H (fun v _ => v = .bl true) fun _ _ _ => False) ∧
        ∀ base : Heap, K.In base → base.Ns mainGlobals mg → FnG l.prog w K mg base k fa fd [x] sp) :
    PySem.W.WalkO q loose XP YP l.row.toRowW d [] (fun f vs => PySem.call f vs) := by
  apply Att.attach_call hn hdf
  intro w s0 s1 mg mb fa o pm cd doc a vs ns G Y ho hd hcd hmg hobj hints hlen hg
  obtain ⟨K, fd, sp, KX, hb, hsp, hF⟩ := F w mg fa _ Y G.T.g hmg
  exact law_callG KX G.T.g G.T.b G.T.builtins G.T.nolimit hg hobj hints (Nat.le_trans hlen hn2) hr hF hb (fun H hO hS => hsp H a ns hlen hO hS)
end K1
/-! the text of the errors and of the law, by places -/
namespace K1
open PySem PySem.Spec PyProof.Rows L2 He
def topS (i : Nat) : Stmt := PySem.Challenge.pw_oddlamps_k01_errors_made.main.body.getD i (.Pass ⟨0, 0, 0, 0⟩)
abbrev s_purse : Stmt := topS 32
abbrev s_mixed : Stmt := topS 33
abbrev s_draw : Stmt := topS 34
abbrev s_purses : Stmt := topS 35
abbrev s_one : Stmt := topS 36
abbrev s_word : Stmt := topS 37
abbrev s_first : Stmt := topS 38
abbrev s_called : Stmt := topS 39
abbrev s_bare : Stmt := topS 40
abbrev s_code : Stmt := topS 41
abbrev s_iserr : Stmt := topS 42
abbrev s_right : Stmt := topS 43
abbrev s_law : Stmt := topS 44
theorem sc_purse : FnScope ["_law_script", "_law_at", "_law_seed"] ["_law_script", "_law_at"] (defScope s_purse) := ⟨rfl, rfl, rfl, by decide +kernel, rfl, by decide +kernel, by decide +kernel⟩
theorem sc_mixed : FnScope ["_law_seed", "_law_spin", "_law_at", "_law_mixed_here"] ["_law_seed", "_law_spin", "_law_at"] (defScope s_mixed) := ⟨rfl, rfl, rfl, by decide +kernel, rfl, by decide +kernel, by decide +kernel⟩
theorem sc_draw : FnScope ["_law_purse_here", "_law_many", "_law_drawn", "_law_found", "_law_piece"] ["_law_purse_here", "_law_many"] (defScope s_draw) := ⟨rfl, rfl, rfl, by decide +kernel, rfl, by decide +kernel, by decide +kernel⟩
theorem sc_purses : FnScope ["_law_script", "_law_few", "_law_at"] ["_law_script", "_law_few"] (defScope s_purses) := ⟨rfl, rfl, rfl, by decide +kernel, rfl, by decide +kernel, by decide +kernel⟩
theorem sc_one : FnScope ["_law_purse_here", "_law_some"] ["_law_purse_here", "_law_some"] (defScope s_one) := ⟨rfl, rfl, rfl, by decide +kernel, rfl, by decide +kernel, by decide +kernel⟩
theorem sc_word : FnScope ["_law_purse_here", "_law_size", "_law_spin"] ["_law_purse_here"] (defScope s_word) := ⟨rfl, rfl, rfl, by decide +kernel, rfl, by decide +kernel, by decide +kernel⟩
theorem sc_first : FnScope ["_law_thing", "_law_found"] ["_law_thing"] (defScope s_first) := ⟨rfl, rfl, rfl, by decide +kernel, rfl, by decide +kernel, by decide +kernel⟩
theorem sc_called : FnScope ["_law_thing", "_law_found"] ["_law_thing"] (defScope s_called) := ⟨rfl, rfl, rfl, by decide +kernel, rfl, by decide +kernel, by decide +kernel⟩
theorem sc_bare : FnScope ["_law_found"] [] (defScope s_bare) := ⟨rfl, rfl, rfl, by decide +kernel, rfl, by decide +kernel, by decide +kernel⟩
theorem sc_code : FnScope ["_law_error", "_law_found", "_law_at"] ["_law_error"] (defScope s_code) := ⟨rfl, rfl, rfl, by decide +kernel, rfl, by decide +kernel, by decide +kernel⟩
theorem sc_iserr : FnScope ["_law_error"] ["_law_error"] (defScope s_iserr) := ⟨rfl, rfl, rfl, by decide +kernel, rfl, by decide +kernel, by decide +kernel⟩
theorem sc_right : FnScope ["_law_some", "_law_noted", "_law_error", "_law_at"] ["_law_some", "_law_noted"] (defScope s_right) := ⟨rfl, rfl, rfl, by decide +kernel, rfl, by decide +kernel, by decide +kernel⟩
theorem sc_law : FnScope ["_law_script", "_law_purse_here", "_law_word_here", "_law_plain", "_law_thing", "_law_noted", "_law_some", "_law_called_here", "_law_later", "_law_rest", "_law_error"] ["_law_script"] (defScope s_law) := ⟨rfl, rfl, rfl, by decide +kernel, rfl, by decide +kernel, by decide +kernel⟩
/-- the errors that hold a value -/
def errs : List Str := ["InvalidLamp", "InvalidLamps", "InvalidTies", "InvalidWishes", "InvalidNet", "InvalidMap", "InvalidSetting", "InvalidRoad", "InvalidPiece", "InvalidWork", "InvalidPoints", "InvalidHeights", "InvalidCount", "InvalidForm", "InvalidShow", "InvalidWeights", "InvalidChange", "InvalidChanges", "InvalidHall", "InvalidSpot", "InvalidScript", "InvalidText", "InvalidLog", "Unlike", "Unpaired", "Apart", "Refused"]
def bares : List Str := ["NothingToUndo", "NothingToRedo"]
def dfn (x : Str) (st : Stmt) : DefD := ⟨(x, none), x, x, defArgs st, defBody st, defScope st, [], []⟩
def dInit (i : Nat) (x q : Str) : DefD := ⟨(x, some "__init__"), "__init__", q, defArgs (inClass (topS (i + 2)) 0), defBody (inClass (topS (i + 2)) 0), defScope (inClass (topS (i + 2)) 0), [.non], []⟩
def fns : List DefD := [dfn "_law_purse" s_purse, dfn "_law_mixed" s_mixed, dfn "_law_draw" s_draw, dfn "_law_purses" s_purses, dfn "_law_one_of" s_one, dfn "_law_word" s_word, dfn "_law_first" s_first, dfn "_law_called" s_called, dfn "_law_bare" s_bare, dfn "_law_code" s_code, dfn "_law_is_error" s_iserr, dfn "_law_right" s_right, dfn "law" s_law]
def inits : List DefD := [dInit 0 "InvalidLamp" "InvalidLamp.__init__",
  dInit 1 "InvalidLamps" "InvalidLamps.__init__",
  dInit 2 "InvalidTies" "InvalidTies.__init__",
  dInit 3 "InvalidWishes" "InvalidWishes.__init__",
  dInit 4 "InvalidNet" "InvalidNet.__init__",
  dInit 5 "InvalidMap" "InvalidMap.__init__",
  dInit 6 "InvalidSetting" "InvalidSetting.__init__",
  dInit 7 "InvalidRoad" "InvalidRoad.__init__",
  dInit 8 "InvalidPiece" "InvalidPiece.__init__",
  dInit 9 "InvalidWork" "InvalidWork.__init__",
  dInit 10 "InvalidPoints" "InvalidPoints.__init__",
  dInit 11 "InvalidHeights" "InvalidHeights.__init__",
  dInit 12 "InvalidCount" "InvalidCount.__init__",
  dInit 13 "InvalidForm" "InvalidForm.__init__",
  dInit 14 "InvalidShow" "InvalidShow.__init__",
  dInit 15 "InvalidWeights" "InvalidWeights.__init__",
  dInit 16 "InvalidChange" "InvalidChange.__init__",
  dInit 17 "InvalidChanges" "InvalidChanges.__init__",
  dInit 18 "InvalidHall" "InvalidHall.__init__",
  dInit 19 "InvalidSpot" "InvalidSpot.__init__",
  dInit 20 "InvalidScript" "InvalidScript.__init__",
  dInit 21 "InvalidText" "InvalidText.__init__",
  dInit 22 "InvalidLog" "InvalidLog.__init__",
  dInit 23 "Unlike" "Unlike.__init__",
  dInit 24 "Unpaired" "Unpaired.__init__",
  dInit 25 "Apart" "Apart.__init__",
  dInit 26 "Refused" "Refused.__init__"]
def fas : List Fa := [.glo "InvalidLamp", .glo "InvalidLamps", .glo "InvalidTies", .glo "InvalidWishes", .glo "InvalidNet", .glo "InvalidMap", .glo "InvalidSetting", .glo "InvalidRoad", .glo "InvalidPiece", .glo "InvalidWork", .glo "InvalidPoints", .glo "InvalidHeights", .glo "InvalidCount", .glo "InvalidForm", .glo "InvalidShow", .glo "InvalidWeights", .glo "InvalidChange", .glo "InvalidChanges", .glo "InvalidHall", .glo "InvalidSpot", .glo "InvalidScript", .glo "InvalidText", .glo "InvalidLog", .glo "Unlike", .glo "Unpaired", .glo "Apart", .glo "Refused", .glo "NothingToUndo", .glo "NothingToRedo", .glo "LampError", .glo "_law_purse", .glo "_law_mixed", .glo "_law_draw", .glo "_law_purses", .glo "_law_one_of", .glo "_law_word", .glo "_law_first", .glo "_law_called", .glo "_law_bare", .glo "_law_code", .glo "_law_is_error", .glo "_law_right", .glo "law", .free "sum", .free "int", .free "max", .free "min", .free "len", .free "range", .free "isinstance", .free "repr", .free "list", .free "dict", .free "tuple", .free "all", .free "ValueError"]
abbrev moreK : Frag → Bool := moreB errs bares "LampError"
abbrev hk : PySem.W.Hook := hookX 5 fas (fns ++ inits) moreK
def ob (s : PySem.W.SharedT) : AlX := obX 5 fas (fns ++ inits) moreK s
theorem ob_eq (s : PySem.W.SharedT) : ob s = hk.obs s.abs := obX_eq s
def loose1 : List Str := ["LampError", "InvalidLamp", "InvalidLamps", "InvalidTies", "InvalidWishes", "InvalidNet", "InvalidMap", "InvalidSetting", "InvalidRoad", "InvalidPiece", "InvalidWork", "InvalidPoints", "InvalidHeights", "InvalidCount", "InvalidForm", "InvalidShow", "InvalidWeights", "InvalidChange", "InvalidChanges", "InvalidHall", "InvalidSpot", "InvalidScript"]
def loose2 : List Str := ["InvalidText", "InvalidLog", "Unlike", "Unpaired", "Apart", "Refused", "NothingToUndo", "NothingToRedo", "_law_purse", "_law_mixed", "_law_draw", "_law_purses", "_law_one_of", "_law_word", "_law_first", "_law_called", "_law_bare", "_law_code", "_law_is_error", "_law_right"]
def looseN : List Str := loose1 ++ loose2
abbrev RR : PySem.W.OpenRow := PySem.W.OpenLaw.row PySem.Challenge.rw_oddlamps_k01_errors_made
end K1
namespace K1
open PySem PySem.Spec PyProof.Rows L2 He
theorem run (w : World) : HandSHeadRun.RunEq RR (PySem.W.view RR.prog [44]) hk ob 9000 looseN w := by
  intro os
  kernel_rfl
end K1
/-! the classes of the errors, made -/
namespace K1
open PySem PySem.Spec PyProof.Rows L2 He
def iA (p1 p2 : Pos) (e : Expr) : Arguments := { posonlyargs := [], args := [{ arg := "self", annotation := none, pos := p1 }, { arg := "value", annotation := none, pos := p2 }], vararg := none, kwonlyargs := [], kw_defaults := [], kwarg := none, defaults := [e] }
def iS : Scope := { kind := .function, names := [(("self" : Str), NameKind.local), (("value" : Str), NameKind.local)], isGenerator := false, isCoroutine := false, more := [] }
def iB (q1 q2 q3 q4 : Pos) : List Stmt := [.Assign [.Attribute (.Name "self" q1) "value" q2] (.Name "value" q3) q4]
def InitText (st : Stmt) : Prop := ∃ p1 p2 e q1 q2 q3 q4, defArgs st = iA p1 p2 e ∧ defBody st = iB q1 q2 q3 q4 ∧ defScope st = iS
theorem it0 : InitText (inClass (topS 2) 0) := ⟨_, _, _, _, _, _, _, rfl, rfl, rfl⟩
theorem it1 : InitText (inClass (topS 3) 0) := ⟨_, _, _, _, _, _, _, rfl, rfl, rfl⟩
theorem it2 : InitText (inClass (topS 4) 0) := ⟨_, _, _, _, _, _, _, rfl, rfl, rfl⟩
theorem it3 : InitText (inClass (topS 5) 0) := ⟨_, _, _, _, _, _, _, rfl, rfl, rfl⟩
theorem it4 : InitText (inClass (topS 6) 0) := ⟨_, _, _, _, _, _, _, rfl, rfl, rfl⟩
theorem it5 : InitText (inClass (topS 7) 0) := ⟨_, _, _, _, _, _, _, rfl, rfl, rfl⟩
theorem it6 : InitText (inClass (topS 8) 0) := ⟨_, _, _, _, _, _, _, rfl, rfl, rfl⟩
theorem it7 : InitText (inClass (topS 9) 0) := ⟨_, _, _, _, _, _, _, rfl, rfl, rfl⟩
theorem it8 : InitText (inClass (topS 10) 0) := ⟨_, _, _, _, _, _, _, rfl, rfl, rfl⟩
theorem it9 : InitText (inClass (topS 11) 0) := ⟨_, _, _, _, _, _, _, rfl, rfl, rfl⟩
theorem it10 : InitText (inClass (topS 12) 0) := ⟨_, _, _, _, _, _, _, rfl, rfl, rfl⟩
theorem it11 : InitText (inClass (topS 13) 0) := ⟨_, _, _, _, _, _, _, rfl, rfl, rfl⟩
theorem it12 : InitText (inClass (topS 14) 0) := ⟨_, _, _, _, _, _, _, rfl, rfl, rfl⟩
theorem it13 : InitText (inClass (topS 15) 0) := ⟨_, _, _, _, _, _, _, rfl, rfl, rfl⟩
theorem it14 : InitText (inClass (topS 16) 0) := ⟨_, _, _, _, _, _, _, rfl, rfl, rfl⟩
theorem it15 : InitText (inClass (topS 17) 0) := ⟨_, _, _, _, _, _, _, rfl, rfl, rfl⟩
theorem it16 : InitText (inClass (topS 18) 0) := ⟨_, _, _, _, _, _, _, rfl, rfl, rfl⟩
theorem it17 : InitText (inClass (topS 19) 0) := ⟨_, _, _, _, _, _, _, rfl, rfl, rfl⟩
theorem it18 : InitText (inClass (topS 20) 0) := ⟨_, _, _, _, _, _, _, rfl, rfl, rfl⟩
theorem it19 : InitText (inClass (topS 21) 0) := ⟨_, _, _, _, _, _, _, rfl, rfl, rfl⟩
theorem it20 : InitText (inClass (topS 22) 0) := ⟨_, _, _, _, _, _, _, rfl, rfl, rfl⟩
theorem it21 : InitText (inClass (topS 23) 0) := ⟨_, _, _, _, _, _, _, rfl, rfl, rfl⟩
theorem it22 : InitText (inClass (topS 24) 0) := ⟨_, _, _, _, _, _, _, rfl, rfl, rfl⟩
theorem it23 : InitText (inClass (topS 25) 0) := ⟨_, _, _, _, _, _, _, rfl, rfl, rfl⟩
theorem it24 : InitText (inClass (topS 26) 0) := ⟨_, _, _, _, _, _, _, rfl, rfl, rfl⟩
theorem it25 : InitText (inClass (topS 27) 0) := ⟨_, _, _, _, _, _, _, rfl, rfl, rfl⟩
theorem it26 : InitText (inClass (topS 28) 0) := ⟨_, _, _, _, _, _, _, rfl, rfl, rfl⟩
theorem its : ∀ (i : Nat), i < 27 → InitText (inClass (topS (i + 2)) 0)
  | 0, _ => it0
  | 1, _ => it1
  | 2, _ => it2
  | 3, _ => it3
  | 4, _ => it4
  | 5, _ => it5
  | 6, _ => it6
  | 7, _ => it7
  | 8, _ => it8
  | 9, _ => it9
  | 10, _ => it10
  | 11, _ => it11
  | 12, _ => it12
  | 13, _ => it13
  | 14, _ => it14
  | 15, _ => it15
  | 16, _ => it16
  | 17, _ => it17
  | 18, _ => it18
  | 19, _ => it19
  | 20, _ => it20
  | 21, _ => it21
  | 22, _ => it22
  | 23, _ => it23
  | 24, _ => it24
  | 25, _ => it25
  | 26, _ => it26
  | n + 27, h => absurd h (by omega)
theorem sc_iS : FnScope ["self", "value"] ["self", "value"] iS := ⟨rfl, rfl, rfl, by decide +kernel, rfl, by decide +kernel, by decide +kernel⟩
abbrev lampE : Str := "LampError"
abbrev allErrs : List Str := errs ++ bares
/-- what the top has written of the errors -/
structure TX (K : Frag) (mg : Str → Option Value) : Prop where
  g : ∀ x ∈ lampE :: allErrs, mg x = some (.ref (ga K x))
  ec : ∀ x ∈ lampE :: allErrs, EC K (ga K x)
  bare : ∀ x ∈ lampE :: bares, PySem.W.excIn K (ga K x) veBase "ValueError.__new__" = true
  kit1 : ∀ x ∈ allErrs, ∀ y ∈ allErrs, PySem.W.kitOne K (.ref (ga K x)) (.ref (ga K y)) = some (decide (x = y))
  kit2 : ∀ x ∈ lampE :: allErrs, PySem.W.kitOne K (.ref (ga K x)) (.ref (ga K lampE)) = some true ∧ PySem.W.kitOne K (.ref (ga K x)) (.type "ValueError") = some true
  kit3 : ∀ y ∈ allErrs, PySem.W.kitOne K (.ref (ga K lampE)) (.ref (ga K y)) = some false
  ini : ∀ x ∈ errs, PySem.W.findIn K (.ref (ga K x)) "__init__" = some (some (.ref (ma K (ga K x) "__init__"))) ∧ PySem.W.typeIn K (.ref (ma K (ga K x) "__init__")) = some (.type "function")
  fdi : ∀ x ∈ errs, ∃ (i : Nat) (qual : Str) (fd : FuncData), i < 27 ∧ FunD K "__init__" qual (defArgs (inClass (topS (i + 2)) 0)) (defBody (inClass (topS (i + 2)) 0)) (defScope (inClass (topS (i + 2)) 0)) [.non] [] (ma K (ga K x) "__init__") fd
theorem allB {α : Type} {l : List α} {p : α → Bool} (h : l.all p = true) : ∀ x ∈ l, p x = true := List.all_eq_true.mp h
theorem mks {X : Cx} (T : TX X.K X.mg) {x : Str} (h : x ∈ errs) : Mks X x (ga X.K x) := by
  have h1 : x ∈ lampE :: allErrs := List.mem_cons_of_mem _ (List.mem_append_left _ h)
  have E := T.ec x h1
  obtain ⟨iC, tI⟩ := T.ini x h
  obtain ⟨i, qual, fd, hi, F⟩ := T.fdi x h
  obtain ⟨p1, p2, e, q1, q2, q3, q4, eA, eB, eS⟩ := its i hi
  rw [eA, eB, eS] at F
  have b2 := FunD.binds1 (ps := ["self", "value"]) F 2 1 (by simp) rfl fun T kV doc pm an cdv ct us its hu hi => match us, its, hu, hi with
    | [u1, u2], [d], _, _ => ⟨_, by with_unfolding_all rfl, by with_unfolding_all rfl⟩
  have b1 := FunD.binds1 (ps := ["self", "value"]) F 1 0 (by simp) rfl fun T kV doc pm an cdv ct us its hu hi => match us, its, hu, hi with
    | [u1], [d], _, _ => ⟨_, by with_unfolding_all rfl, by with_unfolding_all rfl⟩
  have bk := FunD.kbindsD (ps := ["self", "value"]) F 1 ["value"] (fun vs _ zs => vs ++ zs) (by simp) (fun r1 _ r3 => r1.append r3) fun T kV doc pm an cdv ct us its ws hu hi hw => match us, its, ws, hu, hi, hw with
    | [u1], [d], [w1], _, _, _ => ⟨_, by with_unfolding_all rfl, by with_unfolding_all rfl⟩
  obtain ⟨ds2, r2, B2⟩ := b2
  obtain ⟨ds1, r1, B1⟩ := b1
  obtain ⟨its, BK⟩ := bk
  cases r2
  refine ⟨E, T.g x h1, _, fd, 1, ds1, iC, tI, ok_init F sc_iS E rfl rfl, Nat.le_refl _, B2, r1, B1, fun s x y X' => ?_⟩
  exact BK.to s [x] [y] X' rfl rfl
/-- X() of a class without own __init__ -/
def tMkN (C : Addr) : TE := fun _ H Q => ∀ a H', Same H H' → H a = none → ErrD H' a C none → Q (.ref a) H'
theorem pe_mkN {X : Cx} (T : TX X.K X.mg) {x : Str} (h : x ∈ lampE :: bares) {p pos : Pos} (hg : Gl X x := by rfl) (hdb : (x == ("__debug__" : Str)) = false := by decide) : PE X (.Call (.Name x p) [] [] pos) (tMkN (ga X.K x)) := by
  have h1 : x ∈ lampE :: allErrs := by
    rcases List.mem_cons.mp h with e | h
    · exact List.mem_cons.mpr (.inl e)
    · exact List.mem_cons_of_mem _ (List.mem_append_right _ h)
  refine ⟨fun pins s σ H Q I h2 => ?_⟩
  refine wpAny_Call_Name_kw (ld_glob I hg (T.g x h1) ?_ hdb)
  refine PySem.W.callWith_K0 I.kIn (T.ec x h1).o.kC ?_
  obtain ⟨bm, N, nm, qn, bs, hdct, sn, sub, ab, col, dd, k0, k1, k2, k3, k5, mN, hC, hN, hni, tl⟩ := exc_obj I.kIn (T.bare x h)
  refine wpAny_call_exc_subT PySem.F.excBase_ValueError tl hC hN hni (fun h' a hm => ?_) (Nat.zero_le _)
  have hn : H a = none := I.hok.gone hm.new
  obtain ⟨t, ht, _, _⟩ := hm.there
  refine ⟨.ref a, upd H a (exo a (ga X.K x) none), I.laidN hm.keeps hm.new hn (exo_ok ht), rfl, h2 a _ (fun b o e => ?_) hn ⟨upd_same, fun dx q => by cases q⟩⟩
  rw [upd_ne (ne_of_none e hn)]
  exact e
end K1
/-! the purse and what is drawn from it -/
namespace K1
open PySem PySem.Spec PyProof.Rows L2 He
/-- what the top leaves of built-in names -/
structure FreeN (mg : Str → Option Value) : Prop where
  sum : mg "sum" = none
  int : mg "int" = none
  max : mg "max" = none
  min : mg "min" = none
  len : mg "len" = none
  range : mg "range" = none
  isi : mg "isinstance" = none
  rep : mg "repr" = none
  list : mg "list" = none
  dict : mg "dict" = none
  tuple : mg "tuple" = none
  all : mg "all" = none
  ve : mg "ValueError" = none
abbrev FnP (K : Frag) (x : Str) (st : Stmt) (f : Addr) (fd : FuncData) : Prop := FunD K x x (defArgs st) (defBody st) (defScope st) [] [] f fd
section
variable {P : Program} {w : World} {K : Frag} {mg : Str → Option Value} {base : Heap}
theorem fnP_ok {x : Str} {st : Stmt} {f : Addr} {fd : FuncData} {N ps : List Str} {k : Nat} {sp : Sp} (F : FnP K x st f fd) (S : FnScope N ps (defScope st)) (len : ∀ vs H Q E, sp vs H Q E → vs.length = ps.length)
    (hbody : ∀ (cdv : Value) (A : Around) (outer : List Env) (s : Shared) (H : Hp) (vs : List V) (Q : VK) (E : XK), Room k (A.deeper (envOfC x (defScope st) s.heap.objs.size f cdv)) → sp vs H Q E →
      ∃ t, PSs (cxOf CX0 P w K mg base N x (defScope st) f cdv A outer s H E).nox (defBody st) t ∧ t { nx := fun _ H' => Q .non H', rt := Q } (start N vs) H) : FnOk P w K mg base CX0 (k + 1) f fd ps sp :=
  F.ok S len fun cdv A outer s H vs Q E hr h => let ⟨t, a, b⟩ := hbody cdv A outer s H vs Q E hr h; ⟨t, a.nox, b⟩
/-! ### _law_mixed -/
def spMixed : Sp := fun vs H Q _ => ∃ s p a : Int, vs = [.int s, .int p, .int a] ∧ 0 ≤ p ∧ p ≤ 1000000 ∧ ∀ r : Int, Q (.int r) H
theorem ok_mixed {f : Addr} {fd : FuncData} (F : FnP K "_law_mixed" s_mixed f fd) (T : FreeN mg) : FnOk P w K mg base CX0 1 f fd ["_law_seed", "_law_spin", "_law_at"] spMixed := by
  refine fnP_ok F sc_mixed (fun vs H Q E h => ?_) (fun cdv A outer s H vs Q E hr h => ?_)
  · obtain ⟨s, p, a, rfl, _⟩ := h
    rfl
  · obtain ⟨s, p, a, rfl, p0, p1, k⟩ := h
    have nd := sc_mixed.nd
    refine ⟨_, pss_cons (ps_set (i := 3) nd rfl (.inl rfl) (pe_op op_add (pe_op op_mul (pv 0) pe_int) (pe_op op_mul (pe_op op_mul pe_int (pv 1)) (pv 1))))
      (pss_cons (ps_set (i := 3) nd rfl (.inl rfl) (pe_op op_mod (pe_callTy call_int1 (by rfl) T.int (by decide +kernel) (pa_cons (pe_op op_add (pe_op op_add (pv 3) (pe_op op_mul pe_int (pv 2))) (pv 1)) pa_nil)) pe_int))
      (pss_cons (ps_set (i := 3) nd rfl (.inl rfl) (pe_op op_mod (pe_callTy call_int1 (by rfl) T.int (by decide +kernel) (pa_cons (pe_op op_add (pe_op op_mul (pv 3) (pv 3)) pe_int) pa_nil)) pe_int))
      (pss_one (ps_ret (pe_op op_mod (pe_callTy call_int1 (by rfl) T.int (by decide +kernel) (pa_cons (pe_op op_mul (pv 3) pe_int) pa_nil)) pe_int))))), ?_⟩
    refine ⟨_, rfl, _, _, rfl, rfl, .inr ⟨by decide, by decide⟩, _, rfl, _, _, rfl, rfl, .inl ⟨by decide, by decide⟩, _, rfl, _, _, rfl, rfl, .inr ⟨by omega, by omega⟩, _, _, rfl, rfl, ?_⟩
    refine ⟨_, rfl, _, rfl, _, _, rfl, rfl, .inl ⟨by decide, by decide⟩, _, _, rfl, rfl, _, rfl, _, _, rfl, rfl, .inl ⟨_, rfl, _, _, rfl, rfl, (by show (0 : Int) < 2147483647; decide), ?_⟩⟩
    generalize hm : (s * 69069 + 104729 * p * p + 7919 * a + p) % 2147483647 = m
    have m0 : 0 ≤ m := by rw [← hm]; exact Int.emod_nonneg _ (by decide)
    have m1 : m < 2147483647 := by rw [← hm]; exact Int.emod_lt_of_pos _ (by decide)
    refine ⟨_, rfl, _, rfl, _, _, rfl, rfl, .inl ⟨by omega, by omega⟩, _, _, rfl, rfl, .inl ⟨_, rfl, _, _, rfl, rfl, (by show (0 : Int) < 2147483629; decide), ?_⟩⟩
    refine ⟨_, rfl, _, _, rfl, rfl, .inr ⟨by decide, by decide⟩, .inl ⟨_, rfl, _, _, rfl, rfl, (by show (0 : Int) < 2147483587; decide), ?_⟩⟩
    exact k _
/-! ### _law_draw -/
/-- a purse stands at a; n is more than its turns so far -/
def Purse (H : Hp) (a : Addr) (n : Int) : Prop := ∃ p s t c : Int, H a = some (.lst [.int p, .int s, .int t, .int c]) ∧ 0 ≤ t ∧ t ≤ n ∧ 0 ≤ s ∧ s < 2147483648
theorem Purse.mono {H : Hp} {a : Addr} {n m : Int} (h : n ≤ m) (p : Purse H a n) : Purse H a m := by
  obtain ⟨p, s, t, c, e, t0, t1, s0⟩ := p
  exact ⟨p, s, t, c, e, t0, by omega, s0⟩
/-- all but a stands -/
def But (a : Addr) (H H' : Hp) : Prop := ∀ b o, b ≠ a → H b = some o → H' b = some o
theorem But.refl (a : Addr) (H : Hp) : But a H H := fun _ _ _ h => h
theorem But.trans {a : Addr} {H H1 H2 : Hp} (x : But a H H1) (y : But a H1 H2) : But a H H2 := fun b o n h => y b o n (x b o n h)
theorem But.upd (a : Addr) (H : Hp) (o : HO) : But a H (upd H a o) := fun b u n h => by rw [upd_ne n]; exact h
def spDraw : Sp := fun vs H Q _ => ∃ (a : Addr) (m n : Int), vs = [.ref a, .int m] ∧ 0 < m ∧ m < 100000000 ∧ Purse H a n ∧ n ≤ 100000 ∧
  ∀ (r : Int) (H' : Hp), 0 ≤ r → r < m → Purse H' a (n + 1) → But a H H' → Q (.int r) H'
theorem bits_small {m : Int} (h0 : 0 < m) (h1 : m < 100000000) : (1 : Int) + (((Builtin.Int.intBits m : Nat) : Int)).fdiv 28 = 1 := by
  have e0 : (2 : Nat) ^ 27 = 134217728 := by decide
  have e : m.natAbs.log2 < 27 := PySem.Flt.log2_lt_of (by decide) (by omega)
  have b : Builtin.Int.intBits m ≤ 27 := by
    unfold Builtin.Int.intBits
    split <;> omega
  rw [Int.fdiv_eq_ediv_of_nonneg _ (by omega)]
  omega
theorem ok_draw {f fM : Addr} {fd fdM : FuncData} (F : FnP K "_law_draw" s_draw f fd) (FM : FnP K "_law_mixed" s_mixed fM fdM) (gM : mg "_law_mixed" = some (.ref fM)) (T : FreeN mg) : FnOk P w K mg base CX0 2 f fd ["_law_purse_here", "_law_many"] spDraw := by
  have GM : FnOk P w K mg base CX0 1 fM fdM ["_law_seed", "_law_spin", "_law_at"] spMixed := ok_mixed FM T
  have bM : L2.Binds K fdM ["_law_seed", "_law_spin", "_law_at"] [] := FunD.bindsN FM fun _ _ _ _ _ _ us hl => match us, hl with | [_, _, _], _ => rfl
  refine fnP_ok F sc_draw (fun vs H Q E h => ?_) (fun cdv A outer s H vs Q E hr h => ?_)
  · obtain ⟨a, m, n, rfl, _⟩ := h
    rfl
  · obtain ⟨a, m, n, rfl, m0, m1, ⟨p, sd, t, c, e, t0, t1, s01⟩, n1, k⟩ := h
    have nd := sc_draw.nd
    refine ⟨_, pss_cons (ps_if (pt_cmpR op_gt (pe_ix ix_list (pv 0) pe_int (fun _ _ => rfl)) pe_int (nomark _))
        (pss_cons (ps_set (i := 2) nd rfl (.inl rfl) (pe_op op_mod (pe_callTy call_int1 (by rfl) T.int (by decide +kernel) (pa_cons (pe_ix ix_list (pv 0) pe_int (fun _ _ => rfl)) pa_nil)) (pv 1)))
        (pss_cons (ps_asg (pe_op op_fdivN (pe_ix ix_list (pv 0) pe_int (fun _ _ => rfl)) (pv 1)) (pg_sub (pv 0) pe_int set_list))
        (pss_one (ps_ret (pv 2))))) pss_nil)
      (pss_cons (ps_set (i := 3) nd rfl (.inl rfl) pe_int)
      (pss_cons (ps_for PassesOwn.never rfl (pi_range1 (by rfl) T.range (pa_cons (pe_op op_add pe_int (pe_op op_fdivN (pe_bits (pv 1)) pe_int)) pa_nil)) (pg_name (i := 4) nd rfl (.inl rfl))
        (pss_cons (ps_asg (pe_op op_add (pe_ix ix_list (pv 0) pe_int (fun _ _ => rfl)) pe_int) (pg_sub (pv 0) pe_int set_list))
        (pss_one (ps_set (i := 3) nd rfl (.inl rfl) (pe_op op_add (pe_op op_mul (pv 3) pe_int) (pe_call GM hr (by rfl) gM FM.kp bM .nil pass0
          (pa_cons (pe_ix ix_list (pv 0) pe_int (fun _ _ => rfl)) (pa_cons (pe_ix ix_list (pv 0) pe_int (fun _ _ => rfl)) (pa_cons (pe_ix ix_list (pv 0) pe_int (fun _ _ => rfl)) pa_nil)))))))))
      (pss_one (ps_ret (pe_op op_mod (pe_callTy call_int1 (by rfl) T.int (by decide +kernel) (pa_cons (pv 3) pa_nil)) (pv 1)))))), ?_⟩
    -- if purse[0] > 0
    refine ⟨.ref a, rfl, a, _, 0, .int p, rfl, rfl, SqL.of e, rfl, _, _, rfl, rfl, _, rfl, ?_⟩
    refine ite2 (fun _ => ?_) (fun _ => ?_)
    · refine ⟨.ref a, rfl, a, _, 0, .int p, rfl, rfl, SqL.of e, rfl, .inl ⟨_, rfl, _, rfl, _, _, rfl, rfl, m0, ?_⟩⟩
      refine ⟨.ref a, rfl, a, _, 0, .int p, rfl, rfl, SqL.of e, rfl, _, rfl, _, _, rfl, rfl, ⟨by omega, by omega⟩, .ref a, rfl, a, _, 0, 0, rfl, rfl, e, rfl, ?_⟩
      refine ⟨_, rfl, ?_⟩
      exact k _ _ (Int.emod_nonneg _ (by omega)) (Int.emod_lt_of_pos _ m0) ⟨_, sd, t, c, upd_same, t0, by omega, s01⟩ (But.upd a H _)
    · refine ⟨_, rfl, _, rfl, _, _, rfl, rfl, ⟨by decide, by decide⟩, _, _, rfl, rfl, ?_⟩
      refine ⟨1, congrArg (fun z => [V.int z]) (bits_small m0 m1), by decide, by decide, for_range (n := 1) (fun i σ H' => ∃ (v : Option V) (z : Int), σ = [some (.ref a), some (.int m), none, some (.int z), v] ∧ But a H H' ∧ H' a = some (.lst [.int p, .int sd, .int (t + i), .int c])) ⟨none, 0, rfl, But.refl a H, by rw [e]; simp⟩ ?_ ?_⟩
      · rintro i σ H' hi ⟨v, z, rfl, bt, e'⟩
        refine ⟨.ref a, rfl, a, _, 2, _, rfl, rfl, SqL.of e', rfl, _, _, rfl, rfl, .ref a, rfl, a, _, 2, 2, rfl, rfl, e', rfl, ?_⟩
        refine ⟨_, rfl, _, _, rfl, rfl, .inr ⟨by decide, by decide⟩, .ref a, rfl, a, _, 1, _, rfl, rfl, SqL.of upd_same, rfl, .ref a, rfl, a, _, 2, _, rfl, rfl, SqL.of upd_same, rfl, .ref a, rfl, a, _, 3, _, rfl, rfl, SqL.of upd_same, rfl, ?_⟩
        refine ⟨sd, t + i + 1, c, rfl, by omega, by omega, fun r => ⟨_, _, rfl, rfl, ?_⟩⟩
        refine ⟨_, _, rfl, bt.trans (But.upd a H' _), ?_⟩
        rw [upd_same]
        have e2 : t + (i : Int) + 1 = t + ((i + 1 : Nat) : Int) := by omega
        rw [← e2]
        rfl
      · rintro σ H' ⟨v, z, rfl, bt, e'⟩
        refine ⟨_, rfl, .inl ⟨_, rfl, _, rfl, _, _, rfl, rfl, m0, ?_⟩⟩
        exact k _ _ (Int.emod_nonneg _ (by omega)) (Int.emod_lt_of_pos _ m0) ⟨p, sd, _, c, e', by omega, by omega, s01⟩ bt
end
end K1
/-! purses, a thing of some, a word -/
namespace K1
open PySem PySem.Spec PyProof.Rows L2 He
theorem op_powW {X : Cx} : OpR X (binaryOp .Pow) (rI (fun i j => 0 ≤ j ∧ (Builtin.Int.intBits i : Int) * j ≤ 2 ^ 27) fun i j => .int (i ^ j.toNat)) := opI fun _ _ _ _ _ _ _ hc q => pow_int hc.1 hc.2 q
theorem cut01 (ns : List Int) : cutV (ns.map V.int) (some 0) (some (0 + 1)) = (ns.take 1).map V.int := by
  unfold cutV
  rw [show HT.sIx (ns.map V.int).length 0 (some 0) = min 0 (ns.map V.int).length from HT.sIx_nat _ 0 0, show HT.sIx (ns.map V.int).length (ns.map V.int).length (some (0 + 1)) = min 1 (ns.map V.int).length from HT.sIx_nat _ _ 1]
  cases ns with
  | nil => rfl
  | cons n r =>
    rw [List.length_map, List.length_cons, Nat.min_eq_left (by omega), Nat.min_eq_left (by omega)]
    rfl
section
variable {P : Program} {w : World} {K : Frag} {mg : Str → Option Value} {base : Heap}
/-! ### _law_purse, at the first place -/
def spPurse (K : Frag) : Sp := fun vs H Q _ => ∃ (a : Addr) (ns : List Int), vs = [.ref a, .int 0] ∧ SqL K H a (ns.map V.int) ∧ ∀ q H', Same H H' → H q = none → Purse H' q 0 → Q (.ref q) H'
theorem same_new {H : Hp} {p : Addr} {o : HO} (h : H p = none) : Same H (upd H p o) := fun b x e => by
  rw [upd_ne (ne_of_none e h)]
  exact e
theorem ok_purse {f : Addr} {fd : FuncData} (F : FnP K "_law_purse" s_purse f fd) (T : FreeN mg) : FnOk P w K mg base CX0 1 f fd ["_law_script", "_law_at"] (spPurse K) := by
  refine fnP_ok F sc_purse (fun vs H Q E h => ?_) (fun cdv A outer s H vs Q E hr h => ?_)
  · obtain ⟨a, ns, rfl, _⟩ := h
    rfl
  · obtain ⟨a, ns, rfl, hS, k⟩ := h
    have nd := sc_purse.nd
    refine ⟨_, pss_cons (ps_set (i := 2) nd rfl (.inl rfl) (pe_callB (cr_sum rfl) (by rfl) T.sum (by decide +kernel) (pa_cons (pe_slice sl_list (pv 0) (po_some (pv 1)) (po_some (pe_op op_add (pv 1) pe_int))) pa_nil)))
      (pss_one (ps_ret (pe_lst (pa_cons (pe_op op_mod (pe_callTy call_int1 (by rfl) T.int (by decide +kernel) (pa_cons (pe_callB (call_max2 rfl) (by rfl) T.max (by decide +kernel) (pa_cons (pe_op op_sub (pv 2) (pe_op op_powW pe_int pe_int)) (pa_cons pe_int pa_nil))) pa_nil))
          (pe_op op_powW (pe_op op_powW pe_int pe_int) pe_int))
        (pa_cons (pe_op op_mod (pe_callTy call_int1 (by rfl) T.int (by decide +kernel) (pa_cons (pv 2) pa_nil)) pe_int) (pa_cons pe_int (pa_cons (pv 1) pa_nil))))))), ?_⟩
    refine ⟨_, rfl, _, rfl, _, rfl, _, rfl, _, _, rfl, rfl, _, rfl, a, _, rfl, hS, fun p np => ?_⟩
    refine ⟨p, ns.take 1, rfl, SqL.of ?_, ?_⟩
    · rw [← cut01]
      exact upd_same
    · refine ⟨_, rfl, _, _, rfl, rfl, ⟨by decide, by decide +kernel⟩, _, _, rfl, rfl, _, _, rfl, .inl ⟨_, rfl, _, _, rfl, rfl, ⟨by decide, by decide +kernel⟩, _, _, rfl, rfl, ⟨by decide, by decide +kernel⟩, _, _, rfl, rfl, (show (0 : Int) < (10 ^ Int.toNat 60) ^ Int.toNat 8 from by decide +kernel), ?_⟩⟩
      refine ⟨_, rfl, .inl ⟨_, rfl, _, _, rfl, rfl, (by show (0 : Int) < 2147483629; decide), _, rfl, (by show 4 ≤ sizeLine; decide), fun q nq => ?_⟩⟩
      have nq0 : H q = none := (same_new np).free nq
      exact k q _ ((same_new np).trans (same_new nq)) nq0 ⟨_, _, 0, 0, upd_same, Int.le_refl _, Int.le_refl _, Int.emod_nonneg _ (by decide), Int.lt_trans (Int.emod_lt_of_pos _ (by decide)) (by decide)⟩
/-! ### _law_purses(script, 1) -/
def spPurses (K : Frag) : Sp := fun vs H Q _ => ∃ (a : Addr) (ns : List Int), vs = [.ref a, .int 1] ∧ SqL K H a (ns.map V.int) ∧ ∀ l q H', Same H H' → H l = none → H q = none → H' l = some (.lst [.ref q]) → Purse H' q 0 → Q (.ref l) H'
theorem one_turn (n : Nat) : (if (if (n : Int) < 1 then (n : Int) else 1) > 1 then (if (n : Int) < 1 then (n : Int) else 1) else 1) = (1 : Int) := by
  split <;> split at * <;> omega
theorem ok_purses {f fP : Addr} {fd fdP : FuncData} (F : FnP K "_law_purses" s_purses f fd) (FP : FnP K "_law_purse" s_purse fP fdP) (gP : mg "_law_purse" = some (.ref fP)) (T : FreeN mg) : FnOk P w K mg base CX0 2 f fd ["_law_script", "_law_few"] (spPurses K) := by
  have GP : FnOk P w K mg base CX0 1 fP fdP ["_law_script", "_law_at"] (spPurse K) := ok_purse FP T
  have bP : L2.Binds K fdP ["_law_script", "_law_at"] [] := FunD.bindsN FP fun _ _ _ _ _ _ us hl => match us, hl with | [_, _], _ => rfl
  refine fnP_ok F sc_purses (fun vs H Q E h => ?_) (fun cdv A outer s H vs Q E hr h => ?_)
  · obtain ⟨a, ns, rfl, _⟩ := h
    rfl
  · obtain ⟨a, ns, rfl, hS, k⟩ := h
    have nd := sc_purses.nd
    refine ⟨_, pss_one (ps_ret (pe_lc (own := [("_law_at", 2)]) (g := gName 2) (tt := tYes) rfl nd
      (pi_range1 rfl T.range (pa_cons (pe_callB (call_max2 rfl) (by rfl) T.max (by decide +kernel) (pa_cons pe_int (pa_cons (pe_callB (call_min2 rfl) (by rfl) T.min (by decide +kernel) (pa_cons (pv 1) (pa_cons (pe_callB call_len_seq (by rfl) T.len PySem.boot_len (pa_cons (pv 0) pa_nil)) pa_nil))) pa_nil))) pa_nil))
      (blkOk_by (N := ["_law_script", "_law_few", "_law_at"]) (sc := defScope s_purses) (by decide +kernel)) (fun _ _ _ _ _ => pg_name (i := 2) nd rfl (Or.inl rfl)) (fun _ _ _ _ _ => pts_nil)
      (fun _ _ _ _ _ => pe_call GP hr (by rfl) gP FP.kp bP .nil pass0 (pa_cons (pv 0) (pa_cons (pv 2) pa_nil))))), ?_⟩
    refine ⟨_, rfl, _, rfl, a, _, rfl, .inl hS, _, _, rfl, _, _, rfl, 1, ?_, by decide, by decide, fun D nD => ?_⟩
    · rw [List.length_map]
      exact congrArg (fun z => [V.int z]) (one_turn ns.length)
    refine lc_range (lo := 0) (n := 1) (fun i H' => Same H H' ∧ ((i = 0 ∧ H' D = some (.lst [])) ∨ (i = 1 ∧ ∃ q, H q = none ∧ H' D = some (.lst [.ref q]) ∧ Purse H' q 0))) ⟨same_new nD, .inl ⟨rfl, upd_same⟩⟩ ?_ ?_
    · rintro i H' hi ⟨sm, e⟩
      rcases e with ⟨rfl, e⟩ | ⟨rfl, _⟩
      · refine ⟨rfl, _, rfl, _, rfl, a, ns, rfl, sm.seq hS, fun q H2 sm2 nq pq => ?_⟩
        have qD : D ≠ q := ne_of_none e nq
        refine ⟨_, sm2 _ _ e, by show 0 < sizeLine; decide, ?_, .inr ⟨rfl, q, sm.free nq, upd_same, ?_⟩⟩
        · intro b o z
          rw [upd_ne (ne_of_none z nD)]
          exact sm2 _ _ (sm _ _ z)
        · obtain ⟨p, sd, t, c, e1, e2⟩ := pq
          exact ⟨p, sd, t, c, by rw [upd_ne (Ne.symm qD)]; exact e1, e2⟩
      · exact absurd hi (by omega)
    · rintro H' ⟨sm, e⟩
      rcases e with ⟨z, _⟩ | ⟨_, q, nq, e, pq⟩
      · cases z
      · exact k D q H' sm nD nq e pq
/-! ### _law_one_of -/
def spOne : Sp := fun vs H Q _ => ∃ (a b : Addr) (xs : List V) (n : Int), vs = [.ref a, .ref b] ∧ b ≠ a ∧ H b = some (.lst xs) ∧ 0 < xs.length ∧ xs.length < 1000 ∧ Purse H a n ∧ n ≤ 100000 ∧
  ∀ (i : Nat) (v : V) (H' : Hp), xs[i]? = some v → Purse H' a (n + 1) → But a H H' → Q v H'
theorem ok_one {f fD : Addr} {fd fdD : FuncData} (F : FnP K "_law_one_of" s_one f fd) (GD : FnOk P w K mg base CX0 2 fD fdD ["_law_purse_here", "_law_many"] spDraw) (kD : PySem.W.keepIn K (.ref fD) = true) (bD : L2.Binds K fdD ["_law_purse_here", "_law_many"] [])
    (gD : mg "_law_draw" = some (.ref fD)) (T : FreeN mg) : FnOk P w K mg base CX0 3 f fd ["_law_purse_here", "_law_some"] spOne := by
  refine fnP_ok F sc_one (fun vs H Q E h => ?_) (fun cdv A outer s H vs Q E hr h => ?_)
  · obtain ⟨a, b, xs, n, rfl, _⟩ := h
    rfl
  · obtain ⟨a, b, xs, n, rfl, ne, eb, l0, l1, pu, n1, k⟩ := h
    refine ⟨_, pss_one (ps_ret (pe_ix ix_list (pv 1) (pe_call GD hr (by rfl) gD kD bD .nil pass0 (pa_cons (pv 0) (pa_cons (pe_callB call_len_seq (by rfl) T.len PySem.boot_len (pa_cons (pv 1) pa_nil)) pa_nil))) (fun _ _ => rfl))), ?_⟩
    refine ⟨_, rfl, _, rfl, _, rfl, b, xs, rfl, .inl (SqL.of eb), a, _, n, rfl, by omega, by omega, pu, n1, fun r H' r0 r1 pu' bt => ?_⟩
    obtain ⟨i, rfl⟩ := Int.eq_ofNat_of_zero_le r0
    have hi : i < xs.length := by omega
    refine ⟨b, xs, _, xs[i], rfl, rfl, SqL.of (bt b _ ne eb), atI_nat (List.getElem?_eq_getElem hi), ?_⟩
    exact k i xs[i] H' (List.getElem?_eq_getElem hi) pu' bt
/-! ### _law_word -/
/-- a word of the draws -/
def Word (z : Str) : Prop := 1 ≤ z.length ∧ z.length ≤ 8 ∧ ∀ c ∈ z.cps.toList, 97 ≤ c ∧ c ≤ 122
def spWord : Sp := fun vs H Q _ => ∃ (a : Addr) (n : Int), vs = [.ref a] ∧ Purse H a n ∧ n ≤ 1000 ∧ ∀ (z : Str) (H' : Hp), Word z → Purse H' a (n + 20) → But a H H' → Q (.str z) H'
abbrev abc : Str := "abcdefghijklmnopqrstuvwxyz"
theorem abc_at : ∀ r : Nat, r < 26 → ∃ c, abc.cps.toList[r]? = some c ∧ 97 ≤ c ∧ c ≤ 122 := by
  intro r hr
  have h : ∀ r : Fin 26, ∃ c : Fin 123, abc.cps.toList[r.val]? = some c.val ∧ 97 ≤ c.val := by decide +kernel
  obtain ⟨c, h1, h2⟩ := h ⟨r, hr⟩
  exact ⟨c.val, h1, h2, Nat.le_of_lt_succ c.isLt⟩
def signS (c : Nat) : Str := ⟨#[c]⟩
theorem join_signs (cs : List Nat) : TL.tl (Str.join "" (cs.map signS)) = cs := by
  rw [TL.tl_join]
  have e : TL.tl ("" : Str) = [] := by decide +kernel
  rw [e]
  induction cs with
  | nil => rfl
  | cons c r ih =>
    cases r with
    | nil => rfl
    | cons d r =>
      show TL.tl (signS c) ++ ([] ++ TL.joinL [] (((d :: r).map signS).map TL.tl)) = c :: d :: r
      rw [ih]
      rfl
theorem lens_signs (cs : List Nat) : ((cs.map signS).map (·.length)).sum = cs.length := by
  induction cs with
  | nil => rfl
  | cons c r ih =>
    show (signS c).length + ((r.map signS).map (·.length)).sum = r.length + 1
    rw [ih]
    show 1 + r.length = r.length + 1
    omega
theorem word_of {cs : List Nat} (h1 : 1 ≤ cs.length) (h8 : cs.length ≤ 8) (h : ∀ c ∈ cs, 97 ≤ c ∧ c ≤ 122) : Word (Txt.join "" (cs.map signS)) := by
  rw [TL.join_eq]
  have e := join_signs cs
  refine ⟨?_, ?_, ?_⟩
  · rw [TL.len_tl, e]
    exact h1
  · rw [TL.len_tl, e]
    exact h8
  · intro c hc
    have hc' : c ∈ TL.tl (Str.join "" (cs.map signS)) := hc
    rw [e] at hc'
    exact h c hc'
theorem ok_word {f fD : Addr} {fd fdD : FuncData} (F : FnP K "_law_word" s_word f fd) (GD : FnOk P w K mg base CX0 2 fD fdD ["_law_purse_here", "_law_many"] spDraw) (kD : PySem.W.keepIn K (.ref fD) = true) (bD : L2.Binds K fdD ["_law_purse_here", "_law_many"] [])
    (gD : mg "_law_draw" = some (.ref fD)) (T : FreeN mg) : FnOk P w K mg base CX0 3 f fd ["_law_purse_here"] spWord := by
  refine fnP_ok F sc_word (fun vs H Q E h => ?_) (fun cdv A outer s H vs Q E hr h => ?_)
  · obtain ⟨a, n, rfl, _⟩ := h
    rfl
  · obtain ⟨a, n, rfl, pu, n1, k⟩ := h
    have nd := sc_word.nd
    refine ⟨_, pss_cons (ps_set (i := 1) nd rfl (.inl rfl) (pe_op op_add pe_int (pe_call GD hr (by rfl) gD kD bD .nil pass0 (pa_cons (pv 0) (pa_cons
        (pe_ifExp (pt_cmpR op_eq (pe_call GD hr (by rfl) gD kD bD .nil pass0 (pa_cons (pv 0) (pa_cons pe_int pa_nil))) pe_int (nomark _)) pe_int pe_int) pa_nil)))))
      (pss_one (ps_ret (pe_join pe_str (pe_lc (own := [("_law_spin", 2)]) (g := gName 2) (tt := tYes) rfl nd (pi_range1 rfl T.range (pa_cons (pv 1) pa_nil))
        (blkOk_by (N := ["_law_purse_here", "_law_size", "_law_spin"]) (sc := defScope s_word) (by decide +kernel)) (fun _ _ _ _ _ => pg_name (i := 2) nd rfl (Or.inl rfl)) (fun _ _ _ _ _ => pts_nil)
        (fun _ _ _ _ _ => pe_ix ix_str pe_str (pe_call GD hr (by rfl) gD kD bD .nil pass0 (pa_cons (pv 0) (pa_cons pe_int pa_nil))) (fun _ _ => rfl)))))), ?_⟩
    refine ⟨_, rfl, _, rfl, a, 3, n, rfl, by decide, by decide, pu, by omega, fun r0 H0 r00 r01 pu0 bt0 => ⟨rfl, _, rfl, ?_⟩⟩
    -- behind both draws: the size is between 1 and 8
    have tail : ∀ (m r : Int) (H1 : Hp), m ≤ 8 → 0 ≤ r → r < m → Purse H1 a (n + 1 + 1) → But a H0 H1 →
        tRet (tM1 (fun x xs H Q => ∃ a p, ∃ ys : List Str, x = .str a ∧ xs = [.ref p] ∧ (SqL K H p (ys.map V.str) ∨ SqT K H p (ys.map V.str)) ∧ (ys.map (·.length)).sum + ys.length * a.length ≤ 16777216 ∧ Q (.str (Txt.join a ys)) H) (tC (.str ""))
          (tLc (iRng1 (tCons (tVar 1) tNil)) (gName 2) tYes (tOp rIxS (tC (.str abc)) (tCall spDraw [] E0 (tCons (tVar 0) (tCons (tC (.int 26)) tNil)))) [2]))
          { nx := fun _ H' => Q .non H', rt := Q } [some (.ref a), some (.int (1 + r)), none] H1 := by
      intro m r H1 m8 r0 r1 pu1 bt1
      obtain ⟨j, hj⟩ : ∃ j : Nat, 1 + r = (j : Int) := ⟨(1 + r).toNat, by omega⟩
      have j1 : 1 ≤ j := by omega
      have j8 : j ≤ 8 := by omega
      have ha : ∃ o, H1 a = some o := let ⟨p, sd, t, c, e, _⟩ := pu1; ⟨_, e⟩
      refine ⟨⟨_, rfl⟩, _, rfl, (j : Int), congrArg (fun z => [V.int z]) hj, by omega, by omega, fun D nD => ?_⟩
      have Da : D ≠ a := fun e => by
        obtain ⟨o, ho⟩ := ha
        rw [e, ho] at nD
        cases nD
      refine lc_range (lo := 0) (n := j) (fun i H' => But a H0 H' ∧ Purse H' a (n + 2 + i) ∧ ∃ cs : List Nat, cs.length = i ∧ (∀ c ∈ cs, 97 ≤ c ∧ c ≤ 122) ∧ H' D = some (.lst ((cs.map signS).map V.str))) ⟨?_, ?_, [], rfl, fun c hc => absurd hc (by simp), upd_same⟩ ?_ ?_
      · exact bt1.trans fun b o nb e => by
          rw [upd_ne (ne_of_none e nD)]
          exact e
      · obtain ⟨p, sd, t, c, e1, t0, t1, s01⟩ := pu1
        exact ⟨p, sd, t, c, by rw [upd_ne (Ne.symm Da)]; exact e1, t0, by omega, s01⟩
      · rintro i H' hi ⟨bt, pu', cs, l, hc, eD⟩
        refine ⟨rfl, _, rfl, a, 26, n + 2 + i, rfl, by decide, by decide, pu', by omega, fun q H2 q0 q1 pu2 bt2 => ?_⟩
        obtain ⟨u, rfl⟩ := Int.eq_ofNat_of_zero_le q0
        obtain ⟨c, hat, c1, c2⟩ := abc_at u (by omega)
        have eD2 := bt2 D _ Da eD
        refine ⟨_, _, c, rfl, rfl, (by show 26 ≤ sizeLine; decide), atI_nat hat, _, eD2, ?_, ?_, ?_, cs ++ [c], ?_, ?_, ?_⟩
        · rw [List.length_map, List.length_map, l]
          exact small1000 (by omega)
        · intro b o nb e
          have hb : b ≠ D := fun z => by
            have e1 := bt1 b o nb e
            rw [z, nD] at e1
            cases e1
          rw [upd_ne hb]
          exact bt2 b o nb (bt b o nb e)
        · obtain ⟨p, sd, t, c, e1, t0, t1, s01⟩ := pu2
          exact ⟨p, sd, t, c, by rw [upd_ne (Ne.symm Da)]; exact e1, t0, by omega, s01⟩
        · rw [List.length_append, l]
          rfl
        · intro x hx
          rcases List.mem_append.mp hx with hx | hx
          · exact hc x hx
          · rw [List.mem_singleton.mp hx]
            exact ⟨c1, c2⟩
        · rw [upd_same, List.map_append, List.map_append]
          rfl
      · rintro H' ⟨bt, pu', cs, l, hc, eD⟩
        refine ⟨_, D, cs.map signS, rfl, rfl, .inl (SqL.of eD), ?_, ?_⟩
        · rw [lens_signs, List.length_map]
          show cs.length + cs.length * 0 ≤ 16777216
          omega
        · exact k _ H' (word_of (by omega) (by omega) hc) (pu'.mono (by omega)) (bt0.trans bt)
    refine ite2 (fun _ => ?_) (fun _ => ?_)
    · exact ⟨a, 8, n + 1, rfl, by decide, by decide, pu0, by omega, fun r H1 r0 r1 pu1 bt1 => ⟨_, _, rfl, rfl, tail 8 r H1 (by decide) r0 r1 pu1 bt1⟩⟩
    · exact ⟨a, 3, n + 1, rfl, by decide, by decide, pu0, by omega, fun r H1 r0 r1 pu1 bt1 => ⟨_, _, rfl, rfl, tail 3 r H1 (by decide) r0 r1 pu1 bt1⟩⟩
end
end K1
/-! the lists of errors, what they are -/
namespace K1
open PySem PySem.Spec PyProof.Rows L2 He
/-- ys are errors of the classes xs, each holding v -/
inductive ErrAll (K : Frag) (H : Hp) (v : V) : List V → List Str → Prop
  | nil : ErrAll K H v [] []
  | cons {a : Addr} {x : Str} {ys : List V} {xs : List Str} : ErrAt H a (ga K x) v → ErrAll K H v ys xs → ErrAll K H v (.ref a :: ys) (x :: xs)
theorem ErrAll.same {K : Frag} {H H' : Hp} {v : V} (s : Same H H') : ∀ {ys : List V} {xs : List Str}, ErrAll K H v ys xs → ErrAll K H' v ys xs
  | _, _, .nil => .nil
  | _, _, .cons h t => .cons (h.same s) (ErrAll.same s t)
theorem ErrAll.append {K : Frag} {H : Hp} {v : V} : ∀ {ys zs : List V} {xs ws : List Str}, ErrAll K H v ys xs → ErrAll K H v zs ws → ErrAll K H v (ys ++ zs) (xs ++ ws)
  | _, _, _, _, .nil, t => t
  | _, _, _, _, .cons h r, t => .cons h (ErrAll.append r t)
theorem ErrAll.len {K : Frag} {H : Hp} {v : V} : ∀ {ys : List V} {xs : List Str}, ErrAll K H v ys xs → ys.length = xs.length
  | _, _, .nil => rfl
  | _, _, .cons _ t => congrArg Nat.succ (ErrAll.len t)
theorem ErrAll.get {K : Frag} {H : Hp} {v : V} : ∀ {ys : List V} {xs : List Str} {i : Nat} {y : V}, ErrAll K H v ys xs → ys[i]? = some y → ∃ a x, y = .ref a ∧ xs[i]? = some x ∧ ErrAt H a (ga K x) v
  | _, _, _, _, .nil, h => by simp at h
  | _, _, 0, _, .cons h _, e => by
    simp at e
    subst e
    exact ⟨_, _, rfl, rfl, h⟩
  | _, _, i + 1, _, .cons _ t, e => ErrAll.get (i := i) t (by simpa using e)
def tErrs (f : Str → TE) : List Str → TA
  | [] => tNil
  | x :: xs => tCons (f x) (tErrs f xs)
/-- f makes an error of each class, holding v, wherever σ is so -/
def Makes (K : Frag) (S : L2.St → Prop) (f : Str → TE) (v : V) : Prop := ∀ (x : Str) (σ : L2.St) (H : Hp) (Q : VK), S σ → (∀ a H', Same H H' → ErrAt H' a (ga K x) v → Q (.ref a) H') → f x σ H Q
theorem tErrs_ok {K : Frag} {S : L2.St → Prop} {f : Str → TE} {v : V} (m : Makes K S f v) : ∀ (xs : List Str) (σ : L2.St) (H : Hp) (Q : List V → Hp → Prop), S σ → (∀ ys H', Same H H' → ErrAll K H' v ys xs → Q ys H') → tErrs f xs σ H Q
  | [], σ, H, Q, _, h => h [] H (Same.refl H) .nil
  | x :: xs, σ, H, Q, hs, h => m x σ H _ hs fun a H1 s1 e1 => tErrs_ok m xs σ H1 _ hs fun ys H2 s2 e2 => h (.ref a :: ys) H2 (s1.trans s2) (.cons (e1.same s2) e2)
theorem tErrs_lst {K : Frag} {S : L2.St → Prop} {f : Str → TE} {v : V} (m : Makes K S f v) {xs : List Str} (hx : xs.length ≤ 100) {σ : L2.St} {H : Hp} {Q : VK} (hs : S σ)
    (h : ∀ p ys H', Same H H' → H p = none → H' p = some (.lst ys) → ErrAll K H' v ys xs → Q (.ref p) H') : tLst (tErrs f xs) σ H Q :=
  tErrs_ok m xs σ H _ hs fun ys H1 s1 e1 => ⟨Nat.le_trans (by rw [e1.len]; exact hx) (by decide), fun p np => h p ys _ (s1.trans (same_new np)) (s1.free np) upd_same (e1.same (same_new np))⟩
/-- found = [..] -/
theorem st_first {K : Frag} {S : L2.St → Prop} {f : Str → TE} {v : V} (m : Makes K S f v) {xs : List Str} (hx : xs.length ≤ 100) {i : Nat} {D : Ends} {σ : L2.St} {H : Hp} (hs : S σ)
    (h : ∀ p ys H', Same H H' → H p = none → H' p = some (.lst ys) → ErrAll K H' v ys xs → D.nx (σ.set i (some (.ref p))) H') : tAsg (tLst (tErrs f xs)) (gName i) D σ H := tErrs_lst m hx hs h
/-- found = found + [..] -/
theorem st_more {K : Frag} {S : L2.St → Prop} {f : Str → TE} {v : V} (m : Makes K S f v) {xs ws : List Str} (hx : xs.length ≤ 100) (hw : ws.length ≤ 100) {i : Nat} {D : Ends} {σ : L2.St} {H : Hp} {p : Addr} {ys : List V} (hs : S σ) (hp : σ[i]? = some (some (.ref p))) (e : H p = some (.lst ys))
    (er : ErrAll K H v ys ws) (h : ∀ p zs H', Same H H' → H p = none → H' p = some (.lst zs) → ErrAll K H' v zs (ws ++ xs) → D.nx (σ.set i (some (.ref p))) H') : tAsg (tOp rCat (tVar i) (tLst (tErrs f xs))) (gName i) D σ H := by
  refine ⟨_, hp, tErrs_lst m hx hs fun q zs H1 s1 nq eq e1 => ⟨p, q, ys, zs, rfl, rfl, s1 _ _ e, eq, ?_, fun r nr => ?_⟩⟩
  · rw [er.len, e1.len]
    exact Nat.le_trans (Nat.add_le_add hw hx) (by decide)
  · exact h r _ _ (s1.trans (same_new nr)) (s1.free nr) upd_same (((er.same s1).append e1).same (same_new nr))
theorem em {l : List Str} (i : Nat) {x : Str} (h : l[i]? = some x := by rfl) : x ∈ l := List.mem_of_getElem? h
theorem emL {x : Str} (i : Nat) (h : allErrs[i]? = some x := by rfl) : x ∈ lampE :: allErrs := List.mem_cons_of_mem _ (List.mem_of_getElem? h)
/-- the promise of the three lists of errors -/
def spErrs (K : Frag) (v : V) (H : Hp) (Q : VK) : Prop := ∀ l ys H', Same H H' → H l = none → H' l = some (.lst ys) → ErrAll K H' v ys errs → Q (.ref l) H'
def spFirst (K : Frag) : Sp := fun vs H Q _ => ∃ v, vs = [v] ∧ spErrs K v H Q
def spBare (K : Frag) : Sp := fun vs H Q _ => vs = [] ∧ spErrs K .non H Q
section
variable {P : Program} {w : World} {K : Frag} {mg : Str → Option Value} {base : Heap}
theorem ok_first {f : Addr} {fd : FuncData} (F : FnP K "_law_first" s_first f fd) (T : TX K mg) : FnOk P w K mg base CX0 3 f fd ["_law_thing"] (spFirst K) := by
  refine fnP_ok F sc_first (fun vs H Q E h => ?_) (fun cdv A outer s H vs Q E hr h => ?_)
  · obtain ⟨v, rfl, _⟩ := h
    rfl
  · obtain ⟨v, rfl, k⟩ := h
    have nd := sc_first.nd
    refine ⟨tSeq (tAsg (tLst (tErrs (fun x => tMkE (ga K x) (tVar 0)) ["InvalidLamp", "InvalidLamps", "InvalidTies", "InvalidWishes", "InvalidNet"])) (gName 1))
      (tSeq (tAsg (tOp rCat (tVar 1) (tLst (tErrs (fun x => tMkE (ga K x) (tVar 0)) ["InvalidMap", "InvalidSetting", "InvalidRoad", "InvalidPiece"]))) (gName 1))
      (tSeq (tAsg (tOp rCat (tVar 1) (tLst (tErrs (fun x => tMkE (ga K x) (tVar 0)) ["InvalidWork", "InvalidPoints", "InvalidHeights", "InvalidCount"]))) (gName 1))
      (tSeq (tAsg (tOp rCat (tVar 1) (tLst (tErrs (fun x => tMkE (ga K x) (tVar 0)) ["InvalidForm", "InvalidShow", "InvalidWeights", "InvalidChange"]))) (gName 1))
      (tSeq (tAsg (tOp rCat (tVar 1) (tLst (tErrs (fun x => tMkE (ga K x) (tVar 0)) ["InvalidChanges", "InvalidHall", "InvalidSpot", "InvalidScript"]))) (gName 1))
      (tSeq (tAsg (tOp rCat (tVar 1) (tLst (tErrs (fun x => tMkE (ga K x) (tVar 0)) ["InvalidText", "InvalidLog", "Unlike", "Unpaired", "Apart"]))) (gName 1))
      (tSeq (tAsg (tOp rCat (tVar 1) (tLst (tErrs (fun x => tMkE (ga K x) (tVar 0)) ["Refused"]))) (gName 1))
      (tRet (tVar 1)))))))), pss_cons (ps_set (i := 1) nd rfl (.inl rfl) (pe_lst (pa_cons (pe_mkE (mks T (em 0)) hr (pv 0)) (pa_cons (pe_mkE (mks T (em 1)) hr (pv 0)) (pa_cons (pe_mkE (mks T (em 2)) hr (pv 0)) (pa_cons (pe_mkE (mks T (em 3)) hr (pv 0)) (pa_cons (pe_mkE (mks T (em 4)) hr (pv 0)) pa_nil)))))))
      (pss_cons (ps_set (i := 1) nd rfl (.inl rfl) (pe_op op_cat (pv 1) (pe_lst (pa_cons (pe_mkE (mks T (em 5)) hr (pv 0)) (pa_cons (pe_mkE (mks T (em 6)) hr (pv 0)) (pa_cons (pe_mkE (mks T (em 7)) hr (pv 0)) (pa_cons (pe_mkE (mks T (em 8)) hr (pv 0)) pa_nil)))))))
      (pss_cons (ps_set (i := 1) nd rfl (.inl rfl) (pe_op op_cat (pv 1) (pe_lst (pa_cons (pe_mkE (mks T (em 9)) hr (pv 0)) (pa_cons (pe_mkE (mks T (em 10)) hr (pv 0)) (pa_cons (pe_mkE (mks T (em 11)) hr (pv 0)) (pa_cons (pe_mkE (mks T (em 12)) hr (pv 0)) pa_nil)))))))
      (pss_cons (ps_set (i := 1) nd rfl (.inl rfl) (pe_op op_cat (pv 1) (pe_lst (pa_cons (pe_mkE (mks T (em 13)) hr (pv 0)) (pa_cons (pe_mkE (mks T (em 14)) hr (pv 0)) (pa_cons (pe_mkE (mks T (em 15)) hr (pv 0)) (pa_cons (pe_mkE (mks T (em 16)) hr (pv 0)) pa_nil)))))))
      (pss_cons (ps_set (i := 1) nd rfl (.inl rfl) (pe_op op_cat (pv 1) (pe_lst (pa_cons (pe_mkE (mks T (em 17)) hr (pv 0)) (pa_cons (pe_mkE (mks T (em 18)) hr (pv 0)) (pa_cons (pe_mkE (mks T (em 19)) hr (pv 0)) (pa_cons (pe_mkE (mks T (em 20)) hr (pv 0)) pa_nil)))))))
      (pss_cons (ps_set (i := 1) nd rfl (.inl rfl) (pe_op op_cat (pv 1) (pe_lst (pa_cons (pe_mkE (mks T (em 21)) hr (pv 0)) (pa_cons (pe_mkE (mks T (em 22)) hr (pv 0)) (pa_cons (pe_mkE (mks T (em 23)) hr (pv 0)) (pa_cons (pe_mkE (mks T (em 24)) hr (pv 0)) (pa_cons (pe_mkE (mks T (em 25)) hr (pv 0)) pa_nil))))))))
      (pss_cons (ps_set (i := 1) nd rfl (.inl rfl) (pe_op op_cat (pv 1) (pe_lst (pa_cons (pe_mkE (mks T (em 26)) hr (pv 0)) pa_nil))))
      (pss_one (ps_ret (pv 1))))))))), ?_⟩
    have m : Makes K (fun σ => σ[0]? = some (some v)) (fun x => tMkE (ga K x) (tVar 0)) v := fun x σ H Q hs h => ⟨v, hs, fun a H' s _ e => h a H' s e⟩
    refine st_first m (by decide) rfl fun p0 y0 H0 s0 n0 e0 r0 => ?_
    refine st_more m (by decide) (by decide) rfl rfl e0 r0 fun p1 y1 H1 s1' n1 e1 r1 => ?_
    have s1 := s0.trans s1'
    have n1' := s0.free n1
    refine st_more m (by decide) (by decide) rfl rfl e1 r1 fun p2 y2 H2 s2' n2 e2 r2 => ?_
    have s2 := s1.trans s2'
    have n2' := s1.free n2
    refine st_more m (by decide) (by decide) rfl rfl e2 r2 fun p3 y3 H3 s3' n3 e3 r3 => ?_
    have s3 := s2.trans s3'
    have n3' := s2.free n3
    refine st_more m (by decide) (by decide) rfl rfl e3 r3 fun p4 y4 H4 s4' n4 e4 r4 => ?_
    have s4 := s3.trans s4'
    have n4' := s3.free n4
    refine st_more m (by decide) (by decide) rfl rfl e4 r4 fun p5 y5 H5 s5' n5 e5 r5 => ?_
    have s5 := s4.trans s5'
    have n5' := s4.free n5
    refine st_more m (by decide) (by decide) rfl rfl e5 r5 fun p6 y6 H6 s6' n6 e6 r6 => ?_
    have s6 := s5.trans s6'
    have n6' := s5.free n6
    exact ⟨_, rfl, k p6 y6 H6 s6 n6' e6 r6⟩
theorem ok_called {f : Addr} {fd : FuncData} (F : FnP K "_law_called" s_called f fd) (T : TX K mg) : FnOk P w K mg base CX0 3 f fd ["_law_thing"] (spFirst K) := by
  refine fnP_ok F sc_called (fun vs H Q E h => ?_) (fun cdv A outer s H vs Q E hr h => ?_)
  · obtain ⟨v, rfl, _⟩ := h
    rfl
  · obtain ⟨v, rfl, k⟩ := h
    have nd := sc_called.nd
    refine ⟨tSeq (tAsg (tLst (tErrs (fun x => tMkE (ga K x) (tVar 0)) ["InvalidLamp", "InvalidLamps", "InvalidTies"])) (gName 1))
      (tSeq (tAsg (tOp rCat (tVar 1) (tLst (tErrs (fun x => tMkE (ga K x) (tVar 0)) ["InvalidWishes", "InvalidNet", "InvalidMap"]))) (gName 1))
      (tSeq (tAsg (tOp rCat (tVar 1) (tLst (tErrs (fun x => tMkE (ga K x) (tVar 0)) ["InvalidSetting", "InvalidRoad", "InvalidPiece"]))) (gName 1))
      (tSeq (tAsg (tOp rCat (tVar 1) (tLst (tErrs (fun x => tMkE (ga K x) (tVar 0)) ["InvalidWork", "InvalidPoints", "InvalidHeights"]))) (gName 1))
      (tSeq (tAsg (tOp rCat (tVar 1) (tLst (tErrs (fun x => tMkE (ga K x) (tVar 0)) ["InvalidCount", "InvalidForm", "InvalidShow"]))) (gName 1))
      (tSeq (tAsg (tOp rCat (tVar 1) (tLst (tErrs (fun x => tMkE (ga K x) (tVar 0)) ["InvalidWeights", "InvalidChange", "InvalidChanges"]))) (gName 1))
      (tSeq (tAsg (tOp rCat (tVar 1) (tLst (tErrs (fun x => tMkE (ga K x) (tVar 0)) ["InvalidHall", "InvalidSpot", "InvalidScript"]))) (gName 1))
      (tSeq (tAsg (tOp rCat (tVar 1) (tLst (tErrs (fun x => tMkE (ga K x) (tVar 0)) ["InvalidText", "InvalidLog", "Unlike"]))) (gName 1))
      (tSeq (tAsg (tOp rCat (tVar 1) (tLst (tErrs (fun x => tMkE (ga K x) (tVar 0)) ["Unpaired", "Apart", "Refused"]))) (gName 1))
      (tRet (tVar 1)))))))))), pss_cons (ps_set (i := 1) nd rfl (.inl rfl) (pe_lst (pa_cons (pe_mkEK (mks T (em 0)) hr (pv 0)) (pa_cons (pe_mkEK (mks T (em 1)) hr (pv 0)) (pa_cons (pe_mkEK (mks T (em 2)) hr (pv 0)) pa_nil)))))
      (pss_cons (ps_set (i := 1) nd rfl (.inl rfl) (pe_op op_cat (pv 1) (pe_lst (pa_cons (pe_mkEK (mks T (em 3)) hr (pv 0)) (pa_cons (pe_mkEK (mks T (em 4)) hr (pv 0)) (pa_cons (pe_mkEK (mks T (em 5)) hr (pv 0)) pa_nil))))))
      (pss_cons (ps_set (i := 1) nd rfl (.inl rfl) (pe_op op_cat (pv 1) (pe_lst (pa_cons (pe_mkEK (mks T (em 6)) hr (pv 0)) (pa_cons (pe_mkEK (mks T (em 7)) hr (pv 0)) (pa_cons (pe_mkEK (mks T (em 8)) hr (pv 0)) pa_nil))))))
      (pss_cons (ps_set (i := 1) nd rfl (.inl rfl) (pe_op op_cat (pv 1) (pe_lst (pa_cons (pe_mkEK (mks T (em 9)) hr (pv 0)) (pa_cons (pe_mkEK (mks T (em 10)) hr (pv 0)) (pa_cons (pe_mkEK (mks T (em 11)) hr (pv 0)) pa_nil))))))
      (pss_cons (ps_set (i := 1) nd rfl (.inl rfl) (pe_op op_cat (pv 1) (pe_lst (pa_cons (pe_mkEK (mks T (em 12)) hr (pv 0)) (pa_cons (pe_mkEK (mks T (em 13)) hr (pv 0)) (pa_cons (pe_mkEK (mks T (em 14)) hr (pv 0)) pa_nil))))))
      (pss_cons (ps_set (i := 1) nd rfl (.inl rfl) (pe_op op_cat (pv 1) (pe_lst (pa_cons (pe_mkEK (mks T (em 15)) hr (pv 0)) (pa_cons (pe_mkEK (mks T (em 16)) hr (pv 0)) (pa_cons (pe_mkEK (mks T (em 17)) hr (pv 0)) pa_nil))))))
      (pss_cons (ps_set (i := 1) nd rfl (.inl rfl) (pe_op op_cat (pv 1) (pe_lst (pa_cons (pe_mkEK (mks T (em 18)) hr (pv 0)) (pa_cons (pe_mkEK (mks T (em 19)) hr (pv 0)) (pa_cons (pe_mkEK (mks T (em 20)) hr (pv 0)) pa_nil))))))
      (pss_cons (ps_set (i := 1) nd rfl (.inl rfl) (pe_op op_cat (pv 1) (pe_lst (pa_cons (pe_mkEK (mks T (em 21)) hr (pv 0)) (pa_cons (pe_mkEK (mks T (em 22)) hr (pv 0)) (pa_cons (pe_mkEK (mks T (em 23)) hr (pv 0)) pa_nil))))))
      (pss_cons (ps_set (i := 1) nd rfl (.inl rfl) (pe_op op_cat (pv 1) (pe_lst (pa_cons (pe_mkEK (mks T (em 24)) hr (pv 0)) (pa_cons (pe_mkEK (mks T (em 25)) hr (pv 0)) (pa_cons (pe_mkEK (mks T (em 26)) hr (pv 0)) pa_nil))))))
      (pss_one (ps_ret (pv 1))))))))))), ?_⟩
    have m : Makes K (fun σ => σ[0]? = some (some v)) (fun x => tMkE (ga K x) (tVar 0)) v := fun x σ H Q hs h => ⟨v, hs, fun a H' s _ e => h a H' s e⟩
    refine st_first m (by decide) rfl fun p0 y0 H0 s0 n0 e0 r0 => ?_
    refine st_more m (by decide) (by decide) rfl rfl e0 r0 fun p1 y1 H1 s1' n1 e1 r1 => ?_
    have s1 := s0.trans s1'
    have n1' := s0.free n1
    refine st_more m (by decide) (by decide) rfl rfl e1 r1 fun p2 y2 H2 s2' n2 e2 r2 => ?_
    have s2 := s1.trans s2'
    have n2' := s1.free n2
    refine st_more m (by decide) (by decide) rfl rfl e2 r2 fun p3 y3 H3 s3' n3 e3 r3 => ?_
    have s3 := s2.trans s3'
    have n3' := s2.free n3
    refine st_more m (by decide) (by decide) rfl rfl e3 r3 fun p4 y4 H4 s4' n4 e4 r4 => ?_
    have s4 := s3.trans s4'
    have n4' := s3.free n4
    refine st_more m (by decide) (by decide) rfl rfl e4 r4 fun p5 y5 H5 s5' n5 e5 r5 => ?_
    have s5 := s4.trans s5'
    have n5' := s4.free n5
    refine st_more m (by decide) (by decide) rfl rfl e5 r5 fun p6 y6 H6 s6' n6 e6 r6 => ?_
    have s6 := s5.trans s6'
    have n6' := s5.free n6
    refine st_more m (by decide) (by decide) rfl rfl e6 r6 fun p7 y7 H7 s7' n7 e7 r7 => ?_
    have s7 := s6.trans s7'
    have n7' := s6.free n7
    refine st_more m (by decide) (by decide) rfl rfl e7 r7 fun p8 y8 H8 s8' n8 e8 r8 => ?_
    have s8 := s7.trans s8'
    have n8' := s7.free n8
    exact ⟨_, rfl, k p8 y8 H8 s8 n8' e8 r8⟩
theorem ok_bare {f : Addr} {fd : FuncData} (F : FnP K "_law_bare" s_bare f fd) (T : TX K mg) : FnOk P w K mg base CX0 3 f fd [] (spBare K) := by
  refine fnP_ok F sc_bare (fun vs H Q E h => ?_) (fun cdv A outer s H vs Q E hr h => ?_)
  · obtain ⟨rfl, _⟩ := h
    rfl
  · obtain ⟨rfl, k⟩ := h
    have nd := sc_bare.nd
    refine ⟨tSeq (tAsg (tLst (tErrs (fun x => tMk0 (ga K x)) ["InvalidLamp", "InvalidLamps", "InvalidTies", "InvalidWishes", "InvalidNet", "InvalidMap"])) (gName 0))
      (tSeq (tAsg (tOp rCat (tVar 0) (tLst (tErrs (fun x => tMk0 (ga K x)) ["InvalidSetting", "InvalidRoad", "InvalidPiece", "InvalidWork", "InvalidPoints"]))) (gName 0))
      (tSeq (tAsg (tOp rCat (tVar 0) (tLst (tErrs (fun x => tMk0 (ga K x)) ["InvalidHeights", "InvalidCount", "InvalidForm", "InvalidShow", "InvalidWeights"]))) (gName 0))
      (tSeq (tAsg (tOp rCat (tVar 0) (tLst (tErrs (fun x => tMk0 (ga K x)) ["InvalidChange", "InvalidChanges", "InvalidHall", "InvalidSpot", "InvalidScript"]))) (gName 0))
      (tSeq (tAsg (tOp rCat (tVar 0) (tLst (tErrs (fun x => tMk0 (ga K x)) ["InvalidText", "InvalidLog", "Unlike", "Unpaired", "Apart", "Refused"]))) (gName 0))
      (tRet (tVar 0)))))), pss_cons (ps_set (i := 0) nd rfl (.inl rfl) (pe_lst (pa_cons (pe_mk0 (mks T (em 0)) hr) (pa_cons (pe_mk0 (mks T (em 1)) hr) (pa_cons (pe_mk0 (mks T (em 2)) hr) (pa_cons (pe_mk0 (mks T (em 3)) hr) (pa_cons (pe_mk0 (mks T (em 4)) hr) (pa_cons (pe_mk0 (mks T (em 5)) hr) pa_nil))))))))
      (pss_cons (ps_set (i := 0) nd rfl (.inl rfl) (pe_op op_cat (pv 0) (pe_lst (pa_cons (pe_mk0 (mks T (em 6)) hr) (pa_cons (pe_mk0 (mks T (em 7)) hr) (pa_cons (pe_mk0 (mks T (em 8)) hr) (pa_cons (pe_mk0 (mks T (em 9)) hr) (pa_cons (pe_mk0 (mks T (em 10)) hr) pa_nil))))))))
      (pss_cons (ps_set (i := 0) nd rfl (.inl rfl) (pe_op op_cat (pv 0) (pe_lst (pa_cons (pe_mk0 (mks T (em 11)) hr) (pa_cons (pe_mk0 (mks T (em 12)) hr) (pa_cons (pe_mk0 (mks T (em 13)) hr) (pa_cons (pe_mk0 (mks T (em 14)) hr) (pa_cons (pe_mk0 (mks T (em 15)) hr) pa_nil))))))))
      (pss_cons (ps_set (i := 0) nd rfl (.inl rfl) (pe_op op_cat (pv 0) (pe_lst (pa_cons (pe_mk0 (mks T (em 16)) hr) (pa_cons (pe_mk0 (mks T (em 17)) hr) (pa_cons (pe_mk0 (mks T (em 18)) hr) (pa_cons (pe_mk0 (mks T (em 19)) hr) (pa_cons (pe_mk0 (mks T (em 20)) hr) pa_nil))))))))
      (pss_cons (ps_set (i := 0) nd rfl (.inl rfl) (pe_op op_cat (pv 0) (pe_lst (pa_cons (pe_mk0 (mks T (em 21)) hr) (pa_cons (pe_mk0 (mks T (em 22)) hr) (pa_cons (pe_mk0 (mks T (em 23)) hr) (pa_cons (pe_mk0 (mks T (em 24)) hr) (pa_cons (pe_mk0 (mks T (em 25)) hr) (pa_cons (pe_mk0 (mks T (em 26)) hr) pa_nil)))))))))
      (pss_one (ps_ret (pv 0))))))), ?_⟩
    have m : Makes K (fun _ => True) (fun x => tMk0 (ga K x)) .non := fun x σ H Q hs h => fun a H' s _ e => h a H' s e
    refine st_first m (by decide) trivial fun p0 y0 H0 s0 n0 e0 r0 => ?_
    refine st_more m (by decide) (by decide) trivial rfl e0 r0 fun p1 y1 H1 s1' n1 e1 r1 => ?_
    have s1 := s0.trans s1'
    have n1' := s0.free n1
    refine st_more m (by decide) (by decide) trivial rfl e1 r1 fun p2 y2 H2 s2' n2 e2 r2 => ?_
    have s2 := s1.trans s2'
    have n2' := s1.free n2
    refine st_more m (by decide) (by decide) trivial rfl e2 r2 fun p3 y3 H3 s3' n3 e3 r3 => ?_
    have s3 := s2.trans s3'
    have n3' := s2.free n3
    refine st_more m (by decide) (by decide) trivial rfl e3 r3 fun p4 y4 H4 s4' n4 e4 r4 => ?_
    have s4 := s3.trans s4'
    have n4' := s3.free n4
    exact ⟨_, rfl, k p4 y4 H4 s4 n4' e4 r4⟩
end
end K1
/-! which error an error is -/
namespace K1
open PySem PySem.Spec PyProof.Rows L2 He
/-- [isinstance(e, X), ..] -/
def tIss (K : Frag) : List Str → TA
  | [] => tNil
  | x :: xs => tCons (tCB (rIsX K) (tCons (tVar 0) (tCons (tC (.ref (ga K x))) tNil))) (tIss K xs)
/-- what is known of an error that is asked: it stands at a, of the class at C; b tells of which classes it is -/
structure Asked (K : Frag) (H : Hp) (a C : Addr) (b : Str → Bool) : Prop where
  ec : EC K C
  at_ : ∃ d, ErrD H a C d
  kit : ∀ x ∈ allErrs, PySem.W.kitOne K (.ref C) (.ref (ga K x)) = some (b x)
  top : PySem.W.kitOne K (.ref C) (.ref (ga K lampE)) = some true
  ve : PySem.W.kitOne K (.ref C) (.type "ValueError") = some true
theorem Asked.same {K : Frag} {H H' : Hp} {a C : Addr} {b : Str → Bool} (s : Same H H') (A : Asked K H a C b) : Asked K H' a C b := ⟨A.ec, let ⟨d, h⟩ := A.at_; ⟨d, h.same s⟩, A.kit, A.top, A.ve⟩
theorem tIss_ok {K : Frag} {a C : Addr} {b : Str → Bool} {σ : L2.St} (hσ : σ[0]? = some (some (.ref a))) : ∀ (xs : List Str) (H : Hp) (Q : List V → Hp → Prop), Asked K H a C b → (∀ x ∈ xs, x ∈ allErrs) → Q (xs.map fun x => V.bl (b x)) H → tIss K xs σ H Q
  | [], H, Q, _, _, h => h
  | x :: xs, H, Q, A, hx, h => by
    obtain ⟨d, hd⟩ := A.at_
    exact ⟨_, hσ, a, C, d, _, _, b x, rfl, A.ec, hd, fun u r => r, A.kit x (hx x List.mem_cons_self), tIss_ok hσ xs H (fun ys H' => Q (.bl (b x) :: ys) H') A (fun y hy => hx y (List.mem_cons_of_mem _ hy)) h⟩
theorem tIss_lst {K : Frag} {a C : Addr} {b : Str → Bool} {σ : L2.St} (hσ : σ[0]? = some (some (.ref a))) {xs : List Str} {H : Hp} {Q : VK} (A : Asked K H a C b) (hl : xs.length ≤ 100) (hx : ∀ x ∈ xs, x ∈ allErrs)
    (h : ∀ p, H p = none → Q (.ref p) (upd H p (.lst (xs.map fun x => V.bl (b x))))) : tLst (tIss K xs) σ H Q :=
  tIss_ok hσ xs H _ A hx ⟨Nat.le_trans (by rw [List.length_map]; exact hl) (by decide), h⟩
theorem ci_first {K : Frag} {a C : Addr} {b : Str → Bool} {xs : List Str} {i : Nat} {D : Ends} {σ : L2.St} {H : Hp} (hσ : σ[0]? = some (some (.ref a))) (A : Asked K H a C b) (hl : xs.length ≤ 100) (hx : ∀ x ∈ xs, x ∈ allErrs)
    (h : ∀ p H', Same H H' → H p = none → H' p = some (.lst (xs.map fun x => V.bl (b x))) → D.nx (σ.set i (some (.ref p))) H') : tAsg (tLst (tIss K xs)) (gName i) D σ H :=
  tIss_lst hσ A hl hx fun p np => h p _ (same_new np) np upd_same
theorem ci_more {K : Frag} {a C : Addr} {b : Str → Bool} {xs ws : List Str} {i : Nat} {D : Ends} {σ : L2.St} {H : Hp} {p : Addr} (hσ : σ[0]? = some (some (.ref a))) (A : Asked K H a C b) (hl : xs.length ≤ 100) (hw : ws.length ≤ 100) (hx : ∀ x ∈ xs, x ∈ allErrs)
    (hp : σ[i]? = some (some (.ref p))) (e : H p = some (.lst (ws.map fun x => V.bl (b x)))) (h : ∀ p H', Same H H' → H p = none → H' p = some (.lst ((ws ++ xs).map fun x => V.bl (b x))) → D.nx (σ.set i (some (.ref p))) H') :
    tAsg (tOp rCat (tVar i) (tLst (tIss K xs))) (gName i) D σ H := by
  refine ⟨_, hp, tIss_lst hσ A hl hx fun q nq => ⟨p, q, _, _, rfl, rfl, same_new nq _ _ e, upd_same, ?_, fun r nr => ?_⟩⟩
  · rw [List.length_map, List.length_map]
    exact Nat.le_trans (Nat.add_le_add hw hl) (by decide)
  · refine h r _ ((same_new nq).trans (same_new nr)) ((same_new nq).free nr) ?_
    rw [upd_same, List.map_append]
/-- the places where bs is true, of the first n -/
def trues (bs : List Bool) (n : Nat) : List V := ((List.range n).filter fun j => (bs[j]?).getD false).map fun (j : Nat) => V.int (j : Int)
theorem trues_step {bs : List Bool} {n : Nat} {c : Bool} (h : bs[n]? = some c) : trues bs (n + 1) = if c = true then trues bs n ++ [V.int (n : Int)] else trues bs n := by
  unfold trues
  rw [List.range_succ, List.filter_append]
  have e : (List.filter (fun j => (bs[j]?).getD false) [n]) = if c = true then [n] else [] := by
    rw [List.filter_cons, h]
    rfl
  rw [e]
  cases c with
  | true => rw [if_pos rfl, if_pos rfl, List.map_append]; rfl
  | false => rw [if_neg Bool.false_ne_true, if_neg Bool.false_ne_true, List.append_nil]
theorem trues_len (bs : List Bool) (n : Nat) : (trues bs n).length ≤ n := by
  unfold trues
  rw [List.length_map]
  exact Nat.le_trans (List.length_filter_le _ _) (Nat.le_of_eq List.length_range)
def codeOf (b : Str → Bool) : List V := trues (allErrs.map b) 29
def spCode (K : Frag) : Sp := fun vs H Q _ => ∃ (a C : Addr) (b : Str → Bool), vs = [.ref a] ∧ Asked K H a C b ∧ ∀ l H', Same H H' → H l = none → H' l = some (.lst (codeOf b)) → Q (.ref l) H'
def spIsErr (K : Frag) : Sp := fun vs H Q _ => ∃ (a C : Addr) (b : Str → Bool), vs = [.ref a] ∧ Asked K H a C b ∧ Q (.bl true) H
theorem inAll {xs : List Str} (h : (xs.all fun x => allErrs.any fun y => decide (x = y)) = true) : ∀ x ∈ xs, x ∈ allErrs := fun x hx => by
  have h1 := List.all_eq_true.mp h x hx
  obtain ⟨y, hy, e⟩ := List.any_eq_true.mp h1
  rw [of_decide_eq_true e]
  exact hy
theorem comp_trues {K : Frag} {bs : List Bool} {p : Addr} {e : Option V} {H : Hp} {Q : VK} (hl : bs.length = 29) (eB : H p = some (.lst (bs.map V.bl)))
    (k : ∀ D H', Same H H' → H D = none → H' D = some (.lst (trues bs 29)) → Q (.ref D) H') :
    tLc (iRng1 (tCons (tCB (fun xs H Q => ∃ p ys, xs = [.ref p] ∧ (SqL K H p ys ∨ SqT K H p ys) ∧ Q (.int ys.length) H) (tCons (tVar 1) tNil)) tNil)) (gName 2) (tB (tOp (rIxL K) (tVar 1) (tVar 2))) (tVar 2) [2] [e, some (.ref p), none] H Q := by
  refine ⟨_, rfl, p, _, rfl, .inl (SqL.of eB), 29, congrArg (fun z : Nat => [V.int (z : Int)]) (show (bs.map V.bl).length = 29 by rw [List.length_map, hl]), by decide, by decide, fun D nD => ?_⟩
  refine lc_range (lo := 0) (n := 29) (fun i H' => Same H H' ∧ H' D = some (.lst (trues bs i))) ⟨same_new nD, upd_same⟩ ?_ ?_
  · rintro i H' hi ⟨sm, eD⟩
    have hib : i < bs.length := by rw [hl]; exact hi
    have st := trues_step (bs := bs) (n := i) (List.getElem?_eq_getElem hib)
    have hat : (bs.map V.bl)[i]? = some (V.bl bs[i]) := by
      rw [List.getElem?_map, List.getElem?_eq_getElem hib]
      rfl
    have hat' : atI (bs.map V.bl) (0 + (i : Int)) = some (V.bl bs[i]) := by
      rw [Int.zero_add]
      exact atI_nat hat
    generalize bs[i] = c at st hat'
    refine ⟨rfl, .ref p, rfl, .int (0 + (i : Int)), rfl, p, bs.map V.bl, 0 + (i : Int), .bl c, rfl, rfl, SqL.of (sm _ _ eB), hat', c, rfl, ?_⟩
    cases c with
    | true =>
      refine iteT ?_
      rw [if_pos rfl] at st
      refine ⟨.int (0 + (i : Int)), rfl, trues bs i, eD, Nat.lt_of_le_of_lt (trues_len _ i) (small1000 (by omega)), ?_, ?_⟩
      · intro q u z
        rw [upd_ne (ne_of_none z nD)]
        exact sm _ _ z
      · rw [upd_same, st, Int.zero_add]
    | false =>
      refine iteF ?_
      rw [if_neg Bool.false_ne_true] at st
      exact ⟨sm, by rw [st]; exact eD⟩
  · rintro H' ⟨sm, eD⟩
    exact k D H' sm nD eD
section
variable {P : Program} {w : World} {K : Frag} {mg : Str → Option Value} {base : Heap}
theorem ok_iserr {f : Addr} {fd : FuncData} (F : FnP K "_law_is_error" s_iserr f fd) (T : TX K mg) (B : FreeN mg) : FnOk P w K mg base CX0 1 f fd ["_law_error"] (spIsErr K) := by
  refine fnP_ok F sc_iserr (fun vs H Q E h => ?_) (fun cdv A outer s H vs Q E hr h => ?_)
  · obtain ⟨a, C, b, rfl, _⟩ := h
    rfl
  · obtain ⟨a, C, b, rfl, A, k⟩ := h
    refine ⟨_, pss_one (ps_ret (pe_and (pe_callB call_isX (by rfl) B.isi (by decide +kernel) (pa_cons (pv 0) (pa_cons (pe_glob (v := .ref (ga K lampE)) (by rfl) (T.g lampE List.mem_cons_self) rfl) pa_nil)))
      (pe_one (pe_callB call_isX (by rfl) B.isi (by decide +kernel) (pa_cons (pv 0) (pa_cons (pe_bltn (v := .ty "ValueError") (by rfl) B.ve (by decide +kernel) rfl) pa_nil)))))), ?_⟩
    obtain ⟨d, hd⟩ := A.at_
    refine ⟨_, rfl, a, C, d, _, _, true, rfl, A.ec, hd, fun u r => r, A.top, true, rfl, ?_⟩
    exact ⟨_, rfl, a, C, d, _, _, true, rfl, A.ec, hd, fun u r => r, A.ve, k⟩
theorem ok_code {f : Addr} {fd : FuncData} (F : FnP K "_law_code" s_code f fd) (T : TX K mg) (B : FreeN mg) : FnOk P w K mg base CX0 1 f fd ["_law_error"] (spCode K) := by
  refine fnP_ok F sc_code (fun vs H Q E h => ?_) (fun cdv A outer s H vs Q E hr h => ?_)
  · obtain ⟨a, C, b, rfl, _⟩ := h
    rfl
  · obtain ⟨a, C, b, rfl, A, k⟩ := h
    have nd := sc_code.nd
    refine ⟨tSeq (tAsg (tLst (tIss K ["InvalidLamp", "InvalidLamps", "InvalidTies"])) (gName 1))
      (tSeq (tAsg (tOp rCat (tVar 1) (tLst (tIss K ["InvalidWishes", "InvalidNet"]))) (gName 1))
      (tSeq (tAsg (tOp rCat (tVar 1) (tLst (tIss K ["InvalidMap", "InvalidSetting"]))) (gName 1))
      (tSeq (tAsg (tOp rCat (tVar 1) (tLst (tIss K ["InvalidRoad", "InvalidPiece"]))) (gName 1))
      (tSeq (tAsg (tOp rCat (tVar 1) (tLst (tIss K ["InvalidWork", "InvalidPoints"]))) (gName 1))
      (tSeq (tAsg (tOp rCat (tVar 1) (tLst (tIss K ["InvalidHeights", "InvalidCount"]))) (gName 1))
      (tSeq (tAsg (tOp rCat (tVar 1) (tLst (tIss K ["InvalidForm", "InvalidShow"]))) (gName 1))
      (tSeq (tAsg (tOp rCat (tVar 1) (tLst (tIss K ["InvalidWeights", "InvalidChange"]))) (gName 1))
      (tSeq (tAsg (tOp rCat (tVar 1) (tLst (tIss K ["InvalidChanges", "InvalidHall"]))) (gName 1))
      (tSeq (tAsg (tOp rCat (tVar 1) (tLst (tIss K ["InvalidSpot", "InvalidScript"]))) (gName 1))
      (tSeq (tAsg (tOp rCat (tVar 1) (tLst (tIss K ["InvalidText", "InvalidLog", "Unlike"]))) (gName 1))
      (tSeq (tAsg (tOp rCat (tVar 1) (tLst (tIss K ["Unpaired", "Apart", "Refused"]))) (gName 1))
      (tSeq (tAsg (tOp rCat (tVar 1) (tLst (tIss K ["NothingToUndo", "NothingToRedo"]))) (gName 1))
      (tRet (tLc (iRng1 (tCons (tCB (fun xs H Q => ∃ p ys, xs = [.ref p] ∧ (SqL K H p ys ∨ SqT K H p ys) ∧ Q (.int ys.length) H) (tCons (tVar 1) tNil)) tNil)) (gName 2) (tB (tOp (rIxL K) (tVar 1) (tVar 2))) (tVar 2) [2])))))))))))))), pss_cons (ps_set (i := 1) nd rfl (.inr rfl) (pe_lst (pa_cons (pe_callB call_isX (by rfl) B.isi (by decide +kernel) (pa_cons (pv 0) (pa_cons (pe_glob (v := .ref (ga K "InvalidLamp")) (by rfl) (T.g "InvalidLamp" (emL 0)) rfl) pa_nil))) (pa_cons (pe_callB call_isX (by rfl) B.isi (by decide +kernel) (pa_cons (pv 0) (pa_cons (pe_glob (v := .ref (ga K "InvalidLamps")) (by rfl) (T.g "InvalidLamps" (emL 1)) rfl) pa_nil))) (pa_cons (pe_callB call_isX (by rfl) B.isi (by decide +kernel) (pa_cons (pv 0) (pa_cons (pe_glob (v := .ref (ga K "InvalidTies")) (by rfl) (T.g "InvalidTies" (emL 2)) rfl) pa_nil))) pa_nil)))))
      (pss_cons (ps_set (i := 1) nd rfl (.inr rfl) (pe_op op_cat (pv 1) (pe_lst (pa_cons (pe_callB call_isX (by rfl) B.isi (by decide +kernel) (pa_cons (pv 0) (pa_cons (pe_glob (v := .ref (ga K "InvalidWishes")) (by rfl) (T.g "InvalidWishes" (emL 3)) rfl) pa_nil))) (pa_cons (pe_callB call_isX (by rfl) B.isi (by decide +kernel) (pa_cons (pv 0) (pa_cons (pe_glob (v := .ref (ga K "InvalidNet")) (by rfl) (T.g "InvalidNet" (emL 4)) rfl) pa_nil))) pa_nil)))))
      (pss_cons (ps_set (i := 1) nd rfl (.inr rfl) (pe_op op_cat (pv 1) (pe_lst (pa_cons (pe_callB call_isX (by rfl) B.isi (by decide +kernel) (pa_cons (pv 0) (pa_cons (pe_glob (v := .ref (ga K "InvalidMap")) (by rfl) (T.g "InvalidMap" (emL 5)) rfl) pa_nil))) (pa_cons (pe_callB call_isX (by rfl) B.isi (by decide +kernel) (pa_cons (pv 0) (pa_cons (pe_glob (v := .ref (ga K "InvalidSetting")) (by rfl) (T.g "InvalidSetting" (emL 6)) rfl) pa_nil))) pa_nil)))))
      (pss_cons (ps_set (i := 1) nd rfl (.inr rfl) (pe_op op_cat (pv 1) (pe_lst (pa_cons (pe_callB call_isX (by rfl) B.isi (by decide +kernel) (pa_cons (pv 0) (pa_cons (pe_glob (v := .ref (ga K "InvalidRoad")) (by rfl) (T.g "InvalidRoad" (emL 7)) rfl) pa_nil))) (pa_cons (pe_callB call_isX (by rfl) B.isi (by decide +kernel) (pa_cons (pv 0) (pa_cons (pe_glob (v := .ref (ga K "InvalidPiece")) (by rfl) (T.g "InvalidPiece" (emL 8)) rfl) pa_nil))) pa_nil)))))
      (pss_cons (ps_set (i := 1) nd rfl (.inr rfl) (pe_op op_cat (pv 1) (pe_lst (pa_cons (pe_callB call_isX (by rfl) B.isi (by decide +kernel) (pa_cons (pv 0) (pa_cons (pe_glob (v := .ref (ga K "InvalidWork")) (by rfl) (T.g "InvalidWork" (emL 9)) rfl) pa_nil))) (pa_cons (pe_callB call_isX (by rfl) B.isi (by decide +kernel) (pa_cons (pv 0) (pa_cons (pe_glob (v := .ref (ga K "InvalidPoints")) (by rfl) (T.g "InvalidPoints" (emL 10)) rfl) pa_nil))) pa_nil)))))
      (pss_cons (ps_set (i := 1) nd rfl (.inr rfl) (pe_op op_cat (pv 1) (pe_lst (pa_cons (pe_callB call_isX (by rfl) B.isi (by decide +kernel) (pa_cons (pv 0) (pa_cons (pe_glob (v := .ref (ga K "InvalidHeights")) (by rfl) (T.g "InvalidHeights" (emL 11)) rfl) pa_nil))) (pa_cons (pe_callB call_isX (by rfl) B.isi (by decide +kernel) (pa_cons (pv 0) (pa_cons (pe_glob (v := .ref (ga K "InvalidCount")) (by rfl) (T.g "InvalidCount" (emL 12)) rfl) pa_nil))) pa_nil)))))
      (pss_cons (ps_set (i := 1) nd rfl (.inr rfl) (pe_op op_cat (pv 1) (pe_lst (pa_cons (pe_callB call_isX (by rfl) B.isi (by decide +kernel) (pa_cons (pv 0) (pa_cons (pe_glob (v := .ref (ga K "InvalidForm")) (by rfl) (T.g "InvalidForm" (emL 13)) rfl) pa_nil))) (pa_cons (pe_callB call_isX (by rfl) B.isi (by decide +kernel) (pa_cons (pv 0) (pa_cons (pe_glob (v := .ref (ga K "InvalidShow")) (by rfl) (T.g "InvalidShow" (emL 14)) rfl) pa_nil))) pa_nil)))))
      (pss_cons (ps_set (i := 1) nd rfl (.inr rfl) (pe_op op_cat (pv 1) (pe_lst (pa_cons (pe_callB call_isX (by rfl) B.isi (by decide +kernel) (pa_cons (pv 0) (pa_cons (pe_glob (v := .ref (ga K "InvalidWeights")) (by rfl) (T.g "InvalidWeights" (emL 15)) rfl) pa_nil))) (pa_cons (pe_callB call_isX (by rfl) B.isi (by decide +kernel) (pa_cons (pv 0) (pa_cons (pe_glob (v := .ref (ga K "InvalidChange")) (by rfl) (T.g "InvalidChange" (emL 16)) rfl) pa_nil))) pa_nil)))))
      (pss_cons (ps_set (i := 1) nd rfl (.inr rfl) (pe_op op_cat (pv 1) (pe_lst (pa_cons (pe_callB call_isX (by rfl) B.isi (by decide +kernel) (pa_cons (pv 0) (pa_cons (pe_glob (v := .ref (ga K "InvalidChanges")) (by rfl) (T.g "InvalidChanges" (emL 17)) rfl) pa_nil))) (pa_cons (pe_callB call_isX (by rfl) B.isi (by decide +kernel) (pa_cons (pv 0) (pa_cons (pe_glob (v := .ref (ga K "InvalidHall")) (by rfl) (T.g "InvalidHall" (emL 18)) rfl) pa_nil))) pa_nil)))))
      (pss_cons (ps_set (i := 1) nd rfl (.inr rfl) (pe_op op_cat (pv 1) (pe_lst (pa_cons (pe_callB call_isX (by rfl) B.isi (by decide +kernel) (pa_cons (pv 0) (pa_cons (pe_glob (v := .ref (ga K "InvalidSpot")) (by rfl) (T.g "InvalidSpot" (emL 19)) rfl) pa_nil))) (pa_cons (pe_callB call_isX (by rfl) B.isi (by decide +kernel) (pa_cons (pv 0) (pa_cons (pe_glob (v := .ref (ga K "InvalidScript")) (by rfl) (T.g "InvalidScript" (emL 20)) rfl) pa_nil))) pa_nil)))))
      (pss_cons (ps_set (i := 1) nd rfl (.inr rfl) (pe_op op_cat (pv 1) (pe_lst (pa_cons (pe_callB call_isX (by rfl) B.isi (by decide +kernel) (pa_cons (pv 0) (pa_cons (pe_glob (v := .ref (ga K "InvalidText")) (by rfl) (T.g "InvalidText" (emL 21)) rfl) pa_nil))) (pa_cons (pe_callB call_isX (by rfl) B.isi (by decide +kernel) (pa_cons (pv 0) (pa_cons (pe_glob (v := .ref (ga K "InvalidLog")) (by rfl) (T.g "InvalidLog" (emL 22)) rfl) pa_nil))) (pa_cons (pe_callB call_isX (by rfl) B.isi (by decide +kernel) (pa_cons (pv 0) (pa_cons (pe_glob (v := .ref (ga K "Unlike")) (by rfl) (T.g "Unlike" (emL 23)) rfl) pa_nil))) pa_nil))))))
      (pss_cons (ps_set (i := 1) nd rfl (.inr rfl) (pe_op op_cat (pv 1) (pe_lst (pa_cons (pe_callB call_isX (by rfl) B.isi (by decide +kernel) (pa_cons (pv 0) (pa_cons (pe_glob (v := .ref (ga K "Unpaired")) (by rfl) (T.g "Unpaired" (emL 24)) rfl) pa_nil))) (pa_cons (pe_callB call_isX (by rfl) B.isi (by decide +kernel) (pa_cons (pv 0) (pa_cons (pe_glob (v := .ref (ga K "Apart")) (by rfl) (T.g "Apart" (emL 25)) rfl) pa_nil))) (pa_cons (pe_callB call_isX (by rfl) B.isi (by decide +kernel) (pa_cons (pv 0) (pa_cons (pe_glob (v := .ref (ga K "Refused")) (by rfl) (T.g "Refused" (emL 26)) rfl) pa_nil))) pa_nil))))))
      (pss_cons (ps_set (i := 1) nd rfl (.inr rfl) (pe_op op_cat (pv 1) (pe_lst (pa_cons (pe_callB call_isX (by rfl) B.isi (by decide +kernel) (pa_cons (pv 0) (pa_cons (pe_glob (v := .ref (ga K "NothingToUndo")) (by rfl) (T.g "NothingToUndo" (emL 27)) rfl) pa_nil))) (pa_cons (pe_callB call_isX (by rfl) B.isi (by decide +kernel) (pa_cons (pv 0) (pa_cons (pe_glob (v := .ref (ga K "NothingToRedo")) (by rfl) (T.g "NothingToRedo" (emL 28)) rfl) pa_nil))) pa_nil)))))
      (pss_one (ps_ret (pe_lc (own := [("_law_at", 2)]) (g := gName 2) rfl nd (pi_range1 rfl B.range (pa_cons (pe_callB call_len_seq (by rfl) B.len PySem.boot_len (pa_cons (pv 1) pa_nil)) pa_nil)) (blkOk_by (N := ["_law_error", "_law_found", "_law_at"]) (sc := defScope s_code) (by decide +kernel)) (fun _ _ _ _ _ => pg_name (i := 2) nd rfl (Or.inl rfl)) (fun _ _ _ _ _ => pts_one (pt_val (pe_ix ix_list (pv 1) (pv 2) (fun _ _ => rfl)))) (fun _ _ _ _ _ => pv 2)))))))))))))))), ?_⟩
    refine ci_first rfl A (by decide) (inAll (by decide +kernel)) fun p0 H0 s0 n0 e0 => ?_
    refine ci_more rfl (A.same s0) (by decide) (by decide) (inAll (by decide +kernel)) rfl e0 fun p1 H1 s1' n1 e1 => ?_
    have s1 := s0.trans s1'
    refine ci_more rfl (A.same s1) (by decide) (by decide) (inAll (by decide +kernel)) rfl e1 fun p2 H2 s2' n2 e2 => ?_
    have s2 := s1.trans s2'
    refine ci_more rfl (A.same s2) (by decide) (by decide) (inAll (by decide +kernel)) rfl e2 fun p3 H3 s3' n3 e3 => ?_
    have s3 := s2.trans s3'
    refine ci_more rfl (A.same s3) (by decide) (by decide) (inAll (by decide +kernel)) rfl e3 fun p4 H4 s4' n4 e4 => ?_
    have s4 := s3.trans s4'
    refine ci_more rfl (A.same s4) (by decide) (by decide) (inAll (by decide +kernel)) rfl e4 fun p5 H5 s5' n5 e5 => ?_
    have s5 := s4.trans s5'
    refine ci_more rfl (A.same s5) (by decide) (by decide) (inAll (by decide +kernel)) rfl e5 fun p6 H6 s6' n6 e6 => ?_
    have s6 := s5.trans s6'
    refine ci_more rfl (A.same s6) (by decide) (by decide) (inAll (by decide +kernel)) rfl e6 fun p7 H7 s7' n7 e7 => ?_
    have s7 := s6.trans s7'
    refine ci_more rfl (A.same s7) (by decide) (by decide) (inAll (by decide +kernel)) rfl e7 fun p8 H8 s8' n8 e8 => ?_
    have s8 := s7.trans s8'
    refine ci_more rfl (A.same s8) (by decide) (by decide) (inAll (by decide +kernel)) rfl e8 fun p9 H9 s9' n9 e9 => ?_
    have s9 := s8.trans s9'
    refine ci_more rfl (A.same s9) (by decide) (by decide) (inAll (by decide +kernel)) rfl e9 fun p10 H10 s10' n10 e10 => ?_
    have s10 := s9.trans s10'
    refine ci_more rfl (A.same s10) (by decide) (by decide) (inAll (by decide +kernel)) rfl e10 fun p11 H11 s11' n11 e11 => ?_
    have s11 := s10.trans s11'
    refine ci_more rfl (A.same s11) (by decide) (by decide) (inAll (by decide +kernel)) rfl e11 fun p12 H12 s12' n12 e12 => ?_
    have s12 := s11.trans s12'
    have eAll : H12 p12 = some (.lst (allErrs.map fun x => V.bl (b x))) := e12
    exact comp_trues (bs := allErrs.map b) (by rw [List.length_map]; rfl) (by rw [List.map_map]; exact eAll) fun D H' sm nD eD => k D H' (s12.trans sm) (s12.free nD) eD
end
end K1
/-! a list of errors is right -/
namespace K1
open PySem PySem.Spec PyProof.Rows L2 He
/-- the class of the i-th error answers just its own place -/
theorem code_own : ∀ i : Nat, i < 27 → ∀ x, errs[i]? = some x → codeOf (fun y => decide (x = y)) = [V.int (i : Int)] := by
  have h : ∀ i : Fin 27, codeOf (fun y => decide ((errs[i.val]?).getD "" = y)) = [V.int (i.val : Int)] := by decide +kernel
  intro i hi x hx
  have := h ⟨i, hi⟩
  simp only [hx, Option.getD_some] at this
  exact this
theorem code_bare : codeOf (fun y => decide (("NothingToUndo" : Str) = y)) = [V.int 27] ∧ codeOf (fun y => decide (("NothingToRedo" : Str) = y)) = [V.int 28] ∧ codeOf (fun _ => false) = [] := by decide +kernel
theorem err_asked {K : Frag} {mg : Str → Option Value} (T : TX K mg) {x : Str} (hx : x ∈ allErrs) {H : Hp} {a : Addr} {d : Option Addr} (h : ErrD H a (ga K x) d) : Asked K H a (ga K x) (fun y => decide (x = y)) :=
  ⟨T.ec x (List.mem_cons_of_mem _ hx), ⟨d, h⟩, fun y hy => T.kit1 x hx y hy, (T.kit2 x (List.mem_cons_of_mem _ hx)).1, (T.kit2 x (List.mem_cons_of_mem _ hx)).2⟩
theorem top_asked {K : Frag} {mg : Str → Option Value} (T : TX K mg) {H : Hp} {a : Addr} {d : Option Addr} (h : ErrD H a (ga K lampE) d) : Asked K H a (ga K lampE) (fun _ => false) :=
  ⟨T.ec lampE List.mem_cons_self, ⟨d, h⟩, fun y hy => T.kit3 y hy, (T.kit2 lampE List.mem_cons_self).1, (T.kit2 lampE List.mem_cons_self).2⟩
/-- lists of one count each, from lo on -/
inductive Ones (H : Hp) : List V → Nat → Prop
  | nil {n : Nat} : Ones H [] n
  | cons {a : Addr} {ys : List V} {n : Nat} : H a = some (.lst [V.int (n : Int)]) → Ones H ys (n + 1) → Ones H (.ref a :: ys) n
theorem Ones.same {H H' : Hp} (s : Same H H') : ∀ {ys : List V} {n : Nat}, Ones H ys n → Ones H' ys n
  | _, _, .nil => .nil
  | _, _, .cons h t => .cons (s _ _ h) (Ones.same s t)
theorem Ones.snoc {H : Hp} {a : Addr} : ∀ {ys : List V} {n : Nat}, Ones H ys n → H a = some (.lst [V.int ((n + ys.length : Nat) : Int)]) → Ones H (ys ++ [.ref a]) n
  | _, n, .nil, h => .cons (by simpa using h) .nil
  | _, n, .cons (ys := ys) h t, h' => .cons h (Ones.snoc t (by
      have e : n + 1 + ys.length = n + (V.ref a :: ys).length := by rw [List.length_cons]; omega
      rw [e]
      exact h'))
def onesD : Nat → Nat → List PyData
  | _, 0 => []
  | n, k + 1 => .list [.int (n : Int)] :: onesD (n + 1) k
theorem Ones.dp {K : Frag} {H : Hp} : ∀ {ys : List V} {n : Nat}, Ones H ys n → DpAll K H ys (onesD n ys.length)
  | _, _, .nil => .nil
  | _, _, .cons h t => .cons (.lst (SqL.of h) (.cons (.int _) .nil)) (Ones.dp t)
theorem ones_shaped : ∀ (k n : Nat), SeqAt.shaped (.list (onesD n k)) = true → SeqAt.shaped (.list (onesD n k)) = true := fun _ _ h => h
end K1
/-! _law_right -/
namespace K1
open PySem PySem.Spec PyProof.Rows L2 He
theorem if_no {c : Bool} {A B : Prop} (hc : c = false) (h : B) : if c = true then A else B := by
  rw [hc]
  exact iteF h
/-- lists of one count each, from lo on, none of them at D -/
inductive OnesD (D : Addr) (H : Hp) : List V → Nat → Prop
  | nil {n : Nat} : OnesD D H [] n
  | cons {a : Addr} {ys : List V} {n : Nat} : a ≠ D → H a = some (.lst [V.int (n : Int)]) → OnesD D H ys (n + 1) → OnesD D H (.ref a :: ys) n
theorem OnesD.same {D : Addr} {H H' : Hp} (s : Same H H') : ∀ {ys : List V} {n : Nat}, OnesD D H ys n → OnesD D H' ys n
  | _, _, .nil => .nil
  | _, _, .cons d h t => .cons d (s _ _ h) (OnesD.same s t)
theorem OnesD.upd {D : Addr} {H : Hp} {o : HO} : ∀ {ys : List V} {n : Nat}, OnesD D H ys n → OnesD D (upd H D o) ys n
  | _, _, .nil => .nil
  | _, _, .cons d h t => .cons d (by rw [upd_ne d]; exact h) (OnesD.upd t)
theorem OnesD.snoc {D : Addr} {H : Hp} {a : Addr} (hd : a ≠ D) : ∀ {ys : List V} {n : Nat}, OnesD D H ys n → H a = some (.lst [V.int ((n + ys.length : Nat) : Int)]) → OnesD D H (ys ++ [.ref a]) n
  | _, n, .nil, h => .cons hd (by simpa using h) .nil
  | _, n, .cons (ys := ys) d h t, h' => .cons d h (OnesD.snoc hd t (by
      have e : n + 1 + ys.length = n + (V.ref a :: ys).length := by rw [List.length_cons]; omega
      rw [e]
      exact h'))
theorem OnesD.dp {K : Frag} {D : Addr} {H : Hp} : ∀ {ys : List V} {n : Nat}, OnesD D H ys n → DpAll K H ys (onesD n ys.length)
  | _, _, .nil => .nil
  | _, _, .cons _ h t => .cons (.lst (SqL.of h) (.cons (.int _) .nil)) (OnesD.dp t)
/-- a thing that can be shown, of few signs -/
structure Shows (K : Frag) (H : Hp) (v : V) (z : Str) : Prop where
  ex : ∃ d, Dq K H v d ∧ d.showable = true ∧ d.depth ≤ 60 ∧ d.shown.length ≤ sizeLine ∧ d.shown = z
theorem Shows.same {K : Frag} {H H' : Hp} {v : V} {z : Str} (s : Same H H') (h : Shows K H v z) : Shows K H' v z :=
  let ⟨d, h1, h2⟩ := h.ex
  ⟨d, h1.same s, h2⟩
theorem pe_repr {X : Cx} {e : Expr} {te : TE} {p pos : Pos} (he : PE X e te) (hm : X.mg "repr" = none) (hgd : X.A.guards = some []) (hu : X.A.units + 64 < cLine) (hg : Gl X "repr" := by rfl)
    (hs : starEach [e] X.env = (false, eval e X.env) :: starEach [] X.env := by rfl) (hpl : (backTo pos (starEach [] X.env)).any (·.1) = false := by rfl) : PE X (.Call (.Name "repr" p) [e] [] pos) (tCB (rRepr X.K) (tCons te tNil)) :=
  pe_callB (call_repr hgd hu) hg hm (by decide +kernel) (pa_cons he pa_nil hs) (he := hs) (hpl := hpl)
def spRight (K : Frag) : Sp := fun vs H Q _ => ∃ (l : Addr) (ys : List V) (v : V) (z : Str), vs = [.ref l, .str z] ∧ H l = some (.lst ys) ∧ ErrAll K H v ys errs ∧ Shows K H v z ∧ ∀ H', Same H H' → Q (.bl true) H'
theorem keepD {H H1 H2 : Hp} {D : Addr} {o : HO} (n : H D = none) (s : Same H H1) (s2 : Same H1 H2) : Same H (upd H2 D o) := fun b u e => by
  rw [upd_ne (ne_of_none e n)]
  exact s2 _ _ (s _ _ e)
section
variable {P : Program} {w : World} {K : Frag} {mg : Str → Option Value} {base : Heap}
theorem ok_right {f fC fE : Addr} {fd fdC fdE : FuncData} (F : FnP K "_law_right" s_right f fd) (T : TX K mg) (B : FreeN mg)
    (GC : FnOk P w K mg base CX0 1 fC fdC ["_law_error"] (spCode K)) (kC : PySem.W.keepIn K (.ref fC) = true) (bC : L2.Binds K fdC ["_law_error"] []) (gC : mg "_law_code" = some (.ref fC))
    (GE : FnOk P w K mg base CX0 1 fE fdE ["_law_error"] (spIsErr K)) (kE : PySem.W.keepIn K (.ref fE) = true) (bE : L2.Binds K fdE ["_law_error"] []) (gE : mg "_law_is_error" = some (.ref fE)) :
    FnG P w K mg base 3 f fd ["_law_some", "_law_noted"] (spRight K) := by
  refine fun_okG F sc_right (fun vs H Q E h => ?_) (fun cdv A outer s H vs Q E hgd hr h => ?_)
  · obtain ⟨l, ys, v, z, rfl, _⟩ := h
    rfl
  · obtain ⟨l, ys, v, z, rfl, el, er, sh, k⟩ := h
    have nd := sc_right.nd
    have hr1 : Room 1 _ := hr.mono (by decide)
    have hu := hr.units
    refine ⟨_, pss_cons (ps_if (pt_cmpR (op_neD hu)
        (pe_lc (own := [("_law_error", 2)]) (g := gName 2) (tt := tYes) rfl nd (pi_list (pv 0)) (blkOk_by (N := ["_law_some", "_law_noted", "_law_error", "_law_at"]) (sc := defScope s_right) (by decide +kernel)) (fun _ _ _ _ _ => pg_name (i := 2) nd rfl (Or.inl rfl)) (fun _ _ _ _ _ => pts_nil)
          (fun _ _ _ _ _ => pe_call GC hr1 (by rfl) gC kC bC .nil pass0 (pa_cons (pv 2) pa_nil)))
        (pe_lc (own := [("_law_at", 3)]) (g := gName 3) (tt := tYes) rfl nd (pi_range1 rfl B.range (pa_cons pe_int pa_nil)) (blkOk_by (N := ["_law_some", "_law_noted", "_law_error", "_law_at"]) (sc := defScope s_right) (by decide +kernel)) (fun _ _ _ _ _ => pg_name (i := 3) nd rfl (Or.inl rfl)) (fun _ _ _ _ _ => pts_nil)
          (fun _ _ _ _ _ => pe_lst (pa_cons (pv 3) pa_nil))) (nomark _)) (pss_one (ps_ret pe_bl)) pss_nil)
      (pss_one (ps_ret (pe_cmpR (op_eqD hu)
        (pe_lc (own := [("_law_error", 2)]) (g := gName 2) (tt := tOr (tNot (tB (tCall (spIsErr K) [] E0 (tCons (tVar 2) tNil)))) (tB (tOp rNe (tCB (rRepr K) (tCons (tValOf K (tVar 2)) tNil)) (tVar 1)))) rfl nd (pi_list (pv 0)) (blkOk_by (N := ["_law_some", "_law_noted", "_law_error", "_law_at"]) (sc := defScope s_right) (by decide +kernel)) (fun _ _ _ _ _ => pg_name (i := 2) nd rfl (Or.inl rfl))
          (fun _ _ _ _ _ => pts_one (PW.pt (pw_or (pt_not (pt_val (pe_call GE hr1 (by rfl) gE kE bE .nil pass0 (pa_cons (pv 2) pa_nil))))
            (pw_or1 (pt_cmpR op_ne (by exact pe_repr (pe_valOf (pv 2)) B.rep hgd hu) (pv 1) (nomark _))))))
          (fun _ _ _ _ _ => pv 2)) (pe_lst pa_nil) (nomark _)))), ?_⟩
    have lenY : ys.length = 27 := er.len
    -- the codes
    refine ⟨_, rfl, l, rfl, ⟨_, SqL.of el⟩, fun D nD => ?_⟩
    have nDl : l ≠ D := ne_of_none el nD
    refine lc_list (K := K) (a := l) (xs := ys) (fun i H' => Same H H' ∧ ∃ os, H' D = some (.lst os) ∧ OnesD D H' os 0 ∧ os.length = i) ⟨same_new nD, [], upd_same, .nil, rfl⟩ (fun i H' _ ⟨sm, _⟩ => SqL.of (sm _ _ el)) ?_ ?_
    · rintro i y H' hi ⟨sm, os, eD, oo, lo⟩
      obtain ⟨a, x, rfl, hx, ea⟩ := er.get hi
      have hi27 : i < 27 := by
        have := (List.getElem?_eq_some_iff.mp hi).1
        omega
      obtain ⟨d, hd⟩ := (ea.same sm).d
      have A := err_asked T (List.mem_append_left _ (List.mem_of_getElem? hx)) hd
      refine ⟨rfl, _, rfl, a, _, _, rfl, A, fun c H2 s2 nc ec => ⟨os, s2 _ _ eD, ?_, keepD nD sm s2, _, upd_same, ?_, ?_⟩⟩
      · rw [lo]
        exact small1000 (by omega)
      · rw [code_own i hi27 x hx] at ec
        have cD : c ≠ D := fun e => by
          rw [e, eD] at nc
          cases nc
        refine OnesD.upd (OnesD.snoc cD (oo.same s2) ?_)
        rw [lo, Nat.zero_add]
        exact ec
      · rw [List.length_append, lo]
        rfl
    · rintro H1 ⟨s1, os, eD, oo, lo⟩
      -- the counts
      refine ⟨27, rfl, by decide, by decide, fun D2 nD2 => ?_⟩
      refine lc_range (lo := 0) (n := 27) (fun i H' => Same H1 H' ∧ ∃ ps, H' D2 = some (.lst ps) ∧ OnesD D2 H' ps 0 ∧ ps.length = i) ⟨same_new nD2, [], upd_same, .nil, rfl⟩ ?_ ?_
      · rintro i H' hi ⟨sm, ps, eD2, pp, lp⟩
        refine ⟨rfl, _, rfl, (by show 1 ≤ sizeLine; decide), fun c nc => ⟨ps, ?_, ?_, ?_, _, upd_same, ?_, ?_⟩⟩
        · rw [upd_ne (ne_of_none eD2 nc)]
          exact eD2
        · rw [lp]
          exact small1000 (by omega)
        · exact keepD nD2 sm (same_new nc)
        · have cD : c ≠ D2 := fun e => by
            rw [e, eD2] at nc
            cases nc
          refine OnesD.upd (OnesD.snoc cD (pp.same (same_new nc)) ?_)
          rw [upd_same, lp, Nat.zero_add, Int.zero_add]
        · rw [List.length_append, lp]
          rfl
      · rintro H2 ⟨s2, ps, eD2, pp, lp⟩
        have d1 : Dp K H2 (.ref D) (.list (onesD 0 27)) := by
          have h := (oo.same s2).dp (K := K)
          rw [lo, lenY] at h
          exact .lst (SqL.of (s2 _ _ eD)) h
        have d2 : Dp K H2 (.ref D2) (.list (onesD 0 27)) := by
          have h := pp.dp (K := K)
          rw [lp] at h
          exact .lst (SqL.of eD2) h
        have hsh : SeqAt.shaped (.list (onesD 0 27)) = true := by decide +kernel
        refine ⟨_, _, d1, d2, hsh, hsh, _, rfl, ?_⟩
        refine if_no (by rw [SeqAt.eqv_refl _ (SeqAt.canLay_of_shaped hsh)]; rfl) ?_
        -- the third list
        have s12 := s1.trans s2
        refine ⟨_, rfl, l, rfl, ⟨_, SqL.of (s12 _ _ el)⟩, fun D3 nD3 => ?_⟩
        refine lc_list (K := K) (a := l) (xs := ys) (fun i H' => Same H2 H' ∧ H' D3 = some (.lst [])) ⟨same_new nD3, upd_same⟩ (fun i H' _ ⟨sm, _⟩ => SqL.of (sm _ _ (s12 _ _ el))) ?_ ?_
        · rintro i y H' hi ⟨sm, eD3⟩
          obtain ⟨a, x, rfl, hx, ea⟩ := er.get hi
          have hx1 : x ∈ allErrs := List.mem_append_left _ (List.mem_of_getElem? hx)
          have ea' := ea.same (s12.trans sm)
          obtain ⟨d, hd⟩ := ea'.d
          have A := err_asked T hx1 hd
          obtain ⟨dd, q1, q2, q3, q4, q5⟩ := (sh.same (s12.trans sm)).ex
          refine ⟨rfl, _, rfl, a, _, _, rfl, A, _, rfl, ?_⟩
          refine if_no rfl ?_
          refine ⟨_, rfl, a, ga K x, v, rfl, T.ec x (List.mem_cons_of_mem _ hx1), ea', v, dd, rfl, q1, q2, q3, q4, _, rfl, rfl, _, rfl, ?_⟩
          refine if_no (by rw [q5, decide_eq_true rfl]; rfl) ?_
          exact ⟨sm, eD3⟩
        · rintro H3 ⟨s3, eD3⟩
          refine ⟨Nat.zero_le _, fun p np => ?_⟩
          have n3 : D3 ≠ p := ne_of_none eD3 np
          refine ⟨.list [], .list [], .lst (SqL.of (by rw [upd_ne n3]; exact eD3)) .nil, .lst (SqL.of upd_same) .nil, by decide +kernel, by decide +kernel, ?_⟩
          exact k _ ((s12.trans s3).trans (same_new np))
end
end K1
/-! the thing that is drawn -/
namespace K1
open PySem PySem.Spec PyProof.Rows L2 He
/-! ### few signs -/
def Sm (d : PyData) (n k : Nat) : Prop := d.showable = true ∧ d.depth ≤ k ∧ d.shown.length ≤ n
def SmA (ds : List PyData) (n k : Nat) : Prop := PyData.showableAll ds = true ∧ PyData.depthAll ds ≤ k ∧ LenLe n (PyData.shownAll ds) ∧ (PyData.shownAll ds).length = ds.length
def SmK (kvs : List (PyData × PyData)) (n k : Nat) : Prop := PyData.showableKv kvs = true ∧ PyData.depthKv kvs ≤ k ∧ LenLe n (PyData.shownKv kvs) ∧ (PyData.shownKv kvs).length = kvs.length
theorem SmA.nil {n k : Nat} : SmA [] n k := ⟨by simp [PyData.showableAll], by simp [PyData.depthAll], by simp [PyData.shownAll, LenLe], by simp [PyData.shownAll]⟩
theorem SmA.cons {d : PyData} {ds : List PyData} {n k : Nat} (h : Sm d n k) (t : SmA ds n k) : SmA (d :: ds) n k := by
  obtain ⟨h1, h2, h3⟩ := h
  obtain ⟨t1, t2, t3, t4⟩ := t
  refine ⟨by simp [PyData.showableAll, h1, t1], by simp only [PyData.depthAll]; omega, ?_, by simp [PyData.shownAll, t4]⟩
  intro x hx
  simp only [PyData.shownAll, List.mem_cons] at hx
  rcases hx with rfl | hx
  · exact h3
  · exact t3 x hx
theorem SmK.nil {n k : Nat} : SmK [] n k := ⟨by simp [PyData.showableKv], by simp [PyData.depthKv], by simp [PyData.shownKv, LenLe], by simp [PyData.shownKv]⟩
theorem SmK.cons {a b : PyData} {ds : List (PyData × PyData)} {m n k : Nat} (ha : Sm a m k) (hb : Sm b m k) (t : SmK ds (m + 2 + m) k) : SmK ((a, b) :: ds) (m + 2 + m) k := by
  obtain ⟨h1, h2, h3⟩ := ha
  obtain ⟨b1, b2, b3⟩ := hb
  obtain ⟨t1, t2, t3, t4⟩ := t
  refine ⟨by simp [PyData.showableKv, h1, b1, t1], by simp only [PyData.depthKv]; omega, ?_, by simp [PyData.shownKv, t4]⟩
  intro x hx
  simp only [PyData.shownKv, List.mem_cons] at hx
  rcases hx with rfl | hx
  · rw [strLen_append, strLen_append]
    have e1 : (((": " : String) : Str)).length = 2 := rfl
    omega
  · exact t3 x hx
theorem few9 {m n : Nat} (h : m ≤ 9) : m * (n + 2) ≤ 9 * (n + 2) := Nat.mul_le_mul_right _ h
theorem SmA.list {ds : List PyData} {n k : Nat} (t : SmA ds n k) (hl : ds.length ≤ 9 := by simp) : Sm (.list ds) (3 + 9 * (n + 2)) (k + 1) := by
  obtain ⟨t1, t2, t3, t4⟩ := t
  refine ⟨by simpa [PyData.showable] using t1, by simp only [PyData.depth]; omega, ?_⟩
  have h := listText_le t3
  rw [t4] at h
  have := few9 (n := n) hl
  simp only [PyData.shown]
  omega
theorem SmA.tuple {ds : List PyData} {n k : Nat} (t : SmA ds n k) (hl : ds.length ≤ 9 := by simp) : Sm (.tuple ds) (3 + 9 * (n + 2)) (k + 1) := by
  obtain ⟨t1, t2, t3, t4⟩ := t
  refine ⟨by simpa [PyData.showable] using t1, by simp only [PyData.depth]; omega, ?_⟩
  have h := tupleText_le t3
  rw [t4] at h
  have := few9 (n := n) hl
  simp only [PyData.shown]
  omega
theorem SmK.dict {ds : List (PyData × PyData)} {n k : Nat} (t : SmK ds n k) (hl : ds.length ≤ 9 := by simp) : Sm (.dict ds) (3 + 9 * (n + 2)) (k + 1) := by
  obtain ⟨t1, t2, t3, t4⟩ := t
  refine ⟨by simpa [PyData.showable] using t1, by simp only [PyData.depth]; omega, ?_⟩
  have h := dictText_le t3
  rw [t4] at h
  have := few9 (n := n) hl
  simp only [PyData.shown]
  omega
theorem Sm.mono {d : PyData} {n m k l : Nat} (h : Sm d n k) (a : n ≤ m) (b : k ≤ l) : Sm d m l := ⟨h.1, Nat.le_trans h.2.1 b, Nat.le_trans h.2.2 a⟩
theorem sm_non : Sm .none 2000 1 := ⟨rfl, by decide, by decide⟩
theorem sm_bl (b : Bool) : Sm (.bool b) 2000 1 := by cases b <;> exact ⟨rfl, by decide, by decide⟩
theorem sm_int {i : Int} (h : i.natAbs.log2 < 1920) : Sm (.int i) 2000 1 := by
  refine ⟨by simpa [PyData.showable] using h, by simp [PyData.depth], ?_⟩
  have := int_text_len_1921 h
  simp only [PyData.shown]
  omega
theorem sm_str {x : Str} (h : x.length ≤ 20) (hx : ∀ c ∈ x.cps.toList, c < 16 ^ 8) : Sm (.str x) 2000 1 := by
  refine ⟨rfl, by simp [PyData.depth], ?_⟩
  have := StrLaws.reprText_len x hx
  simp only [PyData.shown]
  omega
theorem sm_word {z : Str} (h : Word z) : Sm (.str z) 2000 1 := sm_str (by have := h.2.1; omega) fun c hc => by
  have := (h.2.2 c hc).2
  have e : (16 : Nat) ^ 8 = 4294967296 := by decide
  omega
theorem lit_ok (x : Str) (h : (decide (x.length ≤ 20) && x.cps.toList.all fun c => decide (c < 4294967296)) = true) : Sm (.str x) 2000 1 := by
  rw [Bool.and_eq_true] at h
  refine sm_str (of_decide_eq_true h.1) fun c hc => ?_
  have e : (16 : Nat) ^ 8 = 4294967296 := by decide
  rw [e]
  exact of_decide_eq_true (List.all_eq_true.mp h.2 c hc)
theorem sm_later : Sm (.str "later") 2000 1 := lit_ok _ (by decide +kernel)
theorem sm_LATER : Sm (.str "LATER") 2000 1 := lit_ok _ (by decide +kernel)
theorem sm_says : Sm (.str "says") 2000 1 := lit_ok _ (by decide +kernel)
theorem sm_odd : Sm (.str "odd") 2000 1 := lit_ok _ (by decide +kernel)
theorem shows_of {K : Frag} {H : Hp} {v : V} {d : PyData} {n k : Nat} (h : Dq K H v d) (s : Sm d n k) (hn : n ≤ 16777216 := by decide) (hk : k ≤ 60 := by decide) : ∃ t, Shows K H v t :=
  ⟨_, ⟨d, h, s.1, Nat.le_trans s.2.1 hk, Nat.le_trans s.2.2 (by rw [sizeLine_eq]; omega), rfl⟩⟩
/-! ### the things -/
structure Own (H : Hp) (l a : Addr) (o : HO) : Prop where
  at_ : H a = some o
  ne : a ≠ l
  sm : a ≠ sysModules
theorem Own.same {H H' : Hp} {l a : Addr} {o : HO} (s : Same H H') (h : Own H l a o) : Own H' l a o := ⟨s _ _ h.at_, h.ne, h.sm⟩
/-- what may be drawn, with the word z; none of its own lists lies at l -/
inductive Thing (l : Addr) (H : Hp) (z : Str) : V → Prop
  | non : Thing l H z .non
  | bl (b : Bool) : Thing l H z (.bl b)
  | int (i : Int) (h : i.natAbs.log2 < 1920) : Thing l H z (.int i)
  | str : Thing l H z (.str z)
  | t4 {p : Addr} : H p = some (.tup [.str "says", .str z, .int 1, .int 2]) → Thing l H z (.ref p)
  | t2 {p c : Addr} : H p = some (.tup [.str z, .ref c]) → Own H l c (.lst [.str z]) → Thing l H z (.ref p)
  | dc {p c : Addr} : H p = some (.dK [(.inr z, .ref c)]) → p ≠ l → Own H l c (.lst [.str z]) → Thing l H z (.ref p)
  | l1 {p : Addr} : Own H l p (.lst [.str z]) → Thing l H z (.ref p)
  | l2 {p a b : Addr} : Own H l p (.lst [.ref a, .ref b]) → Own H l a (.lst [.str z]) → H b = some (.dK [(.inr "odd", .str z)]) → Thing l H z (.ref p)
theorem Thing.same {l : Addr} {H H' : Hp} {z : Str} (s : Same H H') : ∀ {v : V}, Thing l H z v → Thing l H' z v
  | _, .non => .non
  | _, .bl b => .bl b
  | _, .int i h => .int i h
  | _, .str => .str
  | _, .t4 h => .t4 (s _ _ h)
  | _, .t2 h c => .t2 (s _ _ h) (c.same s)
  | _, .dc h n c => .dc (s _ _ h) n (c.same s)
  | _, .l1 h => .l1 (h.same s)
  | _, .l2 h a b => .l2 (h.same s) (a.same s) (s _ _ b)
theorem d1 {K : Frag} {H : Hp} {x : Str} : DqAll K H [.str x] [.str x] := .cons (.str x) .nil
theorem d2 {K : Frag} {H : Hp} {x y : Str} : DqAll K H [.str x, .str y] [.str x, .str y] := .cons (.str x) (.cons (.str y) .nil)
theorem SqT.of {K : Frag} {H : Hp} {a : Addr} {xs : List V} (h : H a = some (.tup xs)) : SqT K H a xs := .inl (.inl h)
theorem Thing.shows {K : Frag} {l : Addr} {H : Hp} {z : Str} (hz : Word z) : ∀ {v : V}, Thing l H z v → ∃ t, Shows K H v t
  | _, .non => shows_of .non sm_non
  | _, .bl b => shows_of (.bl b) (sm_bl b)
  | _, .int i h => shows_of (.int i) (sm_int h)
  | _, .str => shows_of (.str z) (sm_word hz)
  | _, .t4 h => shows_of (.tup (SqT.of h) (.cons (.str _) (.cons (.str _) (.cons (.int _) (.cons (.int _) .nil)))))
      ((SmA.cons sm_says (.cons (sm_word hz) (.cons (sm_int (by decide)) (.cons (sm_int (by decide)) .nil)))).tuple)
  | _, .t2 h c => shows_of (.tup (SqT.of h) (.cons (.str _) (.cons (.lst c.sm (SqL.of c.at_) d1) .nil)))
      ((SmA.cons ((sm_word hz).mono (by decide) (by decide)) (.cons ((SmA.cons (sm_word hz) .nil).list) .nil)).tuple)
  | _, .dc h n c => shows_of (.dic (kvs := [(z, _)]) h (.cons (.lst c.sm (SqL.of c.at_) d1) .nil))
      ((SmK.cons (n := 0) ((sm_word hz).mono (by decide) (by decide)) ((SmA.cons (sm_word hz) .nil).list) .nil).dict)
  | _, .l1 h => shows_of (.lst h.sm (SqL.of h.at_) d1) ((SmA.cons (sm_word hz) .nil).list)
  | _, .l2 h a b => shows_of (.lst h.sm (SqL.of h.at_) (.cons (.lst a.sm (SqL.of a.at_) d1) (.cons (.dic (kvs := [("odd", _)]) b (.cons (.str _) .nil)) .nil)))
      ((SmA.cons (n := 40000) (k := 2) ((SmA.cons (sm_word hz) .nil).list.mono (by decide) (by decide)) (.cons ((SmK.cons (n := 0) sm_odd (sm_word hz) .nil).dict.mono (by decide) (by decide)) .nil)).list)
/-! ### how they are made -/
/-- a list display: the new list is not that of the modules -/
def tLstB (t : TA) : TE := fun σ H Q => t σ H fun xs H1 => xs.length ≤ sizeLine ∧ ∀ p, H1 p = none → p ≠ sysModules → Q (.ref p) (upd H1 p (.lst xs))
theorem pe_lstB {X : Cx} {es : List Expr} {t : TA} {pos : Pos} (h : PA X es t) : PE X (.List es pos) (tLstB t) := by
  refine ⟨fun pins s σ H Q I hq => ?_⟩
  refine wpAny_List_spliced (thn (h.run pos pins s σ H _ I hq) fun us s1 hh => ?_)
  obtain ⟨xs, H1, I1, r, z, q⟩ := hh
  refine ⟨by rw [← r.length]; exact z, ?_⟩
  have hf : H1 s1.heap.objs.size = none := I1.hok.fresh (Nat.le_refl _)
  refine ⟨.ref s1.heap.objs.size, upd H1 s1.heap.objs.size (.lst xs), I1.laid (t' := s1.toks) (fun b u e => Heap.get?_push_of_some _ e) (Nat.le_refl _) ?_, rfl, q _ hf (Ne.symm (Nat.ne_of_lt I1.big))⟩
  exact ⟨z, us, 0, r, Heap.get?_push_size _ rfl⟩
/-- [word] -/
def tW : TE := tLstB (tCons (tVar 2) tNil)
theorem tW_ok {l : Addr} {ol : HO} {σ : L2.St} {H : Hp} {z : Str} {Q : VK} (hw : σ[2]? = some (some (.str z))) (el : H l = some ol) (h : ∀ p H', Same H H' → H p = none → Own H' l p (.lst [.str z]) → Q (.ref p) H') : tW σ H Q :=
  ⟨_, hw, (by show 1 ≤ sizeLine; decide), fun p np nm => h p _ (same_new np) np ⟨upd_same, Ne.symm (ne_of_none el np), nm⟩⟩
/-- ("says", word, 1, 2) -/
def tT4 : TE := tTup (tCons (tC (.str "says")) (tCons (tVar 2) (tCons (tC (.int 1)) (tCons (tC (.int 2)) tNil))))
theorem tT4_ok {l : Addr} {σ : L2.St} {H : Hp} {z : Str} {Q : VK} (hw : σ[2]? = some (some (.str z))) (h : ∀ v H', Same H H' → Thing l H' z v → Q v H') : tT4 σ H Q :=
  ⟨_, hw, (by show 4 ≤ sizeLine; decide), fun p np => h _ _ (same_new np) (.t4 upd_same)⟩
/-- (word, [word]) -/
def tT2 : TE := tTup (tCons (tVar 2) (tCons tW tNil))
theorem tT2_ok {l : Addr} {ol : HO} {σ : L2.St} {H : Hp} {z : Str} {Q : VK} (hw : σ[2]? = some (some (.str z))) (el : H l = some ol) (h : ∀ v H', Same H H' → Thing l H' z v → Q v H') : tT2 σ H Q := by
  refine ⟨_, hw, tW_ok hw el fun c H1 s1 nc oc => ⟨(by show 2 ≤ sizeLine; decide), fun p np => ?_⟩⟩
  exact h _ _ (s1.trans (same_new np)) (.t2 upd_same (oc.same (same_new np)))
/-- {word: [word]} -/
def tDc : TE := tDisp [(tVar 2, tW)]
theorem tDc_ok {l : Addr} {ol : HO} {σ : L2.St} {H : Hp} {z : Str} {Q : VK} (hw : σ[2]? = some (some (.str z))) (el : H l = some ol) (h : ∀ v H', Same H H' → Thing l H' z v → Q v H') : tDc σ H Q := by
  intro p np
  have s0 : Same H (upd H p (.dK [])) := same_new np
  refine ⟨_, hw, tW_ok hw (s0 _ _ el) fun c H1 s1 nc oc => ⟨s1 _ _ upd_same, [(.inr z, .ref c)], rfl, (by show 1 ≤ 15; decide), ?_⟩⟩
  have cp : c ≠ p := Ne.symm (ne_of_none (upd_same (H := H) (a := p)) nc)
  exact h _ _ (keepD np s0 s1) (.dc upd_same (Ne.symm (ne_of_none el np)) ⟨by rw [upd_ne cp]; exact oc.at_, oc.ne, oc.sm⟩)
/-- [[word], {"odd": word}] -/
def tL2 : TE := tLstB (tCons tW (tCons (tDisp [(tC (.str "odd"), tVar 2)]) tNil))
theorem tL2_ok {l : Addr} {ol : HO} {σ : L2.St} {H : Hp} {z : Str} {Q : VK} (hw : σ[2]? = some (some (.str z))) (el : H l = some ol) (h : ∀ v H', Same H H' → Thing l H' z v → Q v H') : tL2 σ H Q := by
  unfold tL2 tLstB tCons
  refine tW_ok hw el fun a H1 s1 na oa => ?_
  intro b nb
  have s2 : Same H1 (upd H1 b (.dK [])) := same_new nb
  refine ⟨_, hw, upd_same, [(.inr "odd", .str z)], rfl, (by show 1 ≤ 15; decide), (by show 2 ≤ sizeLine; decide), fun p np nm => ?_⟩
  have s3 : Same H1 (upd (upd H1 b (.dK [])) b (.dK (mergeK [] [(.inr "odd", .str z)]))) := keepD nb s2 (Same.refl _)
  have s4 := same_new (o := .lst [.ref a, .ref b]) np
  exact h _ _ ((s1.trans s3).trans s4) (.l2 ⟨upd_same, Ne.symm (ne_of_none (s3 _ _ (s1 _ _ el)) np), nm⟩ (oa.same (s3.trans s4)) (s4 _ _ upd_same))
end K1
/-! what is drawn, and how it is changed -/
namespace K1
open PySem PySem.Spec PyProof.Rows L2 He
theorem purse_small {s : Int} (h0 : 0 ≤ s) (h1 : s < 2147483648) : (-s).natAbs.log2 < 1920 := by
  have e0 : (2 : Nat) ^ 31 = 2147483648 := by decide
  have : (-s).natAbs.log2 < 31 := PySem.Flt.log2_lt_of (by decide) (by omega)
  omega
@[irreducible] def tPlain (K : Frag) : TE := tLst (tCons (tC .non) (tCons (tC (.bl true)) (tCons (tC (.bl false)) (tCons (tC (.int 0)) (tCons (tVar 2) (tCons (tUn (rU fun i => .int (-i)) (tOp (rIxL K) (tVar 1) (tC (.int 1)))) (tCons tT4 (tCons tT2 (tCons tDc tNil)))))))))
theorem tPlain_eq (K : Frag) : tPlain K = tLst (tCons (tC .non) (tCons (tC (.bl true)) (tCons (tC (.bl false)) (tCons (tC (.int 0)) (tCons (tVar 2) (tCons (tUn (rU fun i => .int (-i)) (tOp (rIxL K) (tVar 1) (tC (.int 1)))) (tCons tT4 (tCons tT2 (tCons tDc tNil))))))))) := by
  unfold tPlain
  rfl
theorem tPlain_ok {K : Frag} {l q : Addr} {n : Int} {ol : HO} {σ : L2.St} {H : Hp} {z : Str} {Q : VK} (hq : σ[1]? = some (some (.ref q))) (pu : Purse H q n) (hw : σ[2]? = some (some (.str z))) (el : H l = some ol)
    (h : ∀ p vs H', Same H H' → H p = none → H' p = some (.lst vs) → vs.length = 9 → (∀ v ∈ vs, Thing l H' z v) → Q (.ref p) H') : tPlain K σ H Q := by
  rw [tPlain_eq]
  obtain ⟨p, s, t, c, e, t0, t1, s0, s1⟩ := pu
  refine ⟨_, hw, _, hq, q, _, 1, .int s, rfl, rfl, SqL.of e, rfl, s, rfl, ?_⟩
  refine tT4_ok (l := l) hw fun v6 H1 sm1 th6 => ?_
  refine tT2_ok hw (sm1 _ _ el) fun v7 H2 sm2 th7 => ?_
  refine tDc_ok hw (sm2 _ _ (sm1 _ _ el)) fun v8 H3 sm3 th8 => ⟨(by show 9 ≤ sizeLine; decide), fun p np => ?_⟩
  have s12 := sm1.trans sm2
  have s13 := s12.trans sm3
  have s4 : Same H3 (upd H3 p _) := same_new (o := .lst [.non, .bl true, .bl false, .int 0, .str z, .int (-s), v6, v7, v8]) np
  refine h p _ _ (s13.trans s4) (s13.free np) upd_same rfl fun v hv => ?_
  simp only [List.mem_cons, List.mem_nil_iff, or_false] at hv
  rcases hv with rfl | rfl | rfl | rfl | rfl | rfl | rfl | rfl | rfl
  · exact .non
  · exact .bl _
  · exact .bl _
  · exact .int _ (by decide)
  · exact .str
  · exact .int _ (purse_small s0 s1)
  · exact th6.same (sm2.trans (sm3.trans s4))
  · exact th7.same (sm3.trans s4)
  · exact th8.same s4
theorem st_plain {K : Frag} {l q : Addr} {n : Int} {ol : HO} {σ : L2.St} {H : Hp} {z : Str} {rest : TS} {D : Ends} (hq : σ[1]? = some (some (.ref q))) (pu : Purse H q n) (hw : σ[2]? = some (some (.str z))) (el : H l = some ol)
    (h : ∀ p vs H', Same H H' → H p = none → H' p = some (.lst vs) → vs.length = 9 → (∀ v ∈ vs, Thing l H' z v) → rest D (σ.set 3 (some (.ref p))) H') : tSeq (tAsg (tPlain K) (gName 3)) rest D σ H := by
  unfold tSeq tAsg gName
  exact tPlain_ok hq pu hw el h
/-- [[word], [[word], {..}]] -/
@[irreducible] def tTwo : TE := tLst (tCons tW (tCons tL2 tNil))
theorem tTwo_eq : tTwo = tLst (tCons tW (tCons tL2 tNil)) := by
  unfold tTwo
  rfl
theorem tTwo_ok {l : Addr} {ol : HO} {σ : L2.St} {H : Hp} {z : Str} {Q : VK} (hw : σ[2]? = some (some (.str z))) (el : H l = some ol)
    (h : ∀ p vs H', Same H H' → H p = none → H' p = some (.lst vs) → vs.length = 2 → (∀ v ∈ vs, Thing l H' z v) → Q (.ref p) H') : tTwo σ H Q := by
  unfold tTwo tLst tCons
  refine tW_ok hw el fun a H1 s1 na oa => ?_
  refine tL2_ok hw (s1 _ _ el) fun v H2 s2 th => ⟨(by show 2 ≤ sizeLine; decide), fun p np => ?_⟩
  have s4 : Same H2 (upd H2 p _) := same_new (o := .lst [.ref a, v]) np
  refine h p _ _ ((s1.trans s2).trans s4) ((s1.trans s2).free np) upd_same rfl fun u hu => ?_
  simp only [List.mem_cons, List.mem_nil_iff, or_false] at hu
  rcases hu with rfl | rfl
  · exact .l1 (oa.same (s2.trans s4))
  · exact th.same s4
theorem Purse.same {H H' : Hp} {a : Addr} {n : Int} (s : Same H H') (p : Purse H a n) : Purse H' a n := let ⟨x, sd, t, c, e, r⟩ := p; ⟨x, sd, t, c, s _ _ e, r⟩
/-- a thing stays where only the purse changes -/
theorem Thing.but {l q : Addr} {n : Int} {H H' : Hp} {z : Str} (pu : Purse H q n) (bt : But q H H') : ∀ {v : V}, Thing l H z v → Thing l H' z v := by
  obtain ⟨p, s, t, c, e, _⟩ := pu
  have k : ∀ {a : Addr} {o : HO}, H a = some o → o ≠ .lst [.int p, .int s, .int t, .int c] → H' a = some o := fun {a o} h ne => bt a o (fun z => by
    rw [z, e] at h
    exact ne (Option.some.inj h).symm) h
  intro v th
  cases th with
  | non => exact .non
  | bl b => exact .bl b
  | int i h => exact .int i h
  | str => exact .str
  | t4 h => exact .t4 (k h (fun z => by cases z))
  | t2 h o => exact .t2 (k h (fun z => by cases z)) ⟨k o.at_ (fun z => by cases z), o.ne, o.sm⟩
  | dc h n o => exact .dc (k h (fun z => by cases z)) n ⟨k o.at_ (fun z => by cases z), o.ne, o.sm⟩
  | l1 o => exact .l1 ⟨k o.at_ (fun z => by cases z), o.ne, o.sm⟩
  | l2 o a b => exact .l2 ⟨k o.at_ (fun z => by cases z), o.ne, o.sm⟩ ⟨k a.at_ (fun z => by cases z), a.ne, a.sm⟩ (k b (fun z => by cases z))
/-- all that is no list or dict, all that came behind H0, and l stay -/
def Kept (H0 : Hp) (l : Addr) (H H' : Hp) : Prop := ∀ b o, H b = some o → (H0 b = none ∨ b = l ∨ ((∀ xs, o ≠ .lst xs) ∧ ∀ kvs, o ≠ .dK kvs)) → H' b = some o
theorem Kept.refl (H0 : Hp) (l : Addr) (H : Hp) : Kept H0 l H H := fun _ _ h _ => h
theorem Kept.of {H0 : Hp} {l : Addr} {H : Hp} {a : Addr} {o u : HO} (s : Same H0 H) (h0 : H0 a = some o) (n : a ≠ l) (hl : (∃ xs, o = .lst xs) ∨ ∃ kvs, o = .dK kvs) : Kept H0 l H (upd H a u) := by
  intro b x hb c
  have ne : b ≠ a := by
    intro e
    subst e
    rcases c with c | c | ⟨c1, c2⟩
    · rw [h0] at c
      cases c
    · exact n c
    · rw [s _ _ h0] at hb
      cases hb
      rcases hl with ⟨xs, e⟩ | ⟨kvs, e⟩
      · exact c1 xs e
      · exact c2 kvs e
  rw [upd_ne ne]
  exact hb
theorem Kept.trans {H0 : Hp} {l : Addr} {H H1 H2 : Hp} (a : Kept H0 l H H1) (b : Kept H0 l H1 H2) : Kept H0 l H H2 := fun x o h c => b x o (a x o h c) c
theorem ErrAt.kept {K : Frag} {H0 H H' : Hp} {l a C : Addr} {v : V} (k : Kept H0 l H H') (e : ErrAt H a C v) : ErrAt H' a C v := by
  obtain ⟨dx, e1, e2⟩ := e
  exact ⟨dx, k _ _ e1 (.inr (.inr ⟨fun xs z => (nomatch z), fun xs z => (nomatch z)⟩)), k _ _ e2 (.inr (.inr ⟨fun xs z => (nomatch z), fun xs z => (nomatch z)⟩))⟩
theorem ErrAll.kept {K : Frag} {H0 H H' : Hp} {l : Addr} {v : V} (k : Kept H0 l H H') : ∀ {ys : List V} {xs : List Str}, ErrAll K H v ys xs → ErrAll K H' v ys xs
  | _, _, .nil => .nil
  | _, _, .cons h t => .cons (ErrAt.kept (K := K) k h) (ErrAll.kept k t)
/-! ### the three changes -/
def tIs (K : Frag) (te : TE) (c : String) : TT := tB (tCB (rIsi K) (tCons te (tCons (tC (.ty c)) tNil)))
def tApp (K : Frag) (te : TE) : TS := tDrop (tBM K "list" rAppend te (tCons (tC (.str "later")) tNil))
@[irreducible] def tCh1 (K : Frag) : TS := tIfS (tIs K (tVar 4) "list") (tApp K (tVar 4)) tNext
theorem tCh1_eq (K : Frag) : tCh1 K = tIfS (tIs K (tVar 4) "list") (tApp K (tVar 4)) tNext := by
  unfold tCh1
  rfl
theorem ch1_of {K : Frag} {D : Ends} {σ : L2.St} {H : Hp} (h : (tIfS (tIs K (tVar 4) "list") (tApp K (tVar 4)) tNext) D σ H) : tCh1 K D σ H := by
  rw [tCh1_eq]
  exact h
@[irreducible] def tCh2 (K : Frag) : TS := tIfS (tIs K (tVar 4) "dict") (tSeq (tApp K (tDGet (tVar 4) (tVar 2))) (tAsg (tC (.int 1)) (gSub (tVar 4) (tC (.str "LATER")) rSetD))) tNext
theorem tCh2_eq (K : Frag) : tCh2 K = tIfS (tIs K (tVar 4) "dict") (tSeq (tApp K (tDGet (tVar 4) (tVar 2))) (tAsg (tC (.int 1)) (gSub (tVar 4) (tC (.str "LATER")) rSetD))) tNext := by
  unfold tCh2
  rfl
theorem ch2_of {K : Frag} {D : Ends} {σ : L2.St} {H : Hp} (h : (tIfS (tIs K (tVar 4) "dict") (tSeq (tApp K (tDGet (tVar 4) (tVar 2))) (tAsg (tC (.int 1)) (gSub (tVar 4) (tC (.str "LATER")) rSetD))) tNext) D σ H) : tCh2 K D σ H := by
  rw [tCh2_eq]
  exact h
@[irreducible] def tCh3 (K : Frag) : TS := tIfS (tAnd (tIs K (tVar 4) "tuple") (tIs K (tOp (rIxT K) (tVar 4) (tC (.int 1))) "list")) (tApp K (tOp (rIxT K) (tVar 4) (tC (.int 1)))) tNext
theorem tCh3_eq (K : Frag) : tCh3 K = tIfS (tAnd (tIs K (tVar 4) "tuple") (tIs K (tOp (rIxT K) (tVar 4) (tC (.int 1))) "list")) (tApp K (tOp (rIxT K) (tVar 4) (tC (.int 1)))) tNext := by
  unfold tCh3
  rfl
theorem ch3_of {K : Frag} {D : Ends} {σ : L2.St} {H : Hp} (h : (tIfS (tAnd (tIs K (tVar 4) "tuple") (tIs K (tOp (rIxT K) (tVar 4) (tC (.int 1))) "list")) (tApp K (tOp (rIxT K) (tVar 4) (tC (.int 1)))) tNext) D σ H) : tCh3 K D σ H := by
  rw [tCh3_eq]
  exact h
theorem is_ok {K : Frag} {te : TE} {σ : L2.St} {H H1 : Hp} {v : V} {t c : String} {b : Bool} {Q : Bool → Hp → Prop} (ht : ∀ R : VK, R v H1 → te σ H R) (ty : TyOf K H1 v (.type t)) (hk : L2.kitB t c = some b) (h : Q b H1) : tIs K te c σ H Q :=
  ht _ ⟨v, .ty c, .type t, .type c, b, rfl, ClsV.ty c, TyX.base ty, kit_ty hk, b, rfl, h⟩
theorem app_ok {K : Frag} {te : TE} {σ : L2.St} {H H1 : Hp} {a : Addr} {xs : List V} {D : Ends} (ht : ∀ R : VK, R (.ref a) H1 → te σ H R) (e : H1 a = some (.lst xs)) (hl : xs.length ≤ 9) (h : D.nx σ (upd H1 a (.lst (xs ++ [.str "later"])))) : tApp K te D σ H :=
  ht _ ⟨.inl ⟨rfl, _, SqL.of e⟩, a, xs, _, rfl, rfl, e, Nat.lt_of_le_of_lt hl (by decide), h⟩
theorem var_ok {i : Nat} {σ : L2.St} {H : Hp} {v : V} (hv : σ[i]? = some (some v)) : ∀ R : VK, R v H → tVar i σ H R := fun R r => ⟨v, hv, r⟩
section
variable {K : Frag} {H0 H : Hp} {l : Addr} {z : Str} {v : V} {σ : L2.St} {D : Ends}
theorem no_list {t : String} (hv : σ[4]? = some (some v)) (ty : TyOf K H v (.type t)) (hk : L2.kitB t "list" = some false) (h : D.nx σ H) : tCh1 K D σ H := ch1_of <| is_ok (var_ok hv) ty hk (if_no rfl h)
theorem no_dict {t : String} (hv : σ[4]? = some (some v)) (ty : TyOf K H v (.type t)) (hk : L2.kitB t "dict" = some false) (h : D.nx σ H) : tCh2 K D σ H := ch2_of <| is_ok (var_ok hv) ty hk (if_no rfl h)
theorem no_tup {t : String} (hv : σ[4]? = some (some v)) (ty : TyOf K H v (.type t)) (hk : L2.kitB t "tuple" = some false) (h : D.nx σ H) : tCh3 K D σ H := ch3_of <| is_ok (var_ok hv) ty hk (if_no rfl (if_no rfl h))
theorem plain_ty {t : String} {rest : TS} (hv : σ[4]? = some (some v)) (ty : TyOf K H v (.type t)) (h1 : L2.kitB t "list" = some false) (h2 : L2.kitB t "dict" = some false) (h3 : L2.kitB t "tuple" = some false) (h : rest D σ H) : tSeq (tCh1 K) (tSeq (tCh2 K) (tSeq (tCh3 K) rest)) D σ H :=
  no_list hv ty h1 (no_dict hv ty h2 (no_tup hv ty h3 h))
theorem put_later {z : Str} (hz : Word z) (c : V) : putK [((Sum.inr z : Key), c)] (.inr "LATER") (.int 1) = [(.inr z, c), (.inr "LATER", .int 1)] := by
  have ne : ¬ ((Sum.inr z : Key) = Sum.inr ("LATER" : Str)) := by
    intro e
    have e' : z = ("LATER" : Str) := Sum.inr.inj e
    rw [e'] at hz
    have h : ∃ c ∈ ("LATER" : Str).cps.toList, c < 97 := by decide +kernel
    obtain ⟨c, hc, h97⟩ := h
    have := (hz.2.2 c hc).1
    omega
  simp [putK, ne]
/-- behind the three changes the thing can be shown, and all else stays -/
theorem st_change {rest : TS} (hz : Word z) (hv : σ[4]? = some (some v)) (hw : σ[2]? = some (some (.str z))) (th : Thing l H0 z v) (sm : Same H0 H)
    (h : ∀ t H', Kept H0 l H H' → Shows K H' v t → rest D σ H') : tSeq (tCh1 K) (tSeq (tCh2 K) (tSeq (tCh3 K) rest)) D σ H := by
  have th' := th.same sm
  have stay : ∀ {u : V}, v = u → Thing l H z u → rest D σ H := fun {u} e t => let ⟨t, st⟩ := t.shows (K := K) hz; h t H (Kept.refl H0 l H) (by rw [e]; exact st)
  cases th with
  | non => exact plain_ty hv .non (by decide +kernel) (by decide +kernel) (by decide +kernel) (stay rfl th')
  | bl b => exact plain_ty hv (.bl b) (by decide +kernel) (by decide +kernel) (by decide +kernel) (stay rfl th')
  | int i hi => exact plain_ty hv (.int i) (by decide +kernel) (by decide +kernel) (by decide +kernel) (stay rfl th')
  | str => exact plain_ty hv (.str z) (by decide +kernel) (by decide +kernel) (by decide +kernel) (stay rfl th')
  | @t4 p e =>
    have e1 := sm _ _ e
    refine no_list hv (.tup e1) (by decide +kernel) (no_dict hv (.tup e1) (by decide +kernel) ?_)
    refine ch3_of ?_
    refine is_ok (var_ok hv) (.tup e1) (b := true) (by decide +kernel) (iteT ?_)
    refine is_ok (H1 := H) (v := .str z) (fun R r => ⟨_, hv, p, _, 1, _, rfl, rfl, SqT.of e1, rfl, r⟩) (.str z) (b := false) (by decide +kernel) (if_no rfl ?_)
    exact stay rfl th'
  | @t2 p c e o =>
    have e1 := sm _ _ e
    have o1 := o.same sm
    refine no_list hv (.tup e1) (by decide +kernel) (no_dict hv (.tup e1) (by decide +kernel) ?_)
    refine ch3_of ?_
    refine is_ok (var_ok hv) (.tup e1) (b := true) (by decide +kernel) (iteT ?_)
    have at1 : ∀ R : VK, R (.ref c) H → tOp (rIxT K) (tVar 4) (tC (.int 1)) σ H R := fun R r => ⟨_, hv, p, _, 1, _, rfl, rfl, SqT.of e1, rfl, r⟩
    refine is_ok at1 (.lst o1.at_) (b := true) (by decide +kernel) (iteT ?_)
    refine app_ok at1 o1.at_ (by simp) ?_
    have pc : p ≠ c := fun e2 => by
      rw [e2, o1.at_] at e1
      cases e1
    obtain ⟨t, st⟩ := shows_of (K := K) (H := upd H c (.lst ([V.str z] ++ [.str "later"]))) (v := .ref p) (.tup (SqT.of (by rw [upd_ne pc]; exact e1)) (.cons (.str z) (.cons (.lst o1.sm (SqL.of upd_same) d2) .nil)))
      ((SmA.cons ((sm_word hz).mono (by decide) (by decide)) (.cons ((SmA.cons (sm_word hz) (.cons sm_later .nil)).list) .nil)).tuple)
    exact h t _ (Kept.of sm o.at_ o.ne (.inl ⟨_, rfl⟩)) st
  | @dc p c e n o =>
    have e1 := sm _ _ e
    have o1 := o.same sm
    refine no_list hv (.dK e1) (by decide +kernel) ?_
    refine ch2_of ?_
    refine is_ok (var_ok hv) (.dK e1) (b := true) (by decide +kernel) (iteT ?_)
    have at1 : ∀ R : VK, R (.ref c) H → tDGet (tVar 4) (tVar 2) σ H R := fun R r => ⟨_, hv, _, hw, p, .ref c, rfl, by
      have g := DGet.k (k := .inr z) e1
      rw [valV_pos rfl] at g
      exact g, r⟩
    have pc : p ≠ c := fun e2 => by
      rw [e2, o1.at_] at e1
      cases e1
    refine app_ok at1 o1.at_ (by simp) ?_
    have e2 : upd H c (.lst ([V.str z] ++ [.str "later"])) p = some (.dK [(.inr z, .ref c)]) := by rw [upd_ne pc]; exact e1
    refine ⟨_, hv, p, _, rfl, DPut.k (k := .inr "LATER") (v := .int 1) e2 (by show 1 < sizeLine; decide), ?_⟩
    rw [put_later hz]
    have e3 : (upd (upd H c (.lst ([V.str z] ++ [.str "later"]))) p (.dK [(.inr z, .ref c), (.inr "LATER", .int 1)])) p = some (.dK [(.inr z, .ref c), (.inr "LATER", .int 1)]) := upd_same
    refine no_tup hv (.dK e3) (by decide +kernel) ?_
    obtain ⟨t, st⟩ := shows_of (K := K) (H := upd (upd H c (.lst ([V.str z] ++ [.str "later"]))) p (.dK [(.inr z, .ref c), (.inr "LATER", .int 1)])) (v := .ref p)
      (.dic (kvs := [(z, .ref c), ("LATER", .int 1)]) e3 (.cons (.lst o1.sm (SqL.of (by rw [upd_ne (Ne.symm pc)]; exact upd_same)) d2) (.cons (.int 1) .nil)))
      ((SmK.cons (n := 0) ((sm_word hz).mono (by decide) (by decide)) ((SmA.cons (sm_word hz) (.cons sm_later .nil)).list) (.cons (n := 0) (sm_LATER.mono (by decide) (by decide)) ((sm_int (by decide)).mono (by decide) (by decide)) .nil)).dict)
    have k1 : Kept H0 l H (upd H c (.lst ([V.str z] ++ [.str "later"]))) := Kept.of sm o.at_ o.ne (.inl ⟨_, rfl⟩)
    refine h t _ (k1.trans ?_) st
    intro b x hb hc
    have ne : b ≠ p := by
      intro eb
      subst eb
      rcases hc with hc | hc | ⟨c1, c2⟩
      · rw [e] at hc
        cases hc
      · exact n hc
      · rw [e2] at hb
        cases hb
        exact c2 _ rfl
    rw [upd_ne ne]
    exact hb
  | @l1 p o =>
    have o1 := o.same sm
    refine ch1_of ?_
    refine is_ok (var_ok hv) (.lst o1.at_) (b := true) (by decide +kernel) (iteT ?_)
    refine app_ok (var_ok hv) o1.at_ (by simp) ?_
    have e3 : (upd H p (.lst ([V.str z] ++ [.str "later"]))) p = some (.lst ([V.str z] ++ [.str "later"])) := upd_same
    refine no_dict hv (.lst e3) (by decide +kernel) (no_tup hv (.lst e3) (by decide +kernel) ?_)
    obtain ⟨t, st⟩ := shows_of (K := K) (H := upd H p (.lst ([V.str z] ++ [.str "later"]))) (v := .ref p) (.lst o1.sm (SqL.of e3) d2) ((SmA.cons (sm_word hz) (.cons sm_later .nil)).list)
    exact h t _ (Kept.of sm o.at_ o.ne (.inl ⟨_, rfl⟩)) st
  | @l2 p a b o oa eb =>
    have o1 := o.same sm
    have oa1 := oa.same sm
    have eb1 := sm _ _ eb
    refine ch1_of ?_
    refine is_ok (var_ok hv) (.lst o1.at_) (b := true) (by decide +kernel) (iteT ?_)
    refine app_ok (var_ok hv) o1.at_ (by simp) ?_
    have e3 : (upd H p (.lst ([V.ref a, .ref b] ++ [.str "later"]))) p = some (.lst ([V.ref a, .ref b] ++ [.str "later"])) := upd_same
    refine no_dict hv (.lst e3) (by decide +kernel) (no_tup hv (.lst e3) (by decide +kernel) ?_)
    have ap : a ≠ p := fun e2 => by
      have := oa1.at_
      rw [e2, o1.at_] at this
      cases this
    have bp : b ≠ p := fun e2 => by
      rw [e2, o1.at_] at eb1
      cases eb1
    obtain ⟨t, st⟩ := shows_of (K := K) (H := upd H p (.lst ([V.ref a, .ref b] ++ [.str "later"]))) (v := .ref p)
      (.lst o1.sm (SqL.of e3) (.cons (.lst oa1.sm (SqL.of (by rw [upd_ne ap]; exact oa1.at_)) d1) (.cons (.dic (kvs := [("odd", _)]) (by rw [upd_ne bp]; exact eb1) (.cons (.str z) .nil)) (.cons (.str "later") .nil))))
      ((SmA.cons (n := 40000) (k := 2) ((SmA.cons (sm_word hz) .nil).list.mono (by decide) (by decide)) (.cons ((SmK.cons (n := 0) sm_odd (sm_word hz) .nil).dict.mono (by decide) (by decide)) (.cons (sm_later.mono (by decide) (by decide)) .nil))).list)
    exact h t _ (Kept.of sm o.at_ o.ne (.inl ⟨_, rfl⟩)) st
end
end K1
/-! the law's def -/
namespace K1
open PySem PySem.Spec PyProof.Rows L2 He
/-- a def by its name, with its promise -/
structure Has (P : Program) (w : World) (K : Frag) (mg : Str → Option Value) (base : Heap) (k : Nat) (x : Str) (ps : List Str) (sp : Sp) : Prop where
  ex : ∃ (f : Addr) (fd : FuncData), FnOk P w K mg base CX0 k f fd ps sp ∧ PySem.W.keepIn K (.ref f) = true ∧ L2.Binds K fd ps [] ∧ mg x = some (.ref f)
structure HasG (P : Program) (w : World) (K : Frag) (mg : Str → Option Value) (base : Heap) (k : Nat) (x : Str) (ps : List Str) (sp : Sp) : Prop where
  ex : ∃ (f : Addr) (fd : FuncData), FnG P w K mg base k f fd ps sp ∧ PySem.W.keepIn K (.ref f) = true ∧ L2.Binds K fd ps [] ∧ mg x = some (.ref f)
def spLaw (K : Frag) : Sp := fun vs H Q _ => ∃ (a : Addr) (ns : List Int), vs = [.ref a] ∧ SqL K H a (ns.map V.int) ∧ ∀ H', Q (.bl true) H'
def laterD (z : Str) : PyData := .tuple [.str "later", .str z]
theorem later_shows {K : Frag} {H : Hp} {p : Addr} {z : Str} (hz : Word z) (e : H p = some (.tup [.str "later", .str z])) : Shows K H (.ref p) (laterD z).shown := by
  have s : Sm (laterD z) (3 + 9 * (2000 + 2)) (1 + 1) := (SmA.cons sm_later (.cons (sm_word hz) .nil)).tuple
  exact ⟨_, .tup (SqT.of e) (.cons (.str _) (.cons (.str _) .nil)), s.1, Nat.le_trans s.2.1 (by decide), Nat.le_trans s.2.2 (by rw [sizeLine_eq]; decide), rfl⟩
theorem non_shows {K : Frag} {H : Hp} : Shows K H .non "None" := ⟨.none, .non, rfl, by decide, by decide, rfl⟩
theorem rRepr_of {K : Frag} {H : Hp} {v : V} {t : Str} {Q : VK} (sh : Shows K H v t) (h : Q (.str t) H) : rRepr K [v] H Q := by
  obtain ⟨d, h1, h2, h3, h4, rfl⟩ := sh.ex
  exact ⟨v, d, rfl, h1, h2, h3, h4, h⟩
theorem right_of {K : Frag} {H : Hp} {l : Addr} {ys : List V} {v : V} {t : Str} {Q : VK} {E : XK} (el : H l = some (.lst ys)) (er : ErrAll K H v ys errs) (sh : Shows K H v t) (h : ∀ H', Same H H' → Q (.bl true) H') : spRight K [.ref l, .str t] H Q E := ⟨l, ys, v, t, rfl, el, er, sh, h⟩
theorem ErrD.updL {H : Hp} {a C p : Addr} {d : Option Addr} {xs : List V} {o : HO} (h : ErrD H a C d) (e : H p = some (.lst xs)) : ErrD (upd H p o) a C d := by
  obtain ⟨h1, h2⟩ := h
  refine ⟨?_, fun dx q => ?_⟩
  · rw [upd_ne]
    · exact h1
    · intro z
      rw [z, e] at h1
      cases h1
  · obtain ⟨fs, h3⟩ := h2 dx q
    refine ⟨fs, ?_⟩
    rw [upd_ne]
    · exact h3
    · intro z
      rw [z, e] at h3
      cases h3
theorem Asked.updL {K : Frag} {H : Hp} {a C p : Addr} {b : Str → Bool} {xs : List V} {o : HO} (A : Asked K H a C b) (e : H p = some (.lst xs)) : Asked K (upd H p o) a C b := ⟨A.ec, let ⟨d, h⟩ := A.at_; ⟨d, h.updL e⟩, A.kit, A.top, A.ve⟩
section
variable {P : Program} {w : World} {K : Frag} {mg : Str → Option Value} {base : Heap}
theorem ok_law {f : Addr} {fd : FuncData} (F : FnP K "law" s_law f fd) (T : TX K mg) (B : FreeN mg)
    (GPs : Has P w K mg base 2 "_law_purses" ["_law_script", "_law_few"] (spPurses K)) (GW : Has P w K mg base 3 "_law_word" ["_law_purse_here"] spWord) (GO : Has P w K mg base 3 "_law_one_of" ["_law_purse_here", "_law_some"] spOne)
    (GF : Has P w K mg base 3 "_law_first" ["_law_thing"] (spFirst K)) (GA : Has P w K mg base 3 "_law_called" ["_law_thing"] (spFirst K)) (GB : Has P w K mg base 3 "_law_bare" [] (spBare K))
    (GC : Has P w K mg base 1 "_law_code" ["_law_error"] (spCode K)) (GE : Has P w K mg base 1 "_law_is_error" ["_law_error"] (spIsErr K)) (GR : HasG P w K mg base 3 "_law_right" ["_law_some", "_law_noted"] (spRight K)) :
    FnG P w K mg base 4 f fd ["_law_script"] (spLaw K) := by
  obtain ⟨f1, fd1, GPs, k1, b1, g1⟩ := GPs.ex
  obtain ⟨f2, fd2, GW, k2, b2, g2⟩ := GW.ex
  obtain ⟨f3, fd3, GO, k3, b3, g3⟩ := GO.ex
  obtain ⟨f4, fd4, GF, k4, b4, g4⟩ := GF.ex
  obtain ⟨f5, fd5, GA, k5, b5, g5⟩ := GA.ex
  obtain ⟨f6, fd6, GB, k6, b6, g6⟩ := GB.ex
  obtain ⟨f7, fd7, GC, k7, b7, g7⟩ := GC.ex
  obtain ⟨f8, fd8, GE, k8, b8, g8⟩ := GE.ex
  obtain ⟨f9, fd9, GR, k9, b9, g9⟩ := GR.ex
  refine fun_okG F sc_law (fun vs H Q E h => ?_) (fun cdv A outer s H vs Q E hgd hr h => ?_)
  · obtain ⟨a, ns, rfl, _⟩ := h
    rfl
  · obtain ⟨a, ns, rfl, hS, k⟩ := h
    have nd := sc_law.nd
    have hr1 : Room 1 _ := hr.mono (by decide)
    have hr2 : Room 2 _ := hr.mono (by decide)
    have hu := hr.units
    have hu1 := Nat.lt_of_le_of_lt (Nat.add_le_add_left (by decide : 1 ≤ 64) _) hu
    refine ⟨_, pss_cons (ps_for PassesOwn.never rfl (pi_list (pe_call GPs hr2 (by rfl) g1 k1 b1 .nil pass0 (pa_cons (pv 0) (pa_cons pe_int pa_nil)))) (pg_name (i := 1) nd rfl (.inl rfl))
        (pss_cons (ps_set (i := 2) nd rfl (.inl rfl) (pe_call GW hr (by rfl) g2 k2 b2 .nil pass0 (pa_cons (pv 1) pa_nil)))
        (pss_cons (ps_set (i := 3) (te := tPlain K) nd rfl (.inl rfl) (by rw [tPlain_eq]; exact (pe_lst (pa_cons pe_non (pa_cons pe_bl (pa_cons pe_bl (pa_cons pe_int (pa_cons (pv 2) (pa_cons (pe_un un_neg (pe_ix ix_list (pv 1) pe_int (fun _ _ => rfl)))
          (pa_cons (pe_tup (pa_cons pe_str (pa_cons (pv 2) (pa_cons pe_int (pa_cons pe_int pa_nil))))) (pa_cons (pe_tup (pa_cons (pv 2) (pa_cons (pe_lstB (pa_cons (pv 2) pa_nil)) pa_nil)))
          (pa_cons (pe_disp (pps_cons (pv 2) (pe_lstB (pa_cons (pv 2) pa_nil)) pps_nil) rfl rfl (by simp) (by decide)) pa_nil))))))))))))
        (pss_cons (ps_set (i := 4) nd rfl (.inl rfl) (pe_call GO hr (by rfl) g3 k3 b3 .nil pass0 (pa_cons (pv 1) (pa_cons (pe_op op_cat (pv 3) (show PE _ _ tTwo by rw [tTwo_eq]; exact (pe_lst (pa_cons (pe_lstB (pa_cons (pv 2) pa_nil))
          (pa_cons (pe_lstB (pa_cons (pe_lstB (pa_cons (pv 2) pa_nil)) (pa_cons (pe_disp (pps_cons pe_str (pv 2) pps_nil) rfl rfl (by simp) (by decide)) pa_nil))) pa_nil))))) pa_nil))))
        (pss_cons (ps_set (i := 5) nd rfl (.inl rfl) (pe_repr (pv 4) B.rep hgd hu))
        (pss_cons (ps_par3 (i := 6) (j := 7) (l := 8) rfl nd rfl rfl rfl (by decide) (by decide) (by decide) rfl rfl rfl
          (pa_cons (pe_call GF hr (by rfl) g4 k4 b4 .nil pass0 (pa_cons (pv 4) pa_nil)) (pa_cons (pe_call GA hr (by rfl) g5 k5 b5 .nil pass0 (pa_cons (pv 4) pa_nil))
            (pa_cons (pe_call GF hr (by rfl) g4 k4 b4 .nil pass0 (pa_cons (pe_tup (pa_cons pe_str (pa_cons (pv 2) pa_nil))) pa_nil)) pa_nil))) rfl)
        (pss_cons (ps_if (PW.pt (pw_or (pt_not (pt_val (pe_callG GR hgd hr (by rfl) g9 k9 b9 (pa_cons (pe_call0 GB hr (by rfl) g6 k6 b6 .nil pass0) (pa_cons pe_str pa_nil)))))
            (pw_or1 (pt_not (pt_val (pe_callG GR hgd hr (by rfl) g9 k9 b9 (pa_cons (pv 8) (pa_cons (pe_repr (pe_tup (pa_cons pe_str (pa_cons (pv 2) pa_nil))) B.rep hgd hu) pa_nil)))))))) (pss_one (ps_ret pe_bl)) pss_nil)
        (pss_cons (ps_if (PW.pt (pw_or (pt_not (pt_val (pe_callG GR hgd hr (by rfl) g9 k9 b9 (pa_cons (pv 6) (pa_cons (pv 5) pa_nil)))))
            (pw_or1 (pt_not (pt_val (pe_callG GR hgd hr (by rfl) g9 k9 b9 (pa_cons (pv 7) (pa_cons (pv 5) pa_nil)))))))) (pss_one (ps_ret pe_bl)) pss_nil)
        (pss_cons (t := tCh1 K) (by rw [tCh1_eq]; exact (ps_if (pt_val (pe_callB call_isi (by rfl) B.isi (by decide +kernel) (pa_cons (pv 4) (pa_cons (pe_bltn (v := .ty "list") (by rfl) B.list (by decide +kernel) rfl) pa_nil))))
            (pss_one (ps_expr (pe_bm PySem.F.plainAttrs_list PySem.F.slot_list_append PySem.F.type_list_append mt_append (pv 4) (pa_cons pe_str pa_nil)))) pss_nil))
        (pss_cons (t := tCh2 K) (by rw [tCh2_eq]; exact (ps_if (pt_val (pe_callB call_isi (by rfl) B.isi (by decide +kernel) (pa_cons (pv 4) (pa_cons (pe_bltn (v := .ty "dict") (by rfl) B.dict (by decide +kernel) rfl) pa_nil))))
            (pss_cons (ps_expr (pe_bm PySem.F.plainAttrs_list PySem.F.slot_list_append PySem.F.type_list_append mt_append (pe_dget hu1 (pv 4) (pv 2) (fun _ _ => rfl)) (pa_cons pe_str pa_nil)))
              (pss_one (ps_asg pe_int (pg_sub (pv 4) pe_str (set_dict hu1))))) pss_nil))
        (pss_cons (t := tCh3 K) (by rw [tCh3_eq]; exact (ps_if (PW.pt (pw_and (pt_val (pe_callB call_isi (by rfl) B.isi (by decide +kernel) (pa_cons (pv 4) (pa_cons (pe_bltn (v := .ty "tuple") (by rfl) B.tuple (by decide +kernel) rfl) pa_nil))))
            (pw_and1 (pt_val (pe_callB call_isi (by rfl) B.isi (by decide +kernel) (pa_cons (pe_ix ix_tup (pv 4) pe_int (fun _ _ => rfl)) (pa_cons (pe_bltn (v := .ty "list") (by rfl) B.list (by decide +kernel) rfl) pa_nil)))))))
            (pss_one (ps_expr (pe_bm PySem.F.plainAttrs_list PySem.F.slot_list_append PySem.F.type_list_append mt_append (pe_ix ix_tup (pv 4) pe_int (fun _ _ => rfl)) (pa_cons pe_str pa_nil)))) pss_nil))
        (pss_one (ps_if (PW.pt (pw_or (pt_not (pt_val (pe_callG GR hgd hr (by rfl) g9 k9 b9 (pa_cons (pv 6) (pa_cons (pe_repr (pv 4) B.rep hgd hu) pa_nil)))))
            (pw_or1 (pt_not (pt_val (pe_callG GR hgd hr (by rfl) g9 k9 b9 (pa_cons (pv 7) (pa_cons (pe_repr (pv 4) B.rep hgd hu) pa_nil)))))))) (pss_one (ps_ret pe_bl)) pss_nil)))))))))))))
      (pss_cons (ps_set (i := 9) nd rfl (.inl rfl) (pe_lst (pa_cons (pe_mkN T (x := "NothingToUndo") (by decide)) (pa_cons (pe_mkN T (x := "NothingToRedo") (by decide)) pa_nil))))
      (pss_cons (ps_if (pt_cmpR (op_neD hu)
        (pe_lc (own := [("_law_error", 10)]) (g := gName 10) (tt := tYes) rfl nd (pi_list (pv 9)) (blkOk_by (N := ["_law_script", "_law_purse_here", "_law_word_here", "_law_plain", "_law_thing", "_law_noted", "_law_some", "_law_called_here", "_law_later", "_law_rest", "_law_error"]) (sc := defScope s_law) (by decide +kernel)) (fun _ _ _ _ _ => pg_name (i := 10) nd rfl (Or.inl rfl)) (fun _ _ _ _ _ => pts_nil)
          (fun _ _ _ _ _ => pe_call GC hr1 (by rfl) g7 k7 b7 .nil pass0 (pa_cons (pv 10) pa_nil)))
        (pe_lst (pa_cons (pe_lst (pa_cons pe_int pa_nil)) (pa_cons (pe_lst (pa_cons pe_int pa_nil)) pa_nil))) (nomark _)) (pss_one (ps_ret pe_bl)) pss_nil)
      (pss_cons (ps_expr (pe_bm PySem.F.plainAttrs_list PySem.F.slot_list_append PySem.F.type_list_append mt_append (pv 9) (pa_cons (pe_mkN T (x := lampE) (List.mem_cons_self)) pa_nil)))
      (pss_one (ps_ret (pe_and (pe_callB (cr_all rfl) (by rfl) B.all (by decide +kernel) (pa_cons
          (pe_lc (own := [("_law_error", 10)]) (g := gName 10) (tt := tYes) rfl nd (pi_list (pv 9)) (blkOk_by (N := ["_law_script", "_law_purse_here", "_law_word_here", "_law_plain", "_law_thing", "_law_noted", "_law_some", "_law_called_here", "_law_later", "_law_rest", "_law_error"]) (sc := defScope s_law) (by decide +kernel)) (fun _ _ _ _ _ => pg_name (i := 10) nd rfl (Or.inl rfl)) (fun _ _ _ _ _ => pts_nil)
          (fun _ _ _ _ _ => pe_call GE hr1 (by rfl) g8 k8 b8 .nil pass0 (pa_cons (pv 10) pa_nil))) pa_nil))
        (pe_one (pe_cmpR (op_eqD hu) (pe_call GC hr1 (by rfl) g7 k7 b7 .nil pass0 (pa_cons (pe_ix ix_list (pv 9) pe_int (fun _ _ => rfl)) pa_nil)) (pe_lst pa_nil) (nomark _))))))))), ?_⟩
    refine ⟨_, rfl, a, ns, rfl, hS, fun l q H1 sm1 nl nq el pu => ⟨l, rfl, ⟨_, SqL.of el⟩, for_list (K := K) (a := l) (xs := [.ref q]) (fun i σ H' => ∃ w1 w2 w3 w4 w5 w6 w7 w8 : Option V, σ = [some (.ref a), w1, w2, w3, w4, w5, w6, w7, w8, none, none] ∧ H' l = some (.lst [.ref q]) ∧ (i = 0 → Purse H' q 0))
      ⟨none, none, none, none, none, none, none, none, rfl, el, fun _ => pu⟩ (fun i σ H' _ hP => let ⟨_, _, _, _, _, _, _, _, _, e, _⟩ := hP; SqL.of e) ?_ ?_⟩⟩
    · rintro i x σ H' hi ⟨w1, w2, w3, w4, w5, w6, w7, w8, rfl, el', pu'⟩
      obtain ⟨rfl, rfl⟩ : i = 0 ∧ x = .ref q := by
        cases i with
        | zero =>
          simp at hi
          exact ⟨rfl, hi.symm⟩
        | succ j => simp at hi
      have pu0 := pu' rfl
      have lq : l ≠ q := by
        intro e
        obtain ⟨p, s, t, c, e1, _⟩ := pu0
        rw [e, e1] at el'
        cases el'
      refine ⟨_, rfl, q, 0, rfl, pu0, by decide, fun z H2 hz pu2 bt2 => ?_⟩
      have el2 := bt2 l _ lq el'
      refine st_plain (K := K) (l := l) (q := q) (n := 0 + 20) rfl pu2 rfl el2 fun p3 vs H3 sm3 np3 e3 lv th3 => ?_
      refine ⟨_, rfl, _, rfl, tTwo_ok (l := l) rfl (sm3 _ _ el2) fun p4 ws H4 sm4 np4 e4 lw th4 => ⟨p3, p4, vs, ws, rfl, rfl, sm4 _ _ e3, e4, ?_, fun p5 np5 => ?_⟩⟩
      · rw [lv, lw]
        decide
      have s5 : Same H4 (upd H4 p5 (.lst (vs ++ ws))) := same_new np5
      have sm25 := (sm3.trans sm4).trans s5
      have pu5 := pu2.same sm25
      have p5q : p5 ≠ q := by
        intro e
        obtain ⟨p, s, t, c, e1, _⟩ := pu2.same (sm3.trans sm4)
        rw [e, e1] at np5
        cases np5
      have lvw : (vs ++ ws).length = 11 := by rw [List.length_append, lv, lw]
      refine ⟨q, p5, vs ++ ws, 0 + 20, rfl, p5q, upd_same, by omega, by omega, pu5, by decide, fun i v H6 hv pu6 bt6 => ?_⟩
      have th5 : Thing l (upd H4 p5 (.lst (vs ++ ws))) z v := by
        rcases List.mem_append.mp (List.mem_of_getElem? hv) with h | h
        · exact (th3 v h).same (sm4.trans s5)
        · exact (th4 v h).same s5
      have th6 := th5.but pu5 bt6
      have el6 := bt6 l _ lq (sm25 _ _ el2)
      obtain ⟨t6, sh6⟩ := th6.shows (K := K) hz
      obtain ⟨d6, q1, q2, q3, q4, rfl⟩ := sh6.ex
      refine ⟨_, rfl, v, d6, rfl, q1, q2, q3, q4, ?_⟩
      refine ⟨_, rfl, v, rfl, fun l7 y7 H7 sm7 n7 e7 r7 => ?_⟩
      refine ⟨_, rfl, v, rfl, fun l8 y8 H8 sm8 n8 e8 r8 => ?_⟩
      refine ⟨_, rfl, (by show 2 ≤ sizeLine; decide), fun pt npt => ⟨_, rfl, fun l9 y9 H9 sm9 n9 e9 r9 => ⟨_, _, _, rfl, ?_⟩⟩⟩
      have sT : Same H8 (upd H8 pt (.tup [.str "later", .str z])) := same_new npt
      have s89 := sT.trans sm9
      have s79 := sm8.trans s89
      -- the bare ones, the later ones
      refine ⟨rfl, fun lb yb Hb smb nb eb rb => ⟨lb, yb, .non, "None", rfl, eb, rb, non_shows, fun Hc smc => ⟨true, rfl, ?_⟩⟩⟩
      refine if_no rfl ?_
      refine ⟨_, rfl, _, rfl, (by show 2 ≤ sizeLine; decide), fun pe npe => ?_⟩
      have shL := later_shows (K := K) (H := upd Hc pe (.tup [.str "later", .str z])) hz upd_same
      obtain ⟨dL, u1, u2, u3, u4, u5⟩ := shL.ex
      have s9e := (smb.trans smc).trans (same_new (o := .tup [.str "later", .str z]) npe)
      refine ⟨_, dL, rfl, u1, u2, u3, u4, ?_⟩
      have shT : Shows K (upd Hc pe (.tup [.str "later", .str z])) (.ref pt) dL.shown := by
        rw [u5]
        exact later_shows hz (s9e _ _ (sm9 _ _ upd_same))
      refine ⟨l9, y9, .ref pt, _, rfl, s9e _ _ e9, r9.same s9e, shT, fun Hd smd => ⟨true, rfl, ?_⟩⟩
      refine if_no rfl ?_
      have s9d := s9e.trans smd
      have s7d := s79.trans s9d
      have s8d := s89.trans s9d
      have s6d := sm7.trans s7d
      refine ⟨_, rfl, _, rfl, l7, y7, v, _, rfl, s7d _ _ e7, r7.same s7d, sh6.same s6d, fun Hf smf => ⟨true, rfl, ?_⟩⟩
      refine if_no rfl ?_
      refine ⟨_, rfl, _, rfl, l8, y8, v, _, rfl, (s8d.trans smf) _ _ e8, r8.same (s8d.trans smf), sh6.same (s6d.trans smf), fun Hg smg => ⟨true, rfl, ?_⟩⟩
      refine if_no rfl ?_
      have s6g := (s6d.trans smf).trans smg
      have s7g := (s7d.trans smf).trans smg
      have s8g := (s8d.trans smf).trans smg
      refine st_change (K := K) (H0 := H6) (l := l) hz rfl rfl th6 s6g fun t' Hh kp sh' => ?_
      obtain ⟨dh, v1, v2, v3, v4, rfl⟩ := sh'.ex
      refine ⟨_, rfl, _, rfl, v, dh, rfl, v1, v2, v3, v4, l7, y7, v, _, rfl, kp l7 _ (s7g _ _ e7) (.inl n7), ErrAll.kept kp (r7.same s7g), sh', fun Hi smi => ⟨true, rfl, ?_⟩⟩
      refine if_no rfl ?_
      refine ⟨_, rfl, _, rfl, v, dh, rfl, v1.same smi, v2, v3, v4, l8, y8, v, _, rfl, smi _ _ (kp l8 _ (s8g _ _ e8) (.inl (sm7.free n8))), (ErrAll.kept kp (r8.same s8g)).same smi, sh'.same smi, fun Hj smj => ⟨true, rfl, ?_⟩⟩
      refine if_no rfl ?_
      exact ⟨_, _, _, _, _, _, _, _, rfl, (smi.trans smj) _ _ (kp l _ (s6g _ _ el6) (.inr (.inl rfl))), fun z => absurd z (by decide)⟩
    · rintro σ H' ⟨w1, w2, w3, w4, w5, w6, w7, w8, rfl, el', _⟩
      intro a1 H2 s2 n1 e1 a2 H3 s3 n2 e2
      refine ⟨(by show 2 ≤ sizeLine; decide), fun pr npr => ?_⟩
      have sr : Same H3 (upd H3 pr (.lst [.ref a1, .ref a2])) := same_new npr
      have A1 := err_asked T (x := "NothingToUndo") (by decide) ((e1.same s3).same sr)
      have A2 := err_asked T (x := "NothingToRedo") (by decide) (e2.same sr)
      refine ⟨_, rfl, pr, rfl, ⟨_, SqL.of upd_same⟩, fun D nD => ?_⟩
      refine lc_list (K := K) (a := pr) (xs := [.ref a1, .ref a2]) (fun i H' => Same (upd H3 pr (.lst [.ref a1, .ref a2])) H' ∧ ∃ os, H' D = some (.lst os) ∧ OnesD D H' os 27 ∧ os.length = i) ⟨same_new nD, [], upd_same, .nil, rfl⟩
        (fun i H' _ hP => SqL.of (hP.1 _ _ upd_same)) ?_ ?_
      · rintro i y H' hi ⟨sm, os, eD, oo, lo⟩
        have hi2 : i < 2 := (List.getElem?_eq_some_iff.mp hi).1
        obtain ⟨b, C, bf, rfl, A, ec0⟩ : ∃ (b C : Addr) (bf : Str → Bool), y = .ref b ∧ Asked K (upd H3 pr (.lst [.ref a1, .ref a2])) b C bf ∧ codeOf bf = [V.int ((27 + i : Nat) : Int)] := by
          match i, hi with
          | 0, hi =>
            simp at hi
            exact ⟨a1, _, _, hi.symm, A1, by rw [code_bare.1]; rfl⟩
          | 1, hi =>
            simp at hi
            exact ⟨a2, _, _, hi.symm, A2, by rw [code_bare.2.1]; rfl⟩
          | n + 2, hi => simp at hi
        refine ⟨rfl, _, rfl, b, _, _, rfl, A.same sm, fun c H4 s4 nc ec => ⟨os, s4 _ _ eD, ?_, keepD nD sm s4, _, upd_same, ?_, ?_⟩⟩
        · rw [lo]
          exact small1000 (by omega)
        · rw [ec0] at ec
          have cD : c ≠ D := fun e => by
            rw [e, eD] at nc
            cases nc
          refine OnesD.upd (OnesD.snoc cD (oo.same s4) ?_)
          rw [lo]
          exact ec
        · rw [List.length_append, lo]
          rfl
      · rintro H4 ⟨s4, os, eD, oo, lo⟩
        refine ⟨(by show 1 ≤ sizeLine; decide), fun c1 nc1 => ⟨(by show 1 ≤ sizeLine; decide), fun c2 nc2 => ⟨(by show 2 ≤ sizeLine; decide), fun c3 nc3 => ?_⟩⟩⟩
        have s5 := same_new (o := .lst [.int 27]) nc1
        have s6 := same_new (o := .lst [.int 28]) nc2
        have s7 := same_new (o := .lst [.ref c1, .ref c2]) nc3
        have s57 := (s5.trans s6).trans s7
        have d1 : Dp K (upd (upd (upd H4 c1 (.lst [.int 27])) c2 (.lst [.int 28])) c3 (.lst [.ref c1, .ref c2])) (.ref D) (.list (onesD 27 2)) := by
          have h := (oo.same s57).dp (K := K)
          rw [lo] at h
          exact .lst (SqL.of (s57 _ _ eD)) h
        have d2 : Dp K (upd (upd (upd H4 c1 (.lst [.int 27])) c2 (.lst [.int 28])) c3 (.lst [.ref c1, .ref c2])) (.ref c3) (.list (onesD 27 2)) :=
          .lst (SqL.of upd_same) (.cons (.lst (SqL.of (s7 _ _ (s6 _ _ upd_same))) (.cons (.int _) .nil)) (.cons (.lst (SqL.of (s7 _ _ upd_same)) (.cons (.int _) .nil)) .nil))
        have hsh : SeqAt.shaped (.list (onesD 27 2)) = true := by decide +kernel
        refine ⟨_, _, d1, d2, hsh, hsh, _, rfl, ?_⟩
        refine if_no (by rw [SeqAt.eqv_refl _ (SeqAt.canLay_of_shaped hsh)]; rfl) ?_
        have s47 := s4.trans s57
        refine ⟨_, rfl, .inl ⟨rfl, _, SqL.of (s47 _ _ upd_same)⟩, fun a3 H8 s8 n3 e3 => ⟨pr, [.ref a1, .ref a2], _, rfl, rfl, s8 _ _ (s47 _ _ upd_same), (by show 2 < sizeLine; decide), ?_⟩⟩
        have e8 := s8 _ _ (s47 _ _ upd_same)
        have B1 := ((A1.same s47).same s8).updL (o := .lst ([.ref a1, .ref a2] ++ [.ref a3])) e8
        have B2 := ((A2.same s47).same s8).updL (o := .lst ([.ref a1, .ref a2] ++ [.ref a3])) e8
        have B3 := (top_asked T e3).updL (o := .lst ([.ref a1, .ref a2] ++ [.ref a3])) e8
        refine ⟨_, rfl, pr, rfl, ⟨_, SqL.of upd_same⟩, fun D2 nD2 => ?_⟩
        refine lc_list (K := K) (a := pr) (xs := [.ref a1, .ref a2] ++ [.ref a3]) (fun i H' => Same (upd H8 pr (.lst ([.ref a1, .ref a2] ++ [.ref a3]))) H' ∧ H' D2 = some (.lst ((List.replicate i true).map V.bl))) ⟨same_new nD2, upd_same⟩
          (fun i H' _ hP => SqL.of (hP.1 _ _ upd_same)) ?_ ?_
        · rintro i y H' hi ⟨sm, eD2⟩
          have hi3 : i < 3 := (List.getElem?_eq_some_iff.mp hi).1
          obtain ⟨b, C, bf, rfl, A⟩ : ∃ (b C : Addr) (bf : Str → Bool), y = .ref b ∧ Asked K (upd H8 pr (.lst ([.ref a1, .ref a2] ++ [.ref a3]))) b C bf := by
            match i, hi with
            | 0, hi =>
              simp at hi
              exact ⟨a1, _, _, hi.symm, B1⟩
            | 1, hi =>
              simp at hi
              exact ⟨a2, _, _, hi.symm, B2⟩
            | 2, hi =>
              simp at hi
              exact ⟨a3, _, _, hi.symm, B3⟩
            | n + 3, hi => simp at hi
          refine ⟨rfl, _, rfl, b, _, _, rfl, A.same sm, _, eD2, ?_, keepD nD2 sm (Same.refl _), ?_⟩
          · rw [List.length_map, List.length_replicate]
            exact small1000 (by omega)
          · rw [upd_same, List.replicate_succ', List.map_append]
            rfl
        · rintro H10 ⟨s10, eD2⟩
          refine ⟨D2, List.replicate 3 true, rfl, SqL.of eD2, true, rfl, ?_⟩
          refine iteT ?_
          refine ⟨_, rfl, pr, _, 2, .ref a3, rfl, rfl, SqL.of (s10 _ _ upd_same), rfl, a3, _, _, rfl, B3.same s10, fun c H11 s11 nc ec => ?_⟩
          refine ⟨Nat.zero_le _, fun p np => ?_⟩
          have cp : c ≠ p := ne_of_none ec np
          refine ⟨.list [], .list [], .lst (SqL.of (by rw [upd_ne cp, ec, code_bare.2.2])) .nil, .lst (SqL.of upd_same) .nil, by decide +kernel, by decide +kernel, ?_⟩
          exact k _
end
end K1
/-! the facts of the head, and the end -/
namespace K1
open PySem PySem.Spec PyProof.Rows L2 He
theorem ini_at : ∀ (i : Nat) (x : Str), errs[i]? = some x → ∃ q, (fns ++ inits)[13 + i]? = some (dInit i x q)
  | 0, _, h => by
    cases h
    exact ⟨_, rfl⟩
  | 1, _, h => by
    cases h
    exact ⟨_, rfl⟩
  | 2, _, h => by
    cases h
    exact ⟨_, rfl⟩
  | 3, _, h => by
    cases h
    exact ⟨_, rfl⟩
  | 4, _, h => by
    cases h
    exact ⟨_, rfl⟩
  | 5, _, h => by
    cases h
    exact ⟨_, rfl⟩
  | 6, _, h => by
    cases h
    exact ⟨_, rfl⟩
  | 7, _, h => by
    cases h
    exact ⟨_, rfl⟩
  | 8, _, h => by
    cases h
    exact ⟨_, rfl⟩
  | 9, _, h => by
    cases h
    exact ⟨_, rfl⟩
  | 10, _, h => by
    cases h
    exact ⟨_, rfl⟩
  | 11, _, h => by
    cases h
    exact ⟨_, rfl⟩
  | 12, _, h => by
    cases h
    exact ⟨_, rfl⟩
  | 13, _, h => by
    cases h
    exact ⟨_, rfl⟩
  | 14, _, h => by
    cases h
    exact ⟨_, rfl⟩
  | 15, _, h => by
    cases h
    exact ⟨_, rfl⟩
  | 16, _, h => by
    cases h
    exact ⟨_, rfl⟩
  | 17, _, h => by
    cases h
    exact ⟨_, rfl⟩
  | 18, _, h => by
    cases h
    exact ⟨_, rfl⟩
  | 19, _, h => by
    cases h
    exact ⟨_, rfl⟩
  | 20, _, h => by
    cases h
    exact ⟨_, rfl⟩
  | 21, _, h => by
    cases h
    exact ⟨_, rfl⟩
  | 22, _, h => by
    cases h
    exact ⟨_, rfl⟩
  | 23, _, h => by
    cases h
    exact ⟨_, rfl⟩
  | 24, _, h => by
    cases h
    exact ⟨_, rfl⟩
  | 25, _, h => by
    cases h
    exact ⟨_, rfl⟩
  | 26, _, h => by
    cases h
    exact ⟨_, rfl⟩
  | n + 27, _, h => by
    have e : errs.length = 27 := rfl
    have := (List.getElem?_eq_some_iff.mp h).1
    omega
theorem fas_split : fas = (errs ++ bares ++ [lampE]).map Fa.glo ++ fas.drop 30 := rfl
theorem glo_in {x : Str} (h : x ∈ lampE :: allErrs) : ∃ i : Nat, fas[i]? = some (Fa.glo x) := by
  refine List.mem_iff_getElem?.mp ?_
  rw [fas_split]
  refine List.mem_append_left _ (List.mem_map.mpr ⟨x, ?_, rfl⟩)
  rcases List.mem_cons.mp h with e | h
  · exact List.mem_append_right _ (List.mem_singleton.mpr e)
  · exact List.mem_append_left _ h
section
variable {P : Program} {w : World} {K : Frag} {h : Heap} {mg : Str → Option Value}
theorem tx (X : K.In h) (G : h.Ns mainGlobals mg) (c : SaysD fas (fns ++ inits) K) (m : moreK K = true) : TX K mg := by
  obtain ⟨m1, m⟩ := ba m
  obtain ⟨m2, m3⟩ := ba m
  obtain ⟨m34, m5⟩ := ba m3
  obtain ⟨m3, m4⟩ := ba m34
  have ec : ∀ x ∈ lampE :: allErrs, EC K (ga K x) := fun x hx => by
    rcases List.mem_cons.mp hx with e | hx
    · exact errB_ok (ba (allB m2 x (List.mem_cons.mpr (.inl e)))).1
    · rcases List.mem_append.mp hx with hx | hx
      · exact errB_ok (ba (allB m1 x hx)).1
      · exact errB_ok (ba (allB m2 x (List.mem_cons_of_mem _ hx))).1
  constructor
  · intro x hx
    obtain ⟨i, e⟩ := glo_in hx
    exact glo_ok X G (c.fact i (f := .glo x) e)
  · exact ec
  · intro x hx
    exact (ba (allB m2 x hx)).2
  · intro x hx y hy
    exact of_decide_eq_true (allB (allB m3 x hx) y hy)
  · intro x hx
    obtain ⟨q1, q2⟩ := ba (allB m4 x hx)
    exact ⟨of_decide_eq_true q1, of_decide_eq_true q2⟩
  · intro y hy
    exact of_decide_eq_true (allB m5 y hy)
  · intro x hx
    obtain ⟨q1, q2⟩ := ba (ba (allB m1 x hx)).2
    exact ⟨eqO_ok q1, of_decide_eq_true q2⟩
  · intro x hx
    obtain ⟨i, e⟩ := List.mem_iff_getElem?.mp hx
    have hi : i < 27 := (List.getElem?_eq_some_iff.mp e).1
    obtain ⟨q, e2⟩ := ini_at i x e
    obtain ⟨fd, F⟩ := c.def_ (13 + i) e2
    exact ⟨i, q, fd, hi, F⟩
theorem free (X : K.In h) (G : h.Ns mainGlobals mg) (c : SaysD fas (fns ++ inits) K) : FreeN mg := by
  constructor
  · exact free_ok X G (c.fact 43 (f := .free "sum") rfl)
  · exact free_ok X G (c.fact 44 (f := .free "int") rfl)
  · exact free_ok X G (c.fact 45 (f := .free "max") rfl)
  · exact free_ok X G (c.fact 46 (f := .free "min") rfl)
  · exact free_ok X G (c.fact 47 (f := .free "len") rfl)
  · exact free_ok X G (c.fact 48 (f := .free "range") rfl)
  · exact free_ok X G (c.fact 49 (f := .free "isinstance") rfl)
  · exact free_ok X G (c.fact 50 (f := .free "repr") rfl)
  · exact free_ok X G (c.fact 51 (f := .free "list") rfl)
  · exact free_ok X G (c.fact 52 (f := .free "dict") rfl)
  · exact free_ok X G (c.fact 53 (f := .free "tuple") rfl)
  · exact free_ok X G (c.fact 54 (f := .free "all") rfl)
  · exact free_ok X G (c.fact 55 (f := .free "ValueError") rfl)
theorem facts {f : Addr} (X : K.In h) (G : h.Ns mainGlobals mg) (hfa : mg ("law" : Str) = some (.ref f)) (c : SaysD fas (fns ++ inits) K) (m : moreK K = true) :
    ∃ fd : FuncData, (∀ (s : Shared) (v : Value), BindsTo s fd ⟨[v], []⟩ [("_law_script", v)]) ∧ ∀ base : Heap, K.In base → base.Ns mainGlobals mg → FnG P w K mg base 4 f fd ["_law_script"] (spLaw K) := by
  have T := tx X G c m
  have B := free X G c
  obtain ⟨fd0, F0⟩ := c.def_ 0 (d := dfn "_law_purse" s_purse) rfl
  obtain ⟨fd1, F1⟩ := c.def_ 1 (d := dfn "_law_mixed" s_mixed) rfl
  obtain ⟨fd2, F2⟩ := c.def_ 2 (d := dfn "_law_draw" s_draw) rfl
  obtain ⟨fd3, F3⟩ := c.def_ 3 (d := dfn "_law_purses" s_purses) rfl
  obtain ⟨fd4, F4⟩ := c.def_ 4 (d := dfn "_law_one_of" s_one) rfl
  obtain ⟨fd5, F5⟩ := c.def_ 5 (d := dfn "_law_word" s_word) rfl
  obtain ⟨fd6, F6⟩ := c.def_ 6 (d := dfn "_law_first" s_first) rfl
  obtain ⟨fd7, F7⟩ := c.def_ 7 (d := dfn "_law_called" s_called) rfl
  obtain ⟨fd8, F8⟩ := c.def_ 8 (d := dfn "_law_bare" s_bare) rfl
  obtain ⟨fd9, F9⟩ := c.def_ 9 (d := dfn "_law_code" s_code) rfl
  obtain ⟨fd10, F10⟩ := c.def_ 10 (d := dfn "_law_is_error" s_iserr) rfl
  obtain ⟨fd11, F11⟩ := c.def_ 11 (d := dfn "_law_right" s_right) rfl
  obtain ⟨fd12, F12⟩ := c.def_ 12 (d := dfn "law" s_law) rfl
  have e := hfa.symm.trans (glo_ok X G (c.fact 42 (f := .glo "law") rfl))
  cases e
  have g0 := glo_ok X G (c.fact 30 (f := .glo "_law_purse") rfl)
  have g1 := glo_ok X G (c.fact 31 (f := .glo "_law_mixed") rfl)
  have g2 := glo_ok X G (c.fact 32 (f := .glo "_law_draw") rfl)
  have g3 := glo_ok X G (c.fact 33 (f := .glo "_law_purses") rfl)
  have g4 := glo_ok X G (c.fact 34 (f := .glo "_law_one_of") rfl)
  have g5 := glo_ok X G (c.fact 35 (f := .glo "_law_word") rfl)
  have g6 := glo_ok X G (c.fact 36 (f := .glo "_law_first") rfl)
  have g7 := glo_ok X G (c.fact 37 (f := .glo "_law_called") rfl)
  have g8 := glo_ok X G (c.fact 38 (f := .glo "_law_bare") rfl)
  have g9 := glo_ok X G (c.fact 39 (f := .glo "_law_code") rfl)
  have g10 := glo_ok X G (c.fact 40 (f := .glo "_law_is_error") rfl)
  have g11 := glo_ok X G (c.fact 41 (f := .glo "_law_right") rfl)
  have b := FunD.bindsA (ps := ["_law_script"]) F12 fun _ _ _ _ _ _ us hl => match us, hl with | [_], _ => rfl
  have b2 : L2.Binds K fd2 ["_law_purse_here", "_law_many"] [] := FunD.bindsN F2 fun _ _ _ _ _ _ us hl => match us, hl with | [_, _], _ => rfl
  have b3 : L2.Binds K fd3 ["_law_script", "_law_few"] [] := FunD.bindsN F3 fun _ _ _ _ _ _ us hl => match us, hl with | [_, _], _ => rfl
  have b4 : L2.Binds K fd4 ["_law_purse_here", "_law_some"] [] := FunD.bindsN F4 fun _ _ _ _ _ _ us hl => match us, hl with | [_, _], _ => rfl
  have b5 : L2.Binds K fd5 ["_law_purse_here"] [] := FunD.bindsN F5 fun _ _ _ _ _ _ us hl => match us, hl with | [_], _ => rfl
  have b6 : L2.Binds K fd6 ["_law_thing"] [] := FunD.bindsN F6 fun _ _ _ _ _ _ us hl => match us, hl with | [_], _ => rfl
  have b7 : L2.Binds K fd7 ["_law_thing"] [] := FunD.bindsN F7 fun _ _ _ _ _ _ us hl => match us, hl with | [_], _ => rfl
  have b8 : L2.Binds K fd8 [] [] := FunD.bindsN F8 fun _ _ _ _ _ _ us hl => match us, hl with | [], _ => rfl
  have b9 : L2.Binds K fd9 ["_law_error"] [] := FunD.bindsN F9 fun _ _ _ _ _ _ us hl => match us, hl with | [_], _ => rfl
  have b10 : L2.Binds K fd10 ["_law_error"] [] := FunD.bindsN F10 fun _ _ _ _ _ _ us hl => match us, hl with | [_], _ => rfl
  have b11 : L2.Binds K fd11 ["_law_some", "_law_noted"] [] := FunD.bindsN F11 fun _ _ _ _ _ _ us hl => match us, hl with | [_, _], _ => rfl
  refine ⟨fd12, fun s v => b s [v] rfl, fun base _ _ => ?_⟩
  have GD := ok_draw (P := P) (w := w) (base := base) F2 F1 g1 B
  have GC := ok_code (P := P) (w := w) (base := base) F9 T B
  have GE := ok_iserr (P := P) (w := w) (base := base) F10 T B
  exact ok_law F12 T B ⟨_, _, ok_purses F3 F0 g0 B, F3.kp, b3, g3⟩ ⟨_, _, ok_word F5 GD F2.kp b2 g2 B, F5.kp, b5, g5⟩ ⟨_, _, ok_one F4 GD F2.kp b2 g2 B, F4.kp, b4, g4⟩ ⟨_, _, ok_first F6 T, F6.kp, b6, g6⟩ ⟨_, _, ok_called F7 T, F7.kp, b7, g7⟩
    ⟨_, _, ok_bare F8 T, F8.kp, b8, g8⟩ ⟨_, _, GC, F9.kp, b9, g9⟩ ⟨_, _, GE, F10.kp, b10, g10⟩ ⟨_, _, ok_right F11 T B GC F9.kp b9 g9 GE F10.kp b10 g10, F11.kp, b11, g11⟩
end
end K1
open PySem PySem.W PySem.Calls PyProof.Rows
theorem PySem.Challenge.cw_oddlamps_k01_errors_made_holds : PySem.Challenge.rw_oddlamps_k01_errors_made.Holds := by
  w_on; o_law
  refine HandSHeadRun.head_any (r := OpenLaw.row PySem.Challenge.rw_oddlamps_k01_errors_made) (q := view (OpenLaw.row PySem.Challenge.rw_oddlamps_k01_errors_made).prog [44]) (H := K1.hk) (ob := K1.ob) (M := 9000) (loose := K1.looseN) (d := HandSHeadRun.topDef (OpenLaw.row PySem.Challenge.rw_oddlamps_k01_errors_made).prog 44) (kwd := []) K1.ob_eq
    (by kernel_rfl) (fun s => by kernel_rfl) K1.run (by kernel_rfl) (by kernel_rfl) (by kernel_rfl) (by rfl) (by first | assumption | decide +kernel) (by decide +kernel) ⟨rfl, rfl, rfl, rfl, rfl, by decide +kernel⟩ ?hw ?hc
  case hw => w_witness2
  case hc =>
    refine K1.walkX (l := PySem.Challenge.rw_oddlamps_k01_errors_made) (k := 4) (x := "_law_script") rfl (by decide) (by kernel_rfl) ⟨rfl, by decide, by decide⟩ ?F
    intro w mg fa h Y G hmg0
    obtain ⟨K, KX, c, m⟩ := Y
    have hmg : mg ("law" : PySem.Str) = some (.ref fa) := by
      have e : (HandSHeadRun.topDef (OpenLaw.row PySem.Challenge.rw_oddlamps_k01_errors_made).prog 44).name = ("law" : PySem.Str) := by kernel_rfl
      rw [← e]
      exact hmg0
    obtain ⟨fd, hb, hF⟩ := K1.facts (P := (PySem.Challenge.rw_oddlamps_k01_errors_made).prog) (w := w) KX G hmg c m
    exact ⟨K, fd, K1.spLaw K, KX, hb, fun H a ns hl _ hS => ⟨a, ns, rfl, hS, fun _ => rfl⟩, hF⟩
